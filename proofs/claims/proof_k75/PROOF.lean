import PyProof.Rows.All
import Wide.All
import OpenK.AllK
import PySem.Challenge.RW_roundfall_k75_rows_refused
set_option Elab.async false
set_option linter.all false
set_option compiler.extract_closed false
set_option maxRecDepth 100000
local macro_rules|`(tactic|nofun)=>`(tactic|decide +kernel)
local macro_rules|`(tactic|ac_rfl)=>`(tactic|first|exact Or.inl rfl|exact Or.inr (Or.inl rfl)|exact Or.inr (Or.inr rfl)|exact Or.inr rfl)
local macro_rules|`(nofun)=>`(by kernel_rfl)
local macro_rules|`(tactic|ext)=>`(tactic|kernel_rfl)
namespace L2
open PySem PySem.Spec PyProof.Rows
def inClass (s:Stmt)(j:Nat):Stmt:=match s with
 | .ClassDef _ _ _ body _ _ _ _ _ _ _=>body.getD j (.Pass ⟨0,0,0,0⟩)
 | _=>.Pass ⟨0,0,0,0⟩
def defArgs (s:Stmt):Arguments:=match s with
 | .FunctionDef _ a _ _ _ _ _ _ _ _=>a
 | _=>{ posonlyargs:=[],args:=[],vararg:=none,kwonlyargs:=[],kw_defaults:=[],kwarg:=none,defaults:=[] }
def defBody (s:Stmt):List Stmt:=match s with
 | .FunctionDef _ _ b _ _ _ _ _ _ _=>b
 | _=>[]
def defScope (s:Stmt):Scope:=match s with
 | .FunctionDef _ _ _ _ _ _ sc _ _ _=>sc
 | _=>{ kind:=.function,names:=[],isGenerator:=false,isCoroutine:=false }
end L2
namespace Law
open PySem PySem.Spec PyProof.Rows
def top (i:Nat):Stmt:=PySem.Challenge.pw_roundfall_k75_rows_refused.main.body.getD i (.Pass ⟨0,0,0,0⟩)
end Law
namespace Law
noncomputable section
open PySem PySem.W PySem.Spec PyProof.Rows L2
def Q5:Obj:=⟨.type "module",some 0,.plain,#[]⟩
abbrev F9:List Value:=[.type "ValueError",.type "Exception",.type "BaseException",.type "object"]
def G3 (s:Stmt):Str:=match s with
 | .FunctionDef x _ _ _ _ _ _ _ _ _=>x
 | .ClassDef x _ _ _ _ _ _ _ _ _ _=>x
 | _=>""
def G8 (s:Stmt)(q:Str)(t l a u:Nat):Obj:=⟨.type "code",none,.fields #[.str (G3 s) t,.str q (t+1),.str "/claim/cut.py" (t+2),.int l 0,.int (defArgs s).args.length 0,.int 0 0,.int 0 0,.int 3 0,.ref a,.bool true,.int 181 0,.ref (a+1),.none,bif u.beq 3 then .none else .ref (a+2),bif u.beq 3 then .none else .ref (a+3),.ref (bif u.beq 3 then a+2 else a+4),.int (t+u:Nat) 0,.int l 0,.str "/claim/cut.py" (t+u+1)],#[]⟩
def L5 (s:Stmt)(q:Str)(m:Value)(c:Addr):Obj:=⟨.type "function",none,.func (fnOf (G3 s) q (defArgs s) (defBody s) (defScope s) .none .none .none m none (.ref c) .none),#[]⟩
noncomputable def M6:List (Nat×Nat×Nat×Nat×Nat):=[(1,189,2,15,4),(2,196,4,22,6),(3,205,9,29,5),(4,213,11,36,6),(5,222,16,43,3),(19,368,39,145,4),(20,375,41,152,3),(21,381,45,157,6),(22,390,47,164,3),(23,396,55,169,3),(24,402,60,174,4),(25,409,64,181,4),(26,416,66,188,6),(29,442,76,207,7),(30,452,79,214,7),(31,462,82,221,3),(32,468,84,226,8),(33,479,91,233,5),(35,489,96,240,3),(36,495,99,245,3),(37,501,102,250,3),(38,507,107,255,4),(39,514,109,262,5),(40,522,115,269,6),(41,531,119,276,7),(42,541,126,283,6),(43,550,131,290,4),(44,557,133,297,3),(45,563,135,302,3),(46,569,138,307,3),(47,575,141,312,5),(53,614,163,338,8),(54,625,165,345,3),(56,633,177,350,3),(57,639,179,355,6),(58,648,181,362,3),(59,654,186,367,3),(60,660,188,372,5),(61,668,192,379,6),(63,679,195,386,3),(71,748,232,434,9),(73,762,241,441,10),(74,775,249,448,5),(75,783,251,455,9),(77,797,260,462,7),(78,807,266,469,7),(79,817,269,476,6),(80,826,271,483,3),(90,887,305,527,9),(94,905,318,534,3),(95,911,323,539,3),(96,917,326,544,3),(97,923,328,549,6),(98,932,336,556,4),(99,939,340,563,3),(100,945,344,568,3),(107,1015,361,585,3),(108,1021,363,590,4),(109,1028,367,597,4),(110,1035,371,604,3),(111,1041,375,609,4),(112,1048,380,616,5),(113,1056,390,623,5),(114,1064,395,630,8),(117,1083,405,642,5),(119,1097,409,654,5),(121,1113,413,668,5),(125,1139,420,689,6),(127,1149,429,696,5),(128,1157,431,703,6),(129,1166,435,710,3),(130,1172,439,715,3),(131,1178,441,720,3),(132,1184,444,725,3),(133,1190,446,730,3),(134,1196,451,735,6),(137,1255,487,777,5),(138,1263,491,784,7),(139,1273,499,791,3),(140,1279,501,796,6),(141,1288,516,803,5),(142,1296,519,810,5),(143,1304,522,817,5),(144,1312,527,824,8),(145,1323,537,831,12)]
def N1 (j:Nat):Nat×Nat×Nat×Nat×Nat:=M6.getD j (0,0,0,0,0)
noncomputable def P0 (i:Nat):Value:=bif i.blt 6 then .str "roundfall.masks" 187 else bif i.blt 34 then .str "roundfall.runs" 360 else bif i.blt 48 then .str "roundfall.views" 487 else bif i.blt 55 then .str "roundfall.hushing" 602 else bif i.blt 62 then .str "roundfall.waste" 631 else bif i.blt 72 then .str "roundfall.healing" 677 else bif i.blt 76 then .str "roundfall.chains" 760 else bif i.blt 81 then .str "roundfall.plays" 795 else bif i.blt 91 then .str "roundfall.breaking" 832 else bif i.blt 101 then .str "roundfall.texts" 899 else bif i.blt 115 then .str "roundfall.rows" 951 else bif i.blt 122 then .str "roundfall.rules" 1075 else bif i.blt 135 then .str "roundfall.desk" 1137 else .str "law_roundfall_k75_rows_refused" 1253
def K0 (j:Nat):Obj:=match N1 j with
 | (i,t,l,a,u)=>G8 (top i) (G3 (top i)) t l a u
def L6 (a u:Nat):Nat:=bif u.beq 3 then a+3 else a+5
def K3 (j:Nat):Obj:=match N1 j with
 | (i,_,_,a,u)=>L5 (top i) (G3 (top i)) (P0 i) (L6 a u)
def K4 (P:Params)(x:Str)(t:Nat)(v:Value):DictEntry:=⟨PyData.keyHash P x,.str x t,v⟩
def G4 (l:List (Str×Nat×Value)):List (Str×Nat×Value):=l
def K6 (a n:Nat):List (Str×Nat×Value):=((M6.drop a).take n).map λ(i,t,_,a,u)=>(G3 (top i),t+u+2,.ref (L6 a u+1))
def K8 (l:List (Nat×Nat×Nat)):List (Str×Nat×Value):=l.map λ(i,t,a)=>(G3 (top i),t,.ref a)
noncomputable def N3:List (Str×Nat×Value):=G4 [("__name__",165,.str "law_roundfall_k75_rows_refused" 1253),("__doc__",166,.none),("__package__",167,.none),("__loader__",168,.builtin "__main__.__loader__#opaque"),("__spec__",169,.none),("__annotations__",170,.ref 6),("__builtins__",171,.ref 4),("__file__",173,.str "/claim/cut.py" 172),("__cached__",174,.none)]++K6 0 5++K8 [(7,247,57),(8,263,70),(9,279,82),(10,295,94),(11,311,106),(12,327,118),(13,343,130),(14,359,142)]++G4 [("LEAST_HANDS",363,.int 2 362),("MOST_HANDS",365,.int 5 364),("LAST_ROUND",367,.int 5 366)]++K6 5 8++K8 [(27,430,199),(28,441,206)]++K6 13 18++K8 [(48,593,325),(50,601,330),(52,613,337)]++K6 31 9++K8 [(64,690,395),(65,700,402),(66,711,409),(67,721,416),(68,727,421),(69,741,428),(70,747,433)]++K6 40 8++K8 [(125,842,695)]++G4 [("number_by_breaking",843,.ref 494)]++K8 [(84,849,499),(85,855,504),(86,861,509),(87,867,514),(88,880,521),(89,886,526)]++K6 48 1++G4 [("FIGURES",902,.str "0123456789" 901),("MOST_FIGURES",904,.int 60 903)]++K6 49 7++G4 [("LETTERS",954,.str "abcdefghijklmnopqrstuvwxyz" 953),("MOST_LETTERS",956,.int 8 955),("RULES",961,.ref 573),("MOST",971,.ref 574),("FORMS",1014,.ref 575)]++K6 56 8++K8 [(116,1082,641)]++K6 64 1++K8 [(118,1096,653)]++K6 65 1++K8 [(120,1112,667)]++K6 66 1++K8 [(122,1128,681),(123,1136,688)]++G4 [("number_by_desk",1148,.ref 695)]++K6 68 8++K8 [(135,1252,772)]++K6 76 9
def N6 (P:Params):Obj:=⟨.type "dict",none,.dict (List.toArray (N3.map λ(x,t,v)=>K4 P x t v)) 138,#[]⟩
def F8 (x:Array Value):Obj:=⟨.type "tuple",none,.seq x 0,#[]⟩
def T7 (P:Params):Obj:=excClassObj "RoundError" "RoundError" 57 56 [.type "ValueError"] F9 true [] [.ref 70,.ref 82,.ref 94,.ref 106,.ref 118,.ref 130,.ref 142] false none none (some (.ref 48)) (none) (some (.str "RoundError" 230)) (some (.str "RoundError" 238)) (some (.bool true)) "ValueError.__new__"
def S3 (P:Params):Obj:=⟨.type "dict",none,.dict (List.toArray [K4 P "__module__" 237 (.str "roundfall.errors" 228),K4 P "__firstlineno__" 241 (.int 19 240),K4 P "__static_attributes__" 242 (.ref 55),K4 P "__weakref__" 244 (.ref 58),K4 P "__doc__" 245 (.none)]) 3,#[]⟩
def P6 (P:Params):Obj:=excClassObj "NoRun" "NoRun" 70 69 [.ref 57] (.ref 57::F9) true [] [] false none none (some (.ref 61)) (none) (some (.str "NoRun" 248)) (some (.str "NoRun" 256)) (some (.bool true)) "ValueError.__new__"
def Q0 (P:Params):Obj:=⟨.type "dict",none,.dict (List.toArray [K4 P "__module__" 255 (.str "roundfall.errors" 228),K4 P "__firstlineno__" 259 (.int 21 258),K4 P "__static_attributes__" 260 (.ref 68),K4 P "__doc__" 261 (.none)]) 2,#[]⟩
def S5 (P:Params):Obj:=excClassObj "NoBound" "NoBound" 82 81 [.ref 57] (.ref 57::F9) true [] [] false none none (some (.ref 73)) (none) (some (.str "NoBound" 264)) (some (.str "NoBound" 272)) (some (.bool true)) "ValueError.__new__"
def R3 (P:Params):Obj:=⟨.type "dict",none,.dict (List.toArray [K4 P "__module__" 271 (.str "roundfall.errors" 228),K4 P "__firstlineno__" 275 (.int 23 274),K4 P "__static_attributes__" 276 (.ref 80),K4 P "__doc__" 277 (.none)]) 2,#[]⟩
def Q3 (P:Params):Obj:=excClassObj "NoNumbers" "NoNumbers" 94 93 [.ref 57] (.ref 57::F9) true [] [] false none none (some (.ref 85)) (none) (some (.str "NoNumbers" 280)) (some (.str "NoNumbers" 288)) (some (.bool true)) "ValueError.__new__"
def T4 (P:Params):Obj:=⟨.type "dict",none,.dict (List.toArray [K4 P "__module__" 287 (.str "roundfall.errors" 228),K4 P "__firstlineno__" 291 (.int 25 290),K4 P "__static_attributes__" 292 (.ref 92),K4 P "__doc__" 293 (.none)]) 2,#[]⟩
def S9 (P:Params):Obj:=excClassObj "Closed" "Closed" 106 105 [.ref 57] (.ref 57::F9) true [] [] false none none (some (.ref 97)) (none) (some (.str "Closed" 296)) (some (.str "Closed" 304)) (some (.bool true)) "ValueError.__new__"
def S7 (P:Params):Obj:=⟨.type "dict",none,.dict (List.toArray [K4 P "__module__" 303 (.str "roundfall.errors" 228),K4 P "__firstlineno__" 307 (.int 27 306),K4 P "__static_attributes__" 308 (.ref 104),K4 P "__doc__" 309 (.none)]) 2,#[]⟩
def Q7 (P:Params):Obj:=excClassObj "NoText" "NoText" 118 117 [.ref 57] (.ref 57::F9) true [] [] false none none (some (.ref 109)) (none) (some (.str "NoText" 312)) (some (.str "NoText" 320)) (some (.bool true)) "ValueError.__new__"
def Q4 (P:Params):Obj:=⟨.type "dict",none,.dict (List.toArray [K4 P "__module__" 319 (.str "roundfall.errors" 228),K4 P "__firstlineno__" 323 (.int 29 322),K4 P "__static_attributes__" 324 (.ref 116),K4 P "__doc__" 325 (.none)]) 2,#[]⟩
def S6 (P:Params):Obj:=excClassObj "NoRow" "NoRow" 130 129 [.ref 57] (.ref 57::F9) true [] [] false none none (some (.ref 121)) (none) (some (.str "NoRow" 328)) (some (.str "NoRow" 336)) (some (.bool true)) "ValueError.__new__"
def Q6 (P:Params):Obj:=⟨.type "dict",none,.dict (List.toArray [K4 P "__module__" 335 (.str "roundfall.errors" 228),K4 P "__firstlineno__" 339 (.int 31 338),K4 P "__static_attributes__" 340 (.ref 128),K4 P "__doc__" 341 (.none)]) 2,#[]⟩
def N9 (P:Params):Obj:=excClassObj "NoName" "NoName" 142 141 [.ref 57] (.ref 57::F9) true [] [] false none none (some (.ref 133)) (none) (some (.str "NoName" 344)) (some (.str "NoName" 352)) (some (.bool true)) "ValueError.__new__"
def N8 (P:Params):Obj:=⟨.type "dict",none,.dict (List.toArray [K4 P "__module__" 351 (.str "roundfall.errors" 228),K4 P "__firstlineno__" 355 (.int 33 354),K4 P "__static_attributes__" 356 (.ref 140),K4 P "__doc__" 357 (.none)]) 2,#[]⟩
def S0 (P:Params):Obj:=F8 #[.str "plain" 957,.str "soon" 958,.str "sure" 959,.str "together" 960]
def N7 (P:Params):Obj:=⟨.type "dict",none,.dict (List.toArray [K4 P "hand" 962 (.int 4 963),K4 P "bound" 964 (.int 3 965),K4 P "rounds" 966 (.int 4 967)]) 3,#[]⟩
def R5 (P:Params):Obj:=⟨.type "dict",none,.dict (List.toArray [K4 P "run" 972 (.ref 576),K4 P "show" 975 (.ref 577),K4 P "waste" 977 (.ref 578),K4 P "close" 979 (.ref 579),K4 P "know" 982 (.ref 580),K4 P "choose" 986 (.ref 581),K4 P "alike" 991 (.ref 582),K4 P "chain" 995 (.ref 583),K4 P "break" 1000 (.ref 584)]) 9,#[]⟩
def P1 (P:Params):Obj:=F8 #[.str "name" 973,.str "text" 974]
def R7 (P:Params):Obj:=F8 #[.str "name" 976]
def R4 (P:Params):Obj:=F8 #[.str "name" 978]
def P5 (P:Params):Obj:=F8 #[.str "name" 980,.str "bound" 981]
def R6 (P:Params):Obj:=F8 #[.str "name" 983,.str "hand" 984,.str "rounds" 985]
def Q8 (P:Params):Obj:=F8 #[.str "name" 987,.str "rule" 988,.str "bound" 989,.str "rounds" 990]
def P9 (P:Params):Obj:=F8 #[.str "name" 992,.str "other" 993,.str "rounds" 994]
def S1 (P:Params):Obj:=F8 #[.str "name" 996,.str "bound" 997,.str "rounds" 998,.str "number" 999]
def P8 (P:Params):Obj:=F8 #[.str "name" 1001,.str "rule" 1002,.str "bound" 1003,.str "rounds" 1004]
def T8 (P:Params):Obj:=⟨.type "type",none,.cls { name:="Desk",bases:=[.type "object"],mro:=[.ref 772,.type "object"],ns:=771,qualname:="Desk" },#[none,none,some (.str "Desk" 1205),some (.str "Desk" 1213),some (.builtin "object.__new__"),some (.bool true)]⟩
def N5 (P:Params):Obj:=⟨.type "dict",none,.dict (List.toArray [K4 P "__module__" 1212 (.str "roundfall.desk" 1137),K4 P "__firstlineno__" 1216 (.int 465 1215),K4 P "__init__" 1223 (.ref 755),K4 P "say" 1235 (.ref 762),K4 P "run_by" 1243 (.ref 769),K4 P "__static_attributes__" 1245 (.ref 770),K4 P "__dict__" 1247 (.ref 773),K4 P "__weakref__" 1249 (.ref 774),K4 P "__doc__" 1250 (.none)]) 4,#[]⟩
def P3 (P:Params):Obj:=L5 (inClass (top 135) 0) "Desk.__init__" (.str "roundfall.desk" 1137) 754
def P7 (P:Params):Obj:=G8 (inClass (top 135) 0) "Desk.__init__" 1217 467 749 4
def T1 (P:Params):Obj:=L5 (inClass (top 135) 1) "Desk.say" (.str "roundfall.desk" 1137) 761
def S8 (P:Params):Obj:=G8 (inClass (top 135) 1) "Desk.say" 1224 470 756 9
def T5 (P:Params):Obj:=L5 (inClass (top 135) 2) "Desk.run_by" (.str "roundfall.desk" 1137) 768
def R0 (P:Params):Obj:=G8 (inClass (top 135) 2) "Desk.run_by" 1236 482 763 5
noncomputable def G1:Params->Frag:=fun P=>(nat_lit 20,K0 0)::(nat_lit 21,K3 0)::(nat_lit 27,K0 1)::(nat_lit 28,K3 1)::(nat_lit 34,K0 2)::(nat_lit 35,K3 2)::(nat_lit 41,K0 3)::(nat_lit 42,K3 3)::(nat_lit 46,K0 4)::(nat_lit 47,K3 4)::(nat_lit 150,K0 5)::(nat_lit 151,K3 5)::(nat_lit 155,K0 6)::(nat_lit 156,K3 6)::(nat_lit 162,K0 7)::(nat_lit 163,K3 7)::(nat_lit 167,K0 8)::(nat_lit 168,K3 8)::(nat_lit 172,K0 9)::(nat_lit 173,K3 9)::(nat_lit 179,K0 10)::(nat_lit 180,K3 10)::(nat_lit 186,K0 11)::(nat_lit 187,K3 11)::(nat_lit 193,K0 12)::(nat_lit 194,K3 12)::(nat_lit 212,K0 13)::(nat_lit 213,K3 13)::(nat_lit 219,K0 14)::(nat_lit 220,K3 14)::(nat_lit 224,K0 15)::(nat_lit 225,K3 15)::(nat_lit 231,K0 16)::(nat_lit 232,K3 16)::(nat_lit 238,K0 17)::(nat_lit 239,K3 17)::(nat_lit 243,K0 18)::(nat_lit 244,K3 18)::(nat_lit 248,K0 19)::(nat_lit 249,K3 19)::(nat_lit 253,K0 20)::(nat_lit 254,K3 20)::(nat_lit 260,K0 21)::(nat_lit 261,K3 21)::(nat_lit 267,K0 22)::(nat_lit 268,K3 22)::(nat_lit 274,K0 23)::(nat_lit 275,K3 23)::(nat_lit 281,K0 24)::(nat_lit 282,K3 24)::(nat_lit 288,K0 25)::(nat_lit 289,K3 25)::(nat_lit 295,K0 26)::(nat_lit 296,K3 26)::(nat_lit 300,K0 27)::(nat_lit 301,K3 27)::(nat_lit 305,K0 28)::(nat_lit 306,K3 28)::(nat_lit 310,K0 29)::(nat_lit 311,K3 29)::(nat_lit 317,K0 30)::(nat_lit 318,K3 30)::(nat_lit 343,K0 31)::(nat_lit 344,K3 31)::(nat_lit 348,K0 32)::(nat_lit 349,K3 32)::(nat_lit 353,K0 33)::(nat_lit 354,K3 33)::(nat_lit 360,K0 34)::(nat_lit 361,K3 34)::(nat_lit 365,K0 35)::(nat_lit 366,K3 35)::(nat_lit 370,K0 36)::(nat_lit 371,K3 36)::(nat_lit 377,K0 37)::(nat_lit 378,K3 37)::(nat_lit 384,K0 38)::(nat_lit 385,K3 38)::(nat_lit 389,K0 39)::(nat_lit 390,K3 39)::(nat_lit 439,K0 40)::(nat_lit 440,K3 40)::(nat_lit 446,K0 41)::(nat_lit 447,K3 41)::(nat_lit 453,K0 42)::(nat_lit 454,K3 42)::(nat_lit 460,K0 43)::(nat_lit 461,K3 43)::(nat_lit 467,K0 44)::(nat_lit 468,K3 44)::(nat_lit 474,K0 45)::(nat_lit 475,K3 45)::(nat_lit 481,K0 46)::(nat_lit 482,K3 46)::(nat_lit 486,K0 47)::(nat_lit 487,K3 47)::(nat_lit 532,K0 48)::(nat_lit 533,K3 48)::(nat_lit 537,K0 49)::(nat_lit 538,K3 49)::(nat_lit 542,K0 50)::(nat_lit 543,K3 50)::(nat_lit 547,K0 51)::(nat_lit 548,K3 51)::(nat_lit 554,K0 52)::(nat_lit 555,K3 52)::(nat_lit 561,K0 53)::(nat_lit 562,K3 53)::(nat_lit 566,K0 54)::(nat_lit 567,K3 54)::(nat_lit 571,K0 55)::(nat_lit 572,K3 55)::(nat_lit 588,K0 56)::(nat_lit 589,K3 56)::(nat_lit 595,K0 57)::(nat_lit 596,K3 57)::(nat_lit 602,K0 58)::(nat_lit 603,K3 58)::(nat_lit 607,K0 59)::(nat_lit 608,K3 59)::(nat_lit 614,K0 60)::(nat_lit 615,K3 60)::(nat_lit 621,K0 61)::(nat_lit 622,K3 61)::(nat_lit 628,K0 62)::(nat_lit 629,K3 62)::(nat_lit 635,K0 63)::(nat_lit 636,K3 63)::(nat_lit 647,K0 64)::(nat_lit 648,K3 64)::(nat_lit 659,K0 65)::(nat_lit 660,K3 65)::(nat_lit 673,K0 66)::(nat_lit 674,K3 66)::(nat_lit 694,K0 67)::(nat_lit 695,K3 67)::(nat_lit 701,K0 68)::(nat_lit 702,K3 68)::(nat_lit 708,K0 69)::(nat_lit 709,K3 69)::(nat_lit 713,K0 70)::(nat_lit 714,K3 70)::(nat_lit 718,K0 71)::(nat_lit 719,K3 71)::(nat_lit 723,K0 72)::(nat_lit 724,K3 72)::(nat_lit 728,K0 73)::(nat_lit 729,K3 73)::(nat_lit 733,K0 74)::(nat_lit 734,K3 74)::(nat_lit 740,K0 75)::(nat_lit 741,K3 75)::(nat_lit 782,K0 76)::(nat_lit 783,K3 76)::(nat_lit 789,K0 77)::(nat_lit 790,K3 77)::(nat_lit 794,K0 78)::(nat_lit 795,K3 78)::(nat_lit 801,K0 79)::(nat_lit 802,K3 79)::(nat_lit 808,K0 80)::(nat_lit 809,K3 80)::(nat_lit 815,K0 81)::(nat_lit 816,K3 81)::(nat_lit 822,K0 82)::(nat_lit 823,K3 82)::(nat_lit 829,K0 83)::(nat_lit 830,K3 83)::(nat_lit 836,K0 84)::(nat_lit 837,K3 84)::(nat_lit 3,N6 P)::(nat_lit 4,Q5)::(nat_lit 56,S3 P)::(nat_lit 57,T7 P)::(nat_lit 69,Q0 P)::(nat_lit 70,P6 P)::(nat_lit 81,R3 P)::(nat_lit 82,S5 P)::(nat_lit 93,T4 P)::(nat_lit 94,Q3 P)::(nat_lit 105,S7 P)::(nat_lit 106,S9 P)::(nat_lit 117,Q4 P)::(nat_lit 118,Q7 P)::(nat_lit 129,Q6 P)::(nat_lit 130,S6 P)::(nat_lit 141,N8 P)::(nat_lit 142,N9 P)::(nat_lit 573,S0 P)::(nat_lit 574,N7 P)::(nat_lit 575,R5 P)::(nat_lit 576,P1 P)::(nat_lit 577,R7 P)::(nat_lit 578,R4 P)::(nat_lit 579,P5 P)::(nat_lit 580,R6 P)::(nat_lit 581,Q8 P)::(nat_lit 582,P9 P)::(nat_lit 583,S1 P)::(nat_lit 584,P8 P)::(nat_lit 754,P7 P)::(nat_lit 755,P3 P)::(nat_lit 761,S8 P)::(nat_lit 762,T1 P)::(nat_lit 768,R0 P)::(nat_lit 769,T5 P)::(nat_lit 771,N5 P)::(nat_lit 772,T8 P)::[]
def G5:List Addr:=(M6.flatMap λ(_,_,_,a,u)=>[L6 a u,L6 a u+1])++[3,4,56,57,69,70,81,82,93,94,105,106,117,118,129,130,141,142,573,574,575,576,577,578,579,580,581,582,583,584,754,755,761,762,768,769,771,772]
theorem T9 (P:Params):(G1 P).lookup 697=none:=by ext
theorem V4 (P:Params):codeHdIn (G1 P) 701 697=true:=by ext
end
end Law
namespace HdT
open PySem PySem.W PySem.Spec PyProof.Rows
def G0 (st:SharedT->Thread->Option (SharedT×Thread))(ok:Thread->Bool):Nat->SharedT->Thread->Option SharedT
 | 0,_,_=>none
 | n+1,s,t=>match through t with
  | true=>some s
  | false=>match ok t with
   | false=>none
   | true=>match st s t with
    | some (s',t')=>G0 st ok n s' t'
    | none=>none
def G7 (st:SharedT->Thread->Option (SharedT×Thread))(ok:Thread->Bool):Nat->SharedT->Thread->Option (SharedT×Thread)
 | 0,s,t=>some (s,t)
 | n+1,s,t=>match through t with
  | true=>none
  | false=>match ok t with
   | false=>none
   | true=>match st s t with
    | some (s',t')=>G7 st ok n s' t'
    | none=>none
theorem M7 {st:SharedT->Thread->Option (SharedT×Thread)}{ok:Thread->Bool}{b:Nat}{r:SharedT}:∀ {a:Nat} {s s':SharedT} {t t':Thread},G7 st ok a s t=some (s',t')->G0 st ok b s' t'=some r->G0 st ok (a+b) s t=some r
 | 0,s,s',t,t',h,k=>by cases h;rw[Nat.zero_add];exact k
 | a+1,s,s',t,t',h,k=>by
  rw[show a+1+b=a+b+1 by omega];unfold G7 at h;unfold G0;cases h1:through t with
  | true=>rw[h1] at h;cases h
  | false =>
   rw[h1] at h;cases h2:ok t with
   | false=>rw[h2] at h;cases h
   | true =>
    rw[h2] at h;cases h3:st s t with
    | none=>rw[h3] at h;cases h
    | some x=>obtain⟨s₂,t₂⟩:=x;rw[h3] at h;exact M7 h k
theorem N0 {tb:String->Option Builtin}{p:Program}{w:World}{n₀:Nat}{ann:Option Value}:∀ {n:Nat} {s s':SharedT} {t:Thread},G0 (stepT (denote tb) p w) (stepOk n₀ ann) n s t=some s'->topRun tb p w n₀ ann n s.abs t=some s'.abs
 | 0,_,_,_,h=>by cases h
 | n+1,s,s',t,h=>by
  unfold G0 at h;unfold topRun;cases h1:through t with
  | true=>rw[h1] at h;cases h;rfl
  | false =>
   rw[h1] at h;cases h2:stepOk n₀ ann t with
   | false=>rw[h2] at h;cases h
   | true =>
    rw[h2] at h;cases h3:stepT (denote tb) p w s t with
    | none=>rw[h3] at h;cases h
    | some x=>obtain⟨s₂,t₂⟩:=x;rw[h3] at h;dsimp only;rw[stepT_spec h3];exact N0 h
def G6:BT->Nat->List Obj->BT
 | t,_,[]=>t
 | t,n,o::r=>G6 (t.ins n o) (n+1) r
noncomputable abbrev K5 (P:Params):List Obj:=(boot_heap P).objs.toList
noncomputable def L9 (P:Params)(os:OsState):SharedT:=⟨G6 .nil 0 (K5 P),(K5 P).length,(boot_heap P).life,Array.mk [],boot_drawn,boot_toks,os⟩
noncomputable abbrev M4 (P:Params):Option Value:=(boot_heap P).nsMap mainGlobals "__annotations__"

noncomputable abbrev K7 (p:Program)(w w':World)(os:OsState)(a m:Nat):Option (SharedT×Thread):=(G7 (stepT (denote treeTable) p w) (stepOk (K5 w.params).length (M4 w.params)) a (L9 w.params os) (topStub p)).bind fun x=>G7 (stepT (denote treeTable) p w') (stepOk (K5 w.params).length (M4 w.params)) m x.1 x.2
noncomputable abbrev G2 (p:Program)(w w':World)(os:OsState)(a m b:Nat):Option SharedT:=(K7 p w w' os a m).bind fun x=>G0 (stepT (denote treeTable) p w) (stepOk (K5 w.params).length (M4 w.params)) b x.1 x.2
theorem T6 {p:Program}{row:String}{a m:Nat}(h:∀ (w:World) (os:OsState),K7 p w (w.withFollow row false) os a m=K7 p w (w.withFollow row true) os a m)(w:World)(os:OsState):K7 p w w os a m=K7 p w (w.withFollow row false) os a m:=by
 have h:=h w os;have e:=World.withFollow_self w row;cases hb:w.params.followText row<;>rw[hb] at e
 ·rw[e]
 ·rw[e] at h;exact h.symm
theorem T2 {p q:Program}{ls:List Str}{Xt:Shared->Bool}{α:Type}{Yf:Shared->α}{Ya:World->α}{row:String}{a m b:Nat}(hR:∀ (w:World) (os:OsState),K7 p w (w.withFollow row false) os a m=K7 p w (w.withFollow row true) os a m)
  (hb:∀ w:World,(fencedOpening treeTable p w (a+(m+b))).map (fun s=>(s.heap,s.gens,s.drawn,s.toks))=some (boot_heap w.params,Array.mk [],boot_drawn,boot_toks))
  (hl:∀ P:Params,(G6 .nil 0 (K5 P)).list (K5 P).length=K5 P) (hn:∀ P:Params,(boot_heap P).isNs mainGlobals=true)
  (h0:∀ w os,(G2 p w (w.withFollow row false) os a m b).map (fun s=>staticsOk (importedModules p.main.body) (boot_heap w.params) s.abs.heap&&namesBound p s.abs.heap&&gensDone s.abs&&laidKept (boot_heap w.params) s.abs.heap)=some true)
  (h1:∀ w os,(G2 p w (w.withFollow row false) os a m b).map (fun s=>(openSeen q ls (importedModules p.main.body) Xt true s.abs,Yf s.abs))=some (openGood q ls,Ya w)):LeftO p q ls Xt Yf Ya (a+(m+b)):=fun w=>by
 have⟨s0,e0,e1⟩:=Option.map_eq_some_iff.mp (hb w);have⟨g1,e1⟩:=Prod.mk.inj e1;have⟨g2,e1⟩:=Prod.mk.inj e1;have⟨g3,g4⟩:=Prod.mk.inj e1;obtain⟨H,gs,dr,tk,os⟩:=s0;dsimp only at g1 g2 g3 g4;subst g1 g2 g3 g4;have⟨sT,r1,r2⟩:=Option.map_eq_some_iff.mp (h0 w os);have r3:=h1 w os;rw[r1] at r3;have⟨x,x1,x2⟩:=Option.bind_eq_some_iff.mp r1;rw[<- T6 hR] at x1;have⟨y,y1,y2⟩:=Option.bind_eq_some_iff.mp x1;have run:=N0 (M7 (s':=y.1) (t':=y.2) y1 (M7 (s':=x.1) (t':=x.2) y2 x2));have ab:(L9 w.params os).abs=⟨boot_heap w.params,Array.mk [],boot_drawn,boot_toks,os⟩:=by
  show Shared.mk ⟨((G6 .nil 0 (K5 w.params)).list (K5 w.params).length).toArray,(boot_heap w.params).life⟩ _ _ _ _=_;rw[hl];unfold L9 K5;generalize boot_heap w.params=B;obtain⟨⟨l⟩,life⟩:=B;rfl
 rw[ab] at run;unfold openEnds;rw[e0];show(topFrom treeTable p w (a+(m+b)) _).map _=_;unfold topFrom;dsimp only;rw[hn,show((#[]:Array GenState).size==0)=true from rfl];show((topRun treeTable p w (boot_heap w.params).objs.size _ (a+(m+b)) _ (topStub p)).bind _).map _=_;rw[show(boot_heap w.params).objs.size=(K5 w.params).length from rfl,run];dsimp only[Option.bind_some];rw[r2];exact r3
end HdT
namespace Law
open PySem PySem.W PySem.Spec PyProof.Rows HdT
theorem L3 (P:Params):G5=(G1 P).map (·.1):=by ext
abbrev K9:Program:=PySem.Challenge.pw_roundfall_k75_rows_refused
def G9:Program:=view K9 [145]
noncomputable def M5:List Str:=(N3.drop 9).dropLast.map (·.1)
abbrev N4 (s:Shared):Bool:=xlAt G9 [] s&&recOk [] s
noncomputable abbrev N2 (s:Shared):=openSeen G9 M5 (importedModules K9.main.body) N4 true s
theorem P4:∀ w:World,(fencedOpening treeTable K9 w (4085+(215+1400))).map (fun s=>(s.heap,s.gens,s.drawn,s.toks))=some (boot_heap w.params,Array.mk [],boot_drawn,boot_toks):=boot_open (by rfl) (by decide) (fun s=>by rfl)
theorem R1:∀ P:Params,(G6 .nil 0 (K5 P)).list (K5 P).length=K5 P:=fun P=>by ext
theorem R8:∀ P:Params,(boot_heap P).isNs mainGlobals=true:=fun P=>by ext
set_option maxHeartbeats 0 in
theorem S4:∀ (w:World) (os:OsState),K7 K9 w (w.withFollow "special-get-raises" false) os 4085 215=K7 K9 w (w.withFollow "special-get-raises" true) os 4085 215:=by
 intro w os;unfold K7;rw[Fast.te10156331382660048174,Fast.te11892475500146522536,Fast.te14364793385576792824,Fast.te6613529449190102663]
 ext
set_option maxHeartbeats 0 in
theorem M9:∀ (w:World) (os:OsState),(G2 K9 w (w.withFollow "special-get-raises" false) os 4085 215 1400).map (fun s=>(staticsOk (importedModules K9.main.body) (boot_heap w.params) s.abs.heap&&namesBound K9 s.abs.heap&&gensDone s.abs&&laidKept (boot_heap w.params) s.abs.heap,N2 s.abs))=some (true,openGood G9 M5):=by
 intro w os;unfold G2 K7 N2;rw[Fast.te10156331382660048174,Fast.te11892475500146522536,Fast.te14364793385576792824,Fast.te6613529449190102663,Fast.te4187177175401517315]
 ext
set_option maxHeartbeats 0 in
theorem R9:∀ (w:World) (os:OsState),(G2 K9 w (w.withFollow "special-get-raises" false) os 4085 215 1400).map (fun s=>Hook.obs (PySem.W.kmHook Law.G1 Law.G5 Law.L3 [697]) s.abs)=some (Hook.val (PySem.W.kmHook Law.G1 Law.G5 Law.L3 [697]) w):=by
 intro w os;unfold G2 K7;rw[Fast.te10156331382660048174,Fast.te11892475500146522536,Fast.te14364793385576792824,Fast.te6613529449190102663]
 ext
theorem M8 {α β γ:Type}{o:Option γ}{f:γ->α×β}{a:α}{b:β}(h:o.map f=some (a,b)):o.map (fun s=>(f s).1)=some a/\o.map (fun s=>(f s).2)=some b:=by
 cases o with
 | none=>cases h
 | some s =>
  have e:f s=(a,b):=Option.some.inj h;exact⟨by show some (f s).1=_;rw[e],by show some (f s).2=_;rw[e]⟩
theorem Q9 {α β γ:Type}{o:Option γ}{f:γ->α}{g:γ->β}{a:α}{b:β}(h1:o.map f=some a)(h2:o.map g=some b):o.map (fun s=>(f s,g s))=some (a,b):=by
 cases o with
 | none=>cases h1
 | some s=>exact congrArg some (Prod.ext (Option.some.inj h1) (Option.some.inj h2))
theorem V3:LeftO K9 G9 M5 N4 (Hook.obs (PySem.W.kmHook Law.G1 Law.G5 Law.L3 [697])) (Hook.val (PySem.W.kmHook Law.G1 Law.G5 Law.L3 [697])) (4085+(215+1400)):=T2 (m:=215) S4 P4 R1 R8 (fun w os=>(M8 (M9 w os)).1) (fun w os=>Q9 (M8 (M9 w os)).2 (R9 w os))
set_option maxHeartbeats 0 in
theorem V5:PySem.Challenge.rw_roundfall_k75_rows_refused.wellSaid=true:=by
 rw[Fast.te9446332074065402090]
 ext
end Law
open Option renaming some->Ga,none->Gb
variable {p c:Prop}
def Gc[Decidable p](h:p):decide p=true:=decide_eq_true h
def Gd[Decidable p](h:¬p):decide p=false:=decide_eq_false h
def Ge{h:Decidable c}(k:c){α}{t e:α}:ite c t e=t:=if_pos k
def Gf{h:Decidable c}(k:¬c){α}{t e:α}:ite c t e=e:=if_neg k
open PySem renaming wpAny_bind->dv,wpAny_pure->dw
open PySem renaming Value->Gg,Shared->Gh,FuncData->Gi,Addr->Gj
open PySem.W renaming Frag->ja,kitOne->jy,keepIn->jR,mg_none_of->j9,mg_of->km,fnOf->kG,kitCls->kJ,emptyDict->ua,findIn->uf,instObj->ut,callWith_K->uB,kitAny->uD,codeIn->uR,envX->uW,subIn->u5,kla_obj->vq,cellsFrom_some->vF,kla_fn->vI,notCls->vJ,kmHook->vM,plainGet->vP,kas_ask->v8,plainGet_of->qa,lookIn->qi,hasDictIn->qp,isFn->qH,takerIn->qQ,methodCall_KW->qS,tabObj->Ja,codeHd_of_K->Jg,codeRec_of->Jj,plainOver->Jr,kitx_dict->Jx,handedIn->JC,kas_sort->JE,codeHdIn->JF,makesIn->JN,kia_one->JO,InstAt->JV,nsIn->J3,KasT->J6
open PySem.Heap renaming get?_push_of_some->jb,lt_size->jg,get?_push_size->jm,get?_update_self->jI,get?_update_other->jN,SameBut->kZ,size_push->vb,update->vC
open PySem renaming Spec->jc,mem_of_lookup->kO,boot_len->qY,Within->Jq,passOn->Jz,Fin->J1
open List renaming mem_cons_of_mem->jd,getElem?_eq_some_iff->je,mem_cons_self->jh,size_toArray->ji,length_map->jk,getElem?_eq_getElem->jn,forall_mem_cons->jo,getElem?_set_ne->jq,length_cons->jr,getElem?_set_self->jx,mem_cons->jz,length_append->jA,mem_singleton->jD,getElem?_map->jE,getD_eq_getElem?_getD->jF,append_nil->jJ,not_mem_nil->jQ,mem_append_right->jU,mem_of_getElem?->jW,lookup_cons->kg,map_cons->kh,getElem?_append_right->ki,getElem?_append_left->kn,getElem?_replicate->kC,range->kF,mem_append->kI,cons_append->kM,getElem?_eq_none->kR,mem_range->kY,all_eq_true->k6,append_assoc->ub,length_replicate->uc,mem_map->ue,drop_eq_getElem_cons->uj,length_singleton->uk,getElem?_cons_succ->uo,filterMap_cons->uu,drop_eq_nil_of_le->uy,map_map->uz,mem_filter->uG,lookup->uK,replicate->uQ,cons_ne_nil->uT,nodup_cons->uY,mem_append_left->u9,getElem?_eq_none_iff->vi,length_nil->vp,nil_append->vw,mem_filterMap->vy,length_eq_zero_iff->vD,take_of_length_le->vK,find?_cons_of_neg->vL,getElem?_toArray->vN,contains_iff_mem->vO,length_take->vQ,any_cons->vU,of_mem_zip->v3,find?_cons->v4,forIn_cons->v7,length_reverse->qc,toArray->qd,drop_zero->qk,findIdx?_eq_none_iff->qo,length_drop->qA,getElem_mem->qC,length_tail->qE,map_nil->qI,reverse_cons->Jw,getElem?_set->Jy,getElem_inj->JB,any_eq_true->JG,getElem_map->JH,length->JK,range'->JM,foldl_cons->JP,map_append->JQ,take_left'->JS,drop_left'->JT
open Nat renaming lt_of_lt_of_le->jf,le_refl->jw,ne_of_lt->jB,le_trans->jX,lt_irrefl->ka,zero_le->ku,le_of_ble_eq_true->kB,ne_of_gt->uw,le_of_lt->uJ,lt_succ_self->uP,succ_le_succ->vR,add_assoc->vV,le_succ->qq,le_succ_of_le->qr,lt_succ_of_lt->qu,zero_add->qK,lt_of_succ_lt_succ->qO,toDigits->qP,lt_of_le_of_lt->Jl,mod_lt->Jn,eq_zero_or_pos->Jp,lt_trans->Ju,succ->Jv,reduceLeDiff->JJ
open Option renaming bind_some->jp,bind->ky,map_eq_some_iff->uV,isSome_iff_exists->qx,getD_none->JD
open Bool renaming and_eq_true->ju,false_ne_true->jV,false_eq_true->kH,eq_iff_iff->uI,not_eq_true'->u8,or_false->vT,or_eq_true->v9,and_false->qZ,and_eq_true_iff->Je,not_true->Jh
open PySem.Str renaming ofString->jv,join->uE,empty->qg,length->Jk
open PySem.Value renaming none->jC,ref->jH,type->k8,bool->ur,int->uO,builtin->uZ,str->qf
open PySem.PyData renaming strOk->jG,str->jL,int->jO,bool->kP,eqv->kQ,canLayAll0->ug,depthAll->uH,tuple->uL,none->vf,eqvAll->qy,canLay0->qX,keyHash->Jb,list->Jd,dict->JL
open Or renaming inr->jK,inl->jS
open Option.some renaming inj->jM
open Array renaming length_toList->jP,getElem?_eq_some_iff->kj,getElem?_eq_getElem->kE,getElem?_toList->kS,toList_append->uv,getElem?_eq_none->ux,toList_push->u7,mem_toList_iff->va,size_map->vg,toList_map->vS,toArray_toList->vY,toList_inj->qB,toList_filterMap->qM,forIn_toList->Jm
open PySem.Builtin.Str renaming occurrences->jT,strSliceIndices->kX,strKind->k9,partsBetween->uN,strSub->vz
open PySem.Builtin.List renaming listExtendWith->jY,listLengthHint->kz,listSameRef->ud,listItems->uU,listTooLong->vm,listUpdate->qD
open PySem.NameKind renaming free->jZ,cell->vn
open PySem.Obj renaming mapSeq->j7,data_mapFields->j8,mapFields->kf,isFreed_of_fields->kA,cls_mapFields->vH,putSet->JW
open PySem.Heap.SameBut renaming update->ko
open PySem.Txt renaming join->kK,startswith->ul,split->uA
open PySem.StrLaws renaming glued_eq_join->kU,occBody->vt,subAt_one->qw,sumLen_le->JA,subAt_eq->JI
open Ne renaming symm->kW
open PySem.Builtin.Tuple renaming tupleHashOf->k7,tupleExact->uM,tupleItemsOf->vd
open PySem.F renaming excBase_ValueError->uh,slot_str_split->ui,entry_str_split->uS,plainAttrs_str->uX,args_tuple_add_2->vk,args_str_split_2->vo,entry_tuple_add->vA,plainAttrs_list->vB,slot_tuple_add->vG,slot_dict_getitem->qm,slot_list_extend->qz,attr_ValueError->qF,slot_list_index->qG,type_str_split->qN,slot_set_iter->qV
open Int renaming toNat_natCast->um,eq_ofNat_of_zero_le->vE,le_refl->vX,emod_lt_of_pos->ql,le_trans->qL,emod_nonneg->qR
open PySem.Calls renaming evalArgs_plain->uC,Name_function_global->qh,callWith_builtin->qJ,spliced_cons->Ji,spliced_nil->Jt
open PySem.Builtin.Slice renaming slicePlaces->uF,sliceAdjust->vj,sliceApplied->qj
open List.cons renaming inj->vW
open PySem.Around renaming under_plainId->vZ,frames_deeper->qW,under->Js
open PySem.Builtin.Dict_items renaming ownsTuple->v6
open Nat.succ renaming inj->qe
open PySem.Builtin.Dict renaming showsAll->qT
open PySem.W.Looks renaming of_pure->qU
open PySem.Builtin.Int renaming intBits->Jf
open Char renaming toNat->Jo
open PySem.Builtin.Frozenset renaming updateFrom->JR,newClass->JX,sizeOf->JZ
open PySem.Builtin renaming bitAnd->JU,bitOr->JY
noncomputable section
namespace L2
open PySem PySem.Spec PyProof.Rows
abbrev fJ:=Sum Int Str
def sY:fJ->Gg->Bool
 | .inl k,v=>Value.isInt k v
 | .inr x,v=>Value.isStrOf x v
def Xk (w:World):fJ->Int
 | .inl k=>hashInt k
 | .inr x=>hashStr w x
def gM:∀ {k:fJ} {v:Gg},sY k v=true->(∃ i t,k=Sum.inl i/\v=uO i t)\/(∃ x t,k=Sum.inr x/\v=qf x t)
 | .inl i,v,h=>by
  have⟨t,e⟩:=Value.isInt_shape (k:=i) (v:=v) h;exact .inl ⟨i,t,rfl,e⟩
 | .inr x,v,h=>by
  have⟨t,e⟩:=Value.isStrOf_shape (x:=x) (v:=v) h;exact .inr ⟨x,t,rfl,e⟩
def Dg (i:Int)(t:Tok):sY (.inl i) (.int i t)=true:=by simp[sY,Value.isInt]
def yn (x:Str)(t:Tok):sY (.inr x) (.str x t)=true:=by simp[sY,Value.isStrOf]
def Ki (a b:Int):decide ((Sum.inl a:fJ)=Sum.inl b)=(a==b):=by
 by_cases e:a=b
 .subst e;simp
 .have h:¬(Sum.inl a:fJ)=Sum.inl b:=λq=>e (Sum.inl.inj q);rw[Gd h];exact(beq_eq_false_iff_ne.mpr e).symm
def DS (a b:Str):decide ((Sum.inr a:fJ)=Sum.inr b)=decide (a=b):=by
 by_cases e:a=b
 .subst e;simp
 .have h:¬(Sum.inr a:fJ)=Sum.inr b:=λq=>e (Sum.inr.inj q);rw[Gd h,Gd e]
def Nm (a:Int)(b:Str):decide ((Sum.inl a:fJ)=Sum.inr b)=false:=Gd (λq=>nomatch q)
def KW (a:Str)(b:Int):decide ((Sum.inr a:fJ)=Sum.inl b)=false:=Gd (λq=>nomatch q)
def gZ (prog:Program)(w:World):PySem.KeyKind prog w fJ where
 is:=sY
 hash:=Xk w
 inj:=λv a b ha hb=>by
  rcases gM ha with ⟨i,t,rfl,rfl⟩|⟨x,t,rfl,rfl⟩
  .rcases gM hb with ⟨j,u,rfl,e⟩|⟨y,u,rfl,e⟩
   .injection e with e1 _;rw[e1]
   .exact nomatch e
  .rcases gM hb with ⟨j,u,rfl,e⟩|⟨y,u,rfl,e⟩
   .exact nomatch e
   .injection e with e1 _;rw[e1]
 byValue:=λk v h=>by
  rcases gM h with ⟨i,t,rfl,rfl⟩|⟨x,t,rfl,rfl⟩<;>rfl
 pyHash:=λhv h=>by
  rcases gM hv with ⟨i,t,rfl,rfl⟩|⟨x,t,rfl,rfl⟩
  .exact wpAny_pyHash_int h
  .exact wpAny_pyHash_str h
 eqBool:=λhu hv h=>by
  rcases gM hu with ⟨i,t,rfl,rfl⟩|⟨x,t,rfl,rfl⟩
  .rcases gM hv with ⟨j,u,rfl,rfl⟩|⟨y,u,rfl,rfl⟩
   .rw[Ki] at h;exact wpAny_eqBool_int h
   .rw[Nm] at h;exact SeqAt.EqAt.int_str i t y u _ _ _ _ h
  .rcases gM hv with ⟨j,u,rfl,rfl⟩|⟨y,u,rfl,rfl⟩
   .rw[KW] at h;exact SeqAt.EqAt.str_int x t j u _ _ _ _ h
   .rw[DS] at h;exact wpAny_eqBool_str h
 «strs»:=λk x t v h=>by
  rcases gM h with ⟨i,u,rfl,e⟩|⟨y,u,rfl,e⟩
  .exact nomatch e
  .injection e with e1 _
   subst e1;cases v<;>rfl
def Ar (prog:Program)(w:World)(i:Int)(t:Tok):(gZ prog w).is (.inl i) (.int i t)=true:=Dg i t
def Aq (prog:Program)(w:World)(x:Str)(t:Tok):(gZ prog w).is (.inr x) (.str x t)=true:=yn x t
inductive V where
 | non|bl (b:Bool)|int (i:Int)|str (x:Str)|ref (a:Gj)|ty (n:String)
 deriving DecidableEq
def eL:V->Gg->Prop
 | .non,u=>u=jC
 | .bl b,u=>u=ur b
 | .int i,u=>∃ t,u=uO i t
 | .str x,u=>∃ t,u=qf x t
 | .ref a,u=>u=jH a
 | .ty n,u=>u=k8 n
abbrev eC:List V->List Gg->Prop:=Paired eL
def eC.length {xs:List V}{us:List Gg}(r:eC xs us):xs.length=us.length:=Paired.length r
def eC.get:∀ {xs:List V} {us:List Gg} {i:Nat} {x:V},eC xs us->xs[i]?=Ga x->∃ u,us[i]?=Ga u/\eL x u
 | _,_,_,_,.nil,e=>by simp at e
 | _,_,0,_,.cons r _,e=>by simp at e;subst e;exact⟨_,rfl,r⟩
 | _,_,i+1,x,.cons _ t,e=>by
  obtain⟨u,h1,h2⟩:=eC.get (i:=i) (x:=x) t (by simpa using e);exact⟨u,by simpa using h1,h2⟩
def eC.append:∀ {xs ys:List V} {us ws:List Gg},eC xs us->eC ys ws->eC (xs++ys) (us++ws)
 | _,_,_,_,.nil,s=>s
 | _,_,_,_,.cons r t,s=>.cons r (eC.append t s)
def eC.take:∀ {xs:List V} {us:List Gg} (n:Nat),eC xs us->eC (xs.take n) (us.take n)
 | _,_,0,_=>.nil
 | _,_,_+1,.nil=>.nil
 | _,_,n+1,.cons r t=>.cons r (eC.take n t)
def eC.drop:∀ {xs:List V} {us:List Gg} (n:Nat),eC xs us->eC (xs.drop n) (us.drop n)
 | _,_,0,r=>r
 | _,_,_+1,.nil=>.nil
 | _,_,n+1,.cons _ t=>eC.drop n t
def eC.none_of:∀ {xs:List V} {us:List Gg} {i:Nat},eC xs us->xs[i]?=Gb->us[i]?=Gb:=λ{xs us i} r e=>by
 have h1:=r.length;have h2:xs.length<=i:=vi.mp e;exact vi.mpr (by omega)
def mw:Option V->Option Gg->Prop
 | some v,Ga u=>eL v u
 | none,Gb=>True
 | _,_=>False
def KV {κ:Type}:List (κ×V)->List (κ×Gg)->Prop:=Paired λ(p:κ×V) (q:κ×Gg)=>p.1=q.1/\eL p.2 q.2
def kV:fJ->V
 | .inl i=>.int i
 | .inr x=>.str x
inductive HO where
 | lst (xs:List V)
 | tup (xs:List V)
 | dK (kvs:List (fJ×V))
 | ins (C dx:Gj) (fs:List (Str×V))
 | own (x:Gj)
 | frz (o:Obj) (u:HO)
 | tbl (ps:Array Gg)
 | ext (φ:Heap->Prop)
abbrev Hp:=Gj->Option HO
def upd (H:Hp)(a:Gj)(o:HO):Hp:=λb=>if b=a then Ga o else H b
variable {a b e x it dx C f:Gj}{o o':HO}{H H' H1:Hp}{P prog:Program}{h h' h1 base:Heap}{w:World}{ex fs ch fp:List Gj}{s s':Gh}{ω:List (Gj×Obj)}{σ:List (Option V)}{d':Drawn}{g':Array GenState}{t' i j k n:Nat}{N ps:List Str}{A:Around}{E:Gg->Gh->Prop}{M:Model}{Q:Unit->Gh->Prop}{u:Gg}{v y:V}{pos pos':Pos}{op:CmpOp}{rest es:List Expr}{c tg value:Expr}{K:ja}{xs ys:List V}{st:Stmt}{body:List Stmt}{mA mg:Str->Option Gg}{name qual:Str}{kw:List (Str×Gg)}{us:List Gg}{fd:Gi}{outer:List Env}{scope:Scope}
def dH:upd H a o a=Ga o:=by unfold upd;rw[Ge rfl]
def dG(h:b≠a):upd H a o b=H b:=by unfold upd;rw[Gf h]
def fP(h:H a=Ga o)(h':H b=Gb):a≠b:=by
 intro e;subst e;rw[h] at h';cases h'
section
variable (P:Program)(w:World)
def gH (H:Hp)(h:Heap)(a:Gj):HO->Prop
 | .lst xs=>xs.length<=sizeLine/\∃ (its:List Gg) (n:Nat),eC xs its/\h.get? a=Ga { cls:=.type "list",data:=.seq its.toArray n }
 | .tup xs=>xs.length<=sizeLine/\∃ its:List Gg,eC xs its/\IsTup h a its.toArray
 | .dK kvs=>kvs.length<=sizeLine/\(a==sysModules)=false/\∃ vs,KV kvs vs/\h.DictOf (gZ P w) a vs
 | .ins C dx fs=>H dx=Ga (.own a)/\fs.length<=1000/\dx≠a/\h.get? a=Ga (ut C dx) /\
   ∃ mA,h.Ns1 dx mA/\(∀ f,mw (fs.lookup f) (mA f))/\Jq mA (fs.map (·.1))
 | .own _=>∃ o,h.get? a=Ga o
 | .frz o u=>h.get? a=Ga o/\gH H h a u
 | .tbl ps=>h.get? a=Ga { cls:=.none,data:=.fields ps }
 | .ext φ=>φ h/\(∃ o,h.get? a=Ga o)/\∀ h1 h2:Heap,φ h1->(∀ o,h1.get? a=Ga o->h2.get? a=Ga o)->φ h2
def HOk (H:Hp)(h:Heap):Prop:=∀ a o,H a=Ga o->gH P w H h a o
end
def gH.lt (x:gH P w H h a o):a<h.objs.size:=by
 cases o with
 | lst xs=>obtain⟨_,_,_,_,e⟩:=x;exact jg e
 | tup xs=>obtain⟨_,_,_,p⟩:=x;exact p.lt
 | dK kvs=>obtain⟨_,_,_,_,o,_,_,e,_⟩:=x;exact jg e
 | ins C dx fs=>obtain⟨_,_,_,e,_⟩:=x;exact jg e
 | own y=>obtain⟨_,e⟩:=x;exact jg e
 | frz ob u=>obtain⟨e,_⟩:=x;exact jg e
 | tbl ps=>exact jg (show h.get? a=Ga _ from x)
 | ext φ=>obtain⟨_,⟨_,e⟩,_⟩:=x;exact jg e
def gH.stay (x:gH P w H h a o)(k:∀ b u,(b=a\/H b=Ga (.own a))->h.get? b=Ga u->h'.get? b=Ga u)
  (ho:∀ b,H b=Ga (.own a)->H' b=Ga (.own a)) (ht:∀ b xs,H b=Ga (.tup xs)->H' b=Ga (.tup xs)):gH P w H' h' a o:=by
 induction o with
 | lst xs=>obtain⟨z,its,n,r,e⟩:=x;exact⟨z,its,n,r,k _ _ (.inl rfl) e⟩
 | tup xs=>obtain⟨z,its,r,ob,e,c⟩:=x;exact⟨z,its,r,ob,k _ _ (.inl rfl) e,c⟩
 | dK kvs=>obtain⟨z,y,vs,r,ob,es,ep,e,c⟩:=x;exact⟨z,y,vs,r,ob,es,ep,k _ _ (.inl rfl) e,c⟩
 | ins C dx fs =>
  obtain⟨d,z,ne,e,mA,⟨od,es,ep,e2,c⟩,r⟩:=x;exact⟨ho _ d,z,ne,k _ _ (.inl rfl) e,mA,⟨od,es,ep,k _ _ (.inr d) e2,c⟩,r⟩
 | own y=>obtain⟨ob,e⟩:=x;exact⟨ob,k _ _ (.inl rfl) e⟩
 | frz ob u ih=>obtain⟨e,q⟩:=x;exact⟨k _ _ (.inl rfl) e,ih q⟩
 | tbl ps =>
  have e:h.get? a=Ga { cls:=.none,data:=.fields ps }:=x;show h'.get? a=Ga { cls:=.none,data:=.fields ps };exact k a _ (.inl rfl) e
 | ext φ=>obtain⟨p,⟨o,e⟩,st⟩:=x;exact⟨st _ _ p λo q=>k _ _ (.inl rfl) q,⟨o,k _ _ (.inl rfl) e⟩,st⟩
def HOk.lt (x:HOk P w H h)(e:H a=Ga o):a<h.objs.size:=(x a o e).lt
def HOk.fresh (x:HOk P w H h)(e:h.objs.size<=a):H a=Gb:=by
 cases q:H a with
 | none=>rfl
 | some u=>exact absurd (jf (x.lt q) e) (ka _)
def HOk.kept (x:HOk P w H h)(k:∀ b u,h.get? b=Ga u->h'.get? b=Ga u):HOk P w H h':=λa o e =>
 (x a o e).stay (λb u _ q=>k b u q) (λ_ q=>q) λ_ _ q=>q
def HOk.laid (x:HOk P w H h)(k:∀ b u,h.get? b=Ga u->h'.get? b=Ga u)(hp:h.objs.size<=a)(new:gH P w (upd H a o) h' a o):HOk P w (upd H a o) h':=λb u e=>by
 have hn:=x.fresh hp;by_cases hb:b=a
 .subst hb;rw[dH] at e;cases e;exact new
 .rw[dG hb] at e;exact(x b u e).stay (λc v _ q=>k c v q) (λc q=>by rwa[dG (fP q hn)]) λc xs q=>by rwa[dG (fP q hn)]
def Rd (H:Hp)(a:Gj)(u:HO):Prop:=H a=Ga u\/∃ o,H a=Ga (.frz o u)
def Rd.ok{u:HO}(r:Rd H a u)(x:HOk P w H h):gH P w H h a u:=by
 rcases r with r|⟨o,r⟩
 .exact x a u r
 .obtain⟨_,q⟩:=x a _ r;exact q
def Dk:Option HO->Prop
 | some (.lst _)=>True
 | some (.dK _)=>True
 | some (.ins _ _ _)=>True
 | some (.ext _)=>True
 | _=>False
def HOk.write (ok:HOk P w H h)(mu:Dk (H x))(he:e=x\/H e=Ga (.own x))(k:∀ b u,b≠e->h.get? b=Ga u->h'.get? b=Ga u)(heo:∃ u,h'.get? e=Ga u)
  (new:gH P w (upd H x o') h' x o'):HOk P w (upd H x o') h':=λb u q=>by
 have nown:∀ c y,H c=Ga (.own y)->c≠x:=λc y r z=>by subst z;rw[r] at mu;exact mu
 have ntup:∀ c xs,H c=Ga (.tup xs)->c≠x:=λc xs r z=>by subst z;rw[r] at mu;exact mu
 by_cases hb:b=x
 .subst hb;rw[dH] at q;cases q;exact new
 .rw[dG hb] at q;by_cases hbe:b=e
  .have q':H b=Ga (.own x):=by
    rcases he with z|z
    .exact absurd (hbe.trans z) hb
    .rwa[hbe]
   rw[q] at q';cases q';obtain⟨v,hv⟩:=heo;exact⟨v,by rwa[hbe]⟩
  .refine(ok b u q).stay (λc v hc r=>k c v ?_ r) (λc r=>by rwa[dG (nown c b r)]) λc xs r=>by rwa[dG (ntup c xs r)]
   rcases hc with rfl|hc
   .exact hbe
   .rintro rfl;rcases he with z|z
    .exact nown c b hc z
    .rw[hc] at z;cases z;exact hb rfl
structure Un (fs ex:List Gj)(H H':Hp)(h h':Heap):Prop where
 keep:∀ b o,h.get? b=Ga o->H b=Gb->b∉fs->b∉ex->h'.get? b=Ga o
 slot:∀ b o,h.get? b=Ga o->H b=Gb->b∈fs->b∉ex->∃ sl,h'.get? b=Ga { o with slots:=sl }
 free:∀ b o,h.get? b=Ga o->H b=Gb->b∉ex->H' b=Gb
 there:∀ b o,h.get? b=Ga o->b∉ex->∃ o',h'.get? b=Ga o'
 tups:∀ b xs,H b=Ga (.tup xs)->H' b=Ga (.tup xs)
 frzs:∀ b o u,H b=Ga (.frz o u)->H' b=Ga (.frz o u)
 tbls:∀ b ps,H b=Ga (.tbl ps)->∃ more,H' b=Ga (.tbl (ps++more))
def Un.any (u:Un fs ex H H1 h h1){ob:Obj}(q:h.get? b=Ga ob)(n:H b=Gb)(hx:b∉ex):∃ sl,h1.get? b=Ga { ob with slots:=sl }:=by
 by_cases hb:b∈fs
 .exact u.slot b ob q n hb hx
 .exact⟨ob.slots,u.keep b ob q n hb hx⟩
def Un.kept (k:∀ b u,h.get? b=Ga u->h'.get? b=Ga u):Un fs ex H H h h' :=
 ⟨λb ob q _ _ _=>k b ob q,λb ob q _ _ _=>⟨ob.slots,k b ob q⟩,λ_ _ _ n _=>n,λb ob q _=>⟨ob,k b ob q⟩,λ_ _ q=>q,λ_ _ _ q=>q,λ_ ps q=>⟨#[],by rw[q];simp⟩⟩
def Un.refl:Un fs ex H H h h:=Un.kept λ_ _ q=>q
def Un.laid (k:∀ b u,h.get? b=Ga u->h'.get? b=Ga u)(hp:h.objs.size<=a)(hn:H a=Gb):Un fs ex H (upd H a o) h h' where
 keep:=λb u q _ _ _=>k b u q
 slot:=λb u q _ _ _=>⟨u.slots,k b u q⟩
 free:=λb u q n _=>by rwa[dG (jB (jf (jg q) hp))]
 there:=λb u q _=>⟨u,k b u q⟩
 tups:=λb xs q=>by rwa[dG (fP q hn)]
 frzs:=λb u xs q=>by rwa[dG (fP q hn)]
 tbls:=λb ps q=>⟨#[],by rw[dG (fP q hn),q];simp⟩
def Un.write (mu:Dk (H x))(he:e=x\/H e=Ga (.own x))(k:∀ b u,b≠e->h.get? b=Ga u->h'.get? b=Ga u)(heo:∃ u,h'.get? e=Ga u):Un fs ex H (upd H x o) h h':=by
 have hx:∀ b,H b=Gb->b≠x:=λb n z=>by subst z;rw[n] at mu;exact mu
 have hb:∀ b,H b=Gb->b≠e:=λb n z=>by
  subst z;rcases he with r|r
  .exact hx b n r
  .rw[n] at r;cases r
 have hm:∀ b u,H b=Ga u->¬Dk (Ga u)->b≠x:=λb u q nm z=>by subst z;rw[q] at mu;exact nm mu
 refine⟨λb u q n _ _=>k b u (hb b n) q,λb u q n _ _=>⟨u.slots,k b u (hb b n) q⟩,λb u q n _=>by rwa[dG (hx b n)],λb u q _=>?_,
  λb xs q=>by rwa[dG (hm b _ q λz=>z)],λb u xs q=>by rwa[dG (hm b _ q λz=>z)],λb ps q=>⟨#[],by rw[dG (hm b _ q λz=>z),q];simp⟩⟩
 by_cases hbe:b=e
 .subst hbe;exact heo
 .exact⟨u,k b u hbe q⟩
def Gk (h:Heap)(H:Hp):List Gj:=(kF h.objs.size).filter λa=>(H a).isSome
def pV (h:Heap)(H:Hp):Heap:=PySem.W.hideAll h (Gk h H)
def Dn (h:Heap)(H:Hp):(pV h H).objs.size=h.objs.size:=PySem.W.hideAll_size _ _
variable {o:Obj}{x:Str}{e:Expr}{fs:List (Str×V)}
def EL(e:h.get? b=Ga o)(n:H b=Gb):(pV h H).get? b=Ga o :=
 PySem.W.hideAll_get _ e λhm=>by
  have q:(H b).isSome=true:=(uG.mp hm).2;rw[n] at q;simp at q
def HX(e:(pV h H).get? b=Ga o):h.get? b=Ga o/\H b=Gb:=by
 have e':h.get? b=Ga o:=PySem.W.of_hideAll (Gk h H) e;refine⟨e',?_⟩;cases q:H b with
 | none=>rfl
 | some x =>
  have hm:b∈Gk h H:=uG.mpr ⟨kY.mpr (jg e'),by simp[q]⟩;have z:(pV h H).get? b=Gb:=PySem.W.hideAll_none (Gk h H) hm;rw[z] at e;cases e
structure Mod (K:ja)(mg:Str->Option Gg)(base:Heap):Prop where
 kin:K.In base
 glob:base.Ns mainGlobals mg
 blt:∃ mb,base.Ns builtinsNs mb/\∀ x:Str,x≠"__name__"->mb x=bootBuiltins x
 nolimit:base.NoLimit
structure Cx where
 prog:Program
 w:World
 K:ja
 mg:Str->Option Gg
 base:Heap
 A:Around
 N:List Str
 s₀:Gh
 H₀:Hp
 env:Env
 outer:List Env
 stack:List Env
 ex:List Gj
 fn:Str->Bool
 calm:Bool
 pn:List (Gj×Obj)
 xe:Gg->Gh->Prop
abbrev Nd (x:Str):Prop:=(x==("__debug__":Str))=false
abbrev Sa (X:Cx)(e:Expr)(es:List Expr):Prop:=starEach (e::es) X.env=(false,eval e X.env)::starEach es X.env
abbrev Sb (X:Cx)(e:Expr):Prop:=starEach [e] X.env=[(false,eval e X.env)]
abbrev Sc (X:Cx)(p:Pos)(es:List Expr):Prop:=(backTo p (starEach es X.env)).any (·.1)=false
abbrev Sd (X:Cx)(x:Str):Prop:=X.fn x=true\/X.env.scope.names.lookup x=Ga .local
abbrev wX (X:Cx){α:Type}(m:Sem α)(Q:α->Gh->Prop)(E:Gg->Gh->Prop)(s:Gh):Prop:=wpAny (model X.prog X.w) X.A m Q E s
def gE (l:List Env):List Gj:=l.filterMap (·.frame)
abbrev Cx.fs9 (X:Cx):List Gj:=gE X.outer
def lK (sc:Scope)(x:Str):Prop:=sc.names.lookup x=Ga .local\/sc.names.lookup x=Ga .cell\/sc.names.lookup x=Ga .free
def rE (sc:Scope)(x:Str):Prop:=sc.names.lookup x=Ga .local\/sc.names.lookup x=Ga .cell
def WR (ψ:Env)(h:Heap)(m:Str->Option Gg)(x:Str)(u:Gg):Prop :=
 (ψ.kindOf x=Ga .local/\m x=Ga u)\/((ψ.kindOf x=Ga .cell\/ψ.kindOf x=Ga .free)/\∃ c,ψ.cells.lookup x=Ga c/\h.IsCell c (Ga u))
structure Cx.Ok (X:Cx):Prop where
 mod:Mod X.K X.mg X.base
 kind:X.env.scope.kind=.function
 glob:X.env.globals=mainGlobals
 blt:X.env.builtins=builtinsNs
 above:X.s₀.heap.objs.size<=X.env.locals
 inj:∀ x y c,X.env.cells.lookup x=Ga c->X.env.cells.lookup y=Ga c->x=y
 has:∀ x,(X.env.kindOf x=Ga .cell\/X.env.kindOf x=Ga .free)->∃ c,X.env.cells.lookup x=Ga c
 cab:∀ x c,X.fn x=true->X.env.cells.lookup x=Ga c->X.s₀.heap.objs.size<=c
 hd:X.calm=true->X.A.handled=Gb
 frames:X.A.frames=Ga X.stack
 stk:X.stack=X.outer\/(X.stack=X.env::X.outer/\X.env.frame=Ga X.env.locals)
 exf:∀ b∈X.ex,b≠X.env.locals/\∀ x c,X.env.cells.lookup x=Ga c->c≠b
 bs:∀ b o,X.base.get? b=Ga o->X.s₀.heap.get? b=Ga o/\X.H₀ b=Gb
 bsz:X.base.objs.size<=X.s₀.heap.objs.size
 noex:∀ b o,X.base.get? b=Ga o->b∉X.ex
 exfs:∀ b∈X.ex,b∉X.fs9
 funs:X.s₀.heap.FunFrames X.base X.outer
 frf:∀ b∈X.fs9,X.H₀ b=Gb
structure dE (X:Cx)(ω:List (Gj×Obj))(σ:List (Option V))(H:Hp)(s:Gh):Prop where
 ok:X.Ok
 os:s.os=X.s₀.os
 bare:AllBare s.gens
 base:Un X.fs9 X.ex X.H₀ H X.s₀.heap s.heap
 loc:∃ m,s.heap.Ns X.env.locals m/\∀ (i:Nat) (x:Str) (v:V),X.N[i]?=Ga x->σ[i]?=Ga (Ga v)->lK X.env.scope x->∃ u,eL v u/\WR X.env s.heap m x u
 cell:∀ x c,X.env.cells.lookup x=Ga c->∃ v,s.heap.IsCell c v
 free:H X.env.locals=Gb
 freeC:∀ x c,X.env.cells.lookup x=Ga c->H c=Gb
 pin:∀ p∈X.pn++ω,s.heap.get? p.1=Ga p.2/\H p.1=Gb/\p.1≠X.env.locals/\p.1∉X.fs9/\∀ v,p.2.data≠.cell v
 hok:HOk X.prog X.w H s.heap
 len:σ.length=X.N.length
variable {X:Cx}
def Cx.Ok.nofr (ok:X.Ok)(e:X.base.get? b=Ga o):b∉X.fs9:=λhb=>by
 have:=(ok.funs.mem hb).1;rw[e] at this;cases this
def dE.bs (I:dE X ω σ H s):∀ b o,X.base.get? b=Ga o->s.heap.get? b=Ga o/\H b=Gb:=λb o e =>
 ⟨I.base.keep b o (I.ok.bs b o e).1 (I.ok.bs b o e).2 (I.ok.nofr e) (I.ok.noex b o e),I.base.free b o (I.ok.bs b o e).1 (I.ok.bs b o e).2 (I.ok.noex b o e)⟩
def dE.bk (I:dE X ω σ H s):∀ b o,X.base.get? b=Ga o->s.heap.get? b=Ga o:=λb o e=>(I.bs b o e).1
def dE.mod (I:dE X ω σ H s):Mod X.K X.mg X.base:=I.ok.mod
def dE.kIn (I:dE X ω σ H s):X.K.In s.heap:=I.ok.mod.kin.keeps I.bk
def dE.lt (I:dE X ω σ H s):X.env.locals<s.heap.objs.size:=let ⟨_,hn,_⟩:=I.loc;hn.lt
def dE.sz (I:dE X ω σ H s):X.s₀.heap.objs.size<=s.heap.objs.size:=jX I.ok.above (uJ I.lt)
def dE.nofs (I:dE X ω σ H s)(h:s.heap.objs.size<=a):a∉X.fs9:=λhb=>by
 have⟨_,o,ho,_⟩:=I.ok.funs.mem hb;exact absurd (jf (jg ho) (jX I.sz h)) (ka _)
def dE.cne (I:dE X ω σ H s):∀ x c,X.env.cells.lookup x=Ga c->c≠X.env.locals:=λx c e z=>by
 have⟨v,o,ho,hd⟩:=I.cell x c e;have⟨m,⟨o',es,ep,ho',hd',_⟩,_⟩:=I.loc;rw[z,ho'] at ho;cases ho;rw[hd'] at hd;cases hd
def dE.funs (I:dE X ω σ H s):s.heap.FunFrames X.base X.outer:=by
 have all:∀ (l:List Env),(∀ b∈gE l,b∈X.fs9)->X.s₀.heap.FunFrames X.base l->s.heap.FunFrames X.base l:=by
  intro l;induction l with
  | nil=>intro _ _;trivial
  | cons ψ r ih =>
   intro hs hl;obtain⟨hk,⟨L,o,hf,hn,ho,hd⟩,hr⟩:=hl;have hL:L∈X.fs9:=hs L (by unfold gE;rw[uu,hf];exact jh);have⟨sl,e⟩:=I.base.slot L o ho (I.ok.frf L hL) hL λz=>I.ok.exfs L z hL;exact⟨hk,⟨L,_,hf,hn,e,hd⟩,ih (λb hb=>hs b (by unfold gE;rw[uu,hf];exact jd _ hb)) hr⟩
 exact all X.outer (λ_ hb=>hb) I.ok.funs
def dE.stack (I:dE X ω σ H s):s.heap.FunFrames X.base X.stack:=by
 rcases I.ok.stk with e|⟨e,hf⟩
 .rw[e];exact I.funs
 .rw[e];have⟨m,hn,_⟩:=I.loc;refine .cons (by rw[I.ok.kind];decide) hf hn ?_ I.funs;exact Heap.get?_none_of_le (jX I.ok.bsz I.ok.above)
def dE.stkSub (I:dE X ω σ H s):∀ b∈gE X.stack,b∈X.env.locals::X.fs9:=λb hb=>by
 rcases I.ok.stk with e|⟨e,hf⟩
 .rw[e] at hb;exact jd _ hb
 .rw[e] at hb;unfold gE at hb;rw[uu,hf] at hb;exact hb
def dE.stkFree (I:dE X ω σ H s):∀ b∈gE X.stack,H b=Gb:=λb hb=>by
 rcases jz.mp (I.stkSub b hb) with e|hb
 .rw[e];exact I.free
 .obtain⟨_,o,ho,_⟩:=I.ok.funs.mem hb;exact I.base.free b o ho (I.ok.frf b hb) λz=>I.ok.exfs b z hb
def dE.step(I:dE X ω σ H s)
  (hch:∀ b∈ch,(b∈X.ex\/X.s₀.heap.objs.size<=b)/\b≠X.env.locals/\(∀ x c,X.env.cells.lookup x=Ga c->c≠b)/\∀ p∈X.pn++ω,p.1≠b)
  (keep:∀ b o,b≠X.env.locals->b∉X.fs9->b∉ch->s.heap.get? b=Ga o->H b=Gb->h'.get? b=Ga o)
  (slot:∀ b o,b≠X.env.locals->b∈X.fs9->b∉ch->s.heap.get? b=Ga o->H b=Gb->∃ sl,h'.get? b=Ga { o with slots:=sl }) (free:∀ b o,b∉ch->s.heap.get? b=Ga o->H b=Gb->H' b=Gb)
  (there:∀ b o,b∉ch->s.heap.get? b=Ga o->∃ o',h'.get? b=Ga o')
  (tups:∀ b xs,H b=Ga (.tup xs)->H' b=Ga (.tup xs)) (frzs:∀ b o u,H b=Ga (.frz o u)->H' b=Ga (.frz o u)) (tbls:∀ b ps,H b=Ga (.tbl ps)->∃ more,H' b=Ga (.tbl (ps++more)))
  (ns:∀ m,s.heap.Ns X.env.locals m->h'.Ns X.env.locals m) (hok:HOk X.prog X.w H' h') (hg:AllBare g') :
  dE X ω σ H' { s with heap:=h',gens:=g',drawn:=d',toks:=t' }:=by
 have neL:∀ b o,X.s₀.heap.get? b=Ga o->b≠X.env.locals:=λb o e=>jB (jf (jg e) I.ok.above);have neC:∀ b o,X.s₀.heap.get? b=Ga o->b∉X.ex->b∉ch:=λb o e hx hb=>by
  rcases(hch b hb).1 with z|z
  .exact hx z
  .exact absurd (jf (jg e) z) (ka _)
 have cellK:∀ x c,X.env.cells.lookup x=Ga c->∀ v,s.heap.IsCell c v->h'.IsCell c v:=λx c e v ⟨o,ho,hd⟩=>by
  have nch:c∉ch:=λz=>(hch c z).2.2.1 x c e rfl;by_cases hc:c∈X.fs9
  .obtain⟨sl,q⟩:=slot c o (I.cne x c e) hc nch ho (I.freeC x c e);exact⟨_,q,hd⟩
  .exact⟨o,keep c o (I.cne x c e) hc nch ho (I.freeC x c e),hd⟩
 refine⟨I.ok,I.os,hg,⟨λb o e n hb hx=>?_,λb o e n hb hx=>?_,λb o e n hx=>?_,λb o e hx=>?_,λb xs e=>tups b xs (I.base.tups b xs e),λb o xs e=>frzs b o xs (I.base.frzs b o xs e),λb ps e=>?_⟩,?_,λx c e=>?_,?_,λx c e=>?_,λp hp=>?_,hok,I.len⟩
 .exact keep b o (neL b o e) hb (neC b o e hx) (I.base.keep b o e n hb hx) (I.base.free b o e n hx)
 .obtain⟨sl,e1⟩:=I.base.slot b o e n hb hx;have⟨sl',e2⟩:=slot b _ (neL b o e) hb (neC b o e hx) e1 (I.base.free b o e n hx);exact⟨sl',e2⟩
 .obtain⟨o',e1⟩:=I.base.there b o e hx;exact free b o' (neC b o e hx) e1 (I.base.free b o e n hx)
 .obtain⟨o',e1⟩:=I.base.there b o e hx;exact there b o' (neC b o e hx) e1
 .obtain⟨m1,e1⟩:=I.base.tbls b ps e;have⟨m2,e2⟩:=tbls b _ e1;exact⟨m1++m2,by rw[e2,Array.append_assoc]⟩
 .obtain⟨m,hn,hl⟩:=I.loc;refine⟨m,ns m hn,λi x v e1 e2 e3=>?_⟩;have⟨u,r,l⟩:=hl i x v e1 e2 e3;refine⟨u,r,?_⟩;rcases l with l|⟨k,c,e,z⟩
  .exact .inl l
  .exact .inr ⟨k,c,e,cellK x c e _ z⟩
 .obtain⟨v,z⟩:=I.cell x c e;exact⟨v,cellK x c e v z⟩
 .obtain⟨m,⟨o,_,_,ho,_⟩,_⟩:=I.loc;exact free _ o (λz=>(hch _ z).2.1 rfl) ho I.free
 .obtain⟨v,o,ho,hd⟩:=I.cell x c e;exact free c o (λz=>(hch c z).2.2.1 x c e rfl) ho (I.freeC x c e)
 .obtain⟨e,n,ne,nf,d⟩:=I.pin p hp;have nch:p.1∉ch:=λz=>(hch p.1 z).2.2.2 p hp rfl;exact⟨keep p.1 p.2 ne nf nch e n,free p.1 p.2 nch e n,ne,nf,d⟩
def dE.un(I:dE X ω σ H s)(u:Un X.fs9 [] H H' s.heap h')(hok:HOk X.prog X.w H' h'):dE X ω σ H' { s with heap:=h',toks:=t' }:=by
 have⟨m,⟨o,es,ep,ho,r⟩,_⟩:=id I.loc;obtain⟨sl,hL⟩:=u.any ho I.free (by simp);exact I.step (g':=s.gens) (d':=s.drawn) (ch:=[]) (λ_ z=>nomatch z) (λb o _ hb _ e n=>u.keep b o e n hb (by simp)) (λb o _ hb _ e n=>u.slot b o e n hb (by simp)) (λb o _ e n=>u.free b o e n (by simp)) (λb o _ e=>u.there b o e (by simp)) u.tups u.frzs u.tbls (λm' hm=>by
  obtain⟨o',es',ep',ho',r'⟩:=hm;rw[ho] at ho';cases ho';exact⟨_,es',ep',hL,r'⟩) hok I.bare
def dE.call(I:dE X ω σ H s)(u:Un (gE X.stack) ch H H' s.heap h')(hok:HOk X.prog X.w H' h')(hg:AllBare g')
  (hch:∀ b∈ch,(b∈X.ex\/X.s₀.heap.objs.size<=b)/\b≠X.env.locals/\(∀ x c,X.env.cells.lookup x=Ga c->c≠b)/\∀ p∈X.pn++ω,p.1≠b) :
  dE X ω σ H' { s with heap:=h',gens:=g',drawn:=d',toks:=t' }:=by
 have⟨m,⟨o,es,ep,ho,r⟩,_⟩:=id I.loc;have⟨sl,hL⟩:=u.any ho I.free λz=>(hch _ z).2.1 rfl;exact I.step (ch:=ch) hch (λb o hL hb hc e n=>u.keep b o e n (λz=>(jz.mp (I.stkSub b z)).elim hL hb) hc) (λb o _ _ hc e n=>u.any e n hc) (λb o hc e n=>u.free b o e n hc) (λb o hc e=>u.there b o e hc) u.tups u.frzs u.tbls (λm' hm=>by
  obtain⟨o',es',ep',ho',r'⟩:=hm;rw[ho] at ho';cases ho';exact⟨_,es',ep',hL,r'⟩) hok hg
def dE.turned(I:dE X ω σ H s)(k:∀ b o,b≠it->s.heap.get? b=Ga o->h'.get? b=Ga o)(hn:H it=Gb)(hL:it≠X.env.locals)
  (h1:it∈X.ex\/X.s₀.heap.objs.size<=it) (h2:∀ x c,X.env.cells.lookup x=Ga c->c≠it) (h3:∀ p∈X.pn++ω,p.1≠it):dE X ω σ H { s with heap:=h',toks:=t' }:=by
 have nit:∀ b u,H b=Ga u->b≠it:=λb u e z=>by rw[z,hn] at e;cases e
 refine I.step (g':=s.gens) (d':=s.drawn) (ch:=[it]) (λb hb=>?_) (λb o _ _ hc e _=>k b o (λz=>hc (by simp[z])) e) (λb o _ _ hc e _=>⟨o.slots,k b o (λz=>hc (by simp[z])) e⟩) (λ_ _ _ _ n=>n)
  (λb o hc e=>⟨o,k b o (λz=>hc (by simp[z])) e⟩) (λ_ _ e=>e) (λ_ _ _ e=>e) (λb ps e=>⟨#[],by rw[e];simp⟩) (λm hm=>?_) (λb u e=>?_) I.bare
 .have e:b=it:=by simpa using hb
  subst e;exact⟨h1,hL,h2,h3⟩
 .obtain⟨o,es,ep,ho,r⟩:=hm;exact⟨o,es,ep,k _ o (kW hL) ho,r⟩
 .refine(I.hok b u e).stay (λc v hc q=>k c v ?_ q) (λ_ q=>q) λ_ _ q=>q;rcases hc with z|z
  .rw[z];exact nit b u e
  .exact nit c _ z
def dE.tok (I:dE X ω σ H s)(t:Nat):dE X ω σ H { s with toks:=t }:=I.un (h':=s.heap) (t':=t) Un.refl I.hok
def dE.kept {t':Nat}(I:dE X ω σ H s)(k:∀ b u,s.heap.get? b=Ga u->h'.get? b=Ga u):dE X ω σ H { s with heap:=h',toks:=t' }:=I.un (Un.kept k) (I.hok.kept k)
def dE.laid {a:Gj}{o:HO}{t':Nat}(I:dE X ω σ H s)(k:∀ b u,s.heap.get? b=Ga u->h'.get? b=Ga u)(hp:s.heap.objs.size<=a)(new:gH X.prog X.w (upd H a o) h' a o) :
  dE X ω σ (upd H a o) { s with heap:=h',toks:=t' }:=I.un (Un.laid k hp (I.hok.fresh hp)) (I.hok.laid k hp new)
def dE.write {x e:Gj}{o:HO}{t':Nat}(I:dE X ω σ H s)(mu:Dk (H x))(he:e=x\/H e=Ga (.own x))(k:∀ b u,b≠e->s.heap.get? b=Ga u->h'.get? b=Ga u)(heo:∃ u,h'.get? e=Ga u)
  (new:gH X.prog X.w (upd H x o) h' x o):dE X ω σ (upd H x o) { s with heap:=h',toks:=t' }:=I.un (Un.write mu he k heo) (I.hok.write mu he k heo new)
def dE.pins_of {pins':List (Gj×Obj)}(I:dE X ω σ H s)(h:∀ p∈pins',s.heap.get? p.1=Ga p.2/\H p.1=Gb/\p.1≠X.env.locals/\p.1∉X.fs9/\∀ v,p.2.data≠.cell v):dE X pins' σ H s :=
 ⟨I.ok,I.os,I.bare,I.base,I.loc,I.cell,I.free,I.freeC,λp hp=>(kI.mp hp).elim (λz=>I.pin p (u9 _ z)) (h p),I.hok,I.len⟩
def wn(hN:N.Nodup)(a:N[i]?=Ga x)(b:N[j]?=Ga x):i=j:=by
 have⟨h1,e1⟩:=je.mp a;have⟨h2,e2⟩:=je.mp b;exact(JB hN).mp (e1.trans e2.symm)
def yk(I:dE X ω σ H s)(hN:X.N.Nodup)(hi:X.N[i]?=Ga x)(hx:rE X.env.scope x)(r:eL v u)
  (h:∀ s',dE X ω (σ.set i (Ga v)) H s'->(∃ a,kZ a s.heap s'.heap/\(a=X.env.locals\/X.env.cells.lookup x=Ga a))->Q () s') (hf:Sd X x:=by first|exact .inl rfl|exact .inr rfl|assumption):wpAny M A (storeName X.env x u) Q E s:=by
 have⟨m,hn,hl⟩:=id I.loc;have hcls:(X.env.scope.kind==.class||(X.env.scope.kind==.module&&X.env.locals !=X.env.globals))=false:=by rw[I.ok.kind];rfl
 have hiσ:i<σ.length:=by rw[I.len];exact(je.mp hi).1
 have cne:=I.cne;have tracked:∀ {a:Gj} {h':Heap},(∃ o,s.heap.get? a=Ga o/\H a=Gb)->kZ a s.heap h'->HOk X.prog X.w H h':=λ{a h'} ha hs b ob e=>by
  obtain⟨_,_,hfree⟩:=ha;refine(I.hok b ob e).stay (λc w' hc q=>(hs.2 c ?_).trans q) (λ_ q=>q) λ_ _ q=>q;rintro rfl;rcases hc with rfl|hc
  .rw[hfree] at e;cases e
  .rw[hfree] at hc;cases hc
 rcases hx with hk|hk
 .refine wpAny_storeName_local hk hn (λh' hn' hs=>?_) hcls;have⟨oL,_,_,hoL,_⟩:=id hn;refine h _ ⟨I.ok,I.os,I.bare,⟨λb o e n hb hx=>?_,λb o e n hb hx=>?_,I.base.free,λb o e hx=>?_,I.base.tups,I.base.frzs,I.base.tbls⟩,⟨_,hn',λj y v' e1 e2 e3=>?_⟩,λy c e=>?_,I.free,I.freeC,λp hp=>?_,tracked ⟨oL,hoL,I.free⟩ hs,by simpa using I.len⟩ ⟨_,hs,.inl rfl⟩
  .exact(hs.2 b (jB (jf (jg e) I.ok.above))).trans (I.base.keep b o e n hb hx)
  .obtain⟨sl,e1⟩:=I.base.slot b o e n hb hx;exact⟨sl,(hs.2 b (jB (jf (jg e) I.ok.above))).trans e1⟩
  .obtain⟨o',e1⟩:=I.base.there b o e hx;exact⟨o',(hs.2 b (jB (jf (jg e) I.ok.above))).trans e1⟩
  .by_cases hj:j=i
   .subst hj;rw[hi] at e1;cases e1;rw[jx hiσ] at e2;cases e2;exact⟨u,r,.inl ⟨hk,by simp⟩⟩
   .rw[jq (kW hj)] at e2;have⟨u',r',q⟩:=hl j y v' e1 e2 e3;refine⟨u',r',?_⟩;rcases q with ⟨k,e⟩|⟨k,c,e,z⟩
    .refine .inl ⟨k,?_⟩;have:y≠x:=λe=>hj (wn hN e1 (e▸hi));simp[this,e]
    .exact .inr ⟨k,c,e,z.sameBut hs (cne y c e)⟩
  .obtain⟨w',z⟩:=I.cell y c e;exact⟨w',z.sameBut hs (cne y c e)⟩
  .obtain⟨e,n,ne,nf,d⟩:=I.pin p hp;exact⟨(hs.2 p.1 ne).trans e,n,ne,nf,d⟩
 .have hfn:X.fn x=true:=by
   rcases hf with z|z
   .exact z
   .rw[z] at hk;cases hk
  have⟨c,hc⟩:=I.ok.has x (.inl hk);have⟨w',z⟩:=I.cell x c hc;refine wpAny_storeName_cell I.ok.kind hk hc z (λh' hc' hs=>?_);have⟨oc,hoc,hocd⟩:=id z;refine h { s with heap:=h' } ⟨I.ok,I.os,I.bare,⟨λb o e n hb hx=>?_,λb o e n hb hx=>?_,I.base.free,λb o e hx=>?_,I.base.tups,I.base.frzs,I.base.tbls⟩,⟨m,hn.sameBut hs (kW (cne x c hc)),λj y v' e1 e2 e3=>?_⟩,λy c' e=>?_,I.free,I.freeC,λp hp=>?_,tracked ⟨oc,hoc,I.freeC x c hc⟩ hs,by simpa using I.len⟩ ⟨c,hs,.inr hc⟩
  .exact(hs.2 b (jB (jf (jg e) (I.ok.cab x c hfn hc)))).trans (I.base.keep b o e n hb hx)
  .obtain⟨sl,e1⟩:=I.base.slot b o e n hb hx;exact⟨sl,(hs.2 b (jB (jf (jg e) (I.ok.cab x c hfn hc)))).trans e1⟩
  .obtain⟨o',e1⟩:=I.base.there b o e hx;exact⟨o',(hs.2 b (jB (jf (jg e) (I.ok.cab x c hfn hc)))).trans e1⟩
  .by_cases hj:j=i
   .subst hj;rw[hi] at e1;cases e1;rw[jx hiσ] at e2;cases e2;exact⟨u,r,.inr ⟨.inl hk,c,hc,hc'⟩⟩
   .rw[jq (kW hj)] at e2;have⟨u',r',q⟩:=hl j y v' e1 e2 e3;refine⟨u',r',?_⟩;rcases q with q|⟨k,c',e,z'⟩
    .exact .inl q
    .refine .inr ⟨k,c',e,z'.sameBut hs ?_⟩;rintro rfl;exact hj (wn hN e1 (I.ok.inj _ _ _ e hc▸hi))
  .by_cases hcc:c'=c
   .subst hcc;exact⟨_,hc'⟩
   .obtain⟨w2,z2⟩:=I.cell y c' e;exact⟨w2,z2.sameBut hs hcc⟩
  .obtain⟨e,n,ne,nf,d⟩:=I.pin p hp;refine⟨(hs.2 p.1 ?_).trans e,n,ne,nf,d⟩;intro q;rw[q,hoc] at e;have q':oc=p.2:=jM e;exact d w' (by rw[<- q'];exact hocd)
def wg(I:dE X ω σ H s)(hN:X.N.Nodup)(hi:X.N[i]?=Ga x)(hx:rE X.env.scope x)(r:eL v u)
  (h:∀ s',dE X ω (σ.set i (Ga v)) H s'->Q () s') (hf:Sd X x:=by first|exact .inl rfl|exact .inr rfl|assumption):wpAny M A (storeName X.env x u) Q E s :=
 yk I hN hi hx r (λs' I' _=>h s' I') hf
def dE.call'(I:dE X ω σ H s)(ho:s'.os=s.os)(u:Un (gE X.stack) ch H H' s.heap s'.heap)(hok:HOk X.prog X.w H' s'.heap)(hg:AllBare s'.gens)
  (hch:∀ b∈ch,(b∈X.ex\/X.s₀.heap.objs.size<=b)/\b≠X.env.locals/\(∀ x c,X.env.cells.lookup x=Ga c->c≠b)/\∀ p∈X.pn++ω,p.1≠b):dE X ω σ H' s':=by
 obtain⟨h',g',d',t',o'⟩:=s';have e:o'=s.os:=ho;subst e;exact I.call (g':=g') (t':=t') (d':=d') u hok hg hch
abbrev XK:=Gg->Option Gj->Hp->Prop
abbrev St:=List (Option V)
abbrev VK:=V->Hp->Prop
abbrev TE:=St->Hp->VK->Prop
abbrev TT:=St->Hp->(Bool->Hp->Prop)->Prop
abbrev TA:=St->Hp->(List V->Hp->Prop)->Prop
structure sR where
 nx:St->Hp->Prop
 rt:VK
 bk:St->Hp->Prop:=λ_ _=>False
 ct:St->Hp->Prop:=λ_ _=>False
abbrev TS:=sR->St->Hp->Prop
def EP (X:Cx)(ω:List (Gj×Obj))(σ:St)(Q:VK)(u:Gg)(s':Gh):Prop:=∃ v H',dE X ω σ H' s'/\eL v u/\Q v H'
def TP (X:Cx)(ω:List (Gj×Obj))(σ:St)(Q:Bool->Hp->Prop)(b:Bool)(s':Gh):Prop:=∃ H',dE X ω σ H' s'/\Q b H'
def AP (X:Cx)(ω:List (Gj×Obj))(σ:St)(Q:List V->Hp->Prop)(us:List Gg)(s':Gh):Prop:=∃ vs H',dE X ω σ H' s'/\eC vs us/\Q vs H'
def SP (X:Cx)(ω:List (Gj×Obj))(D:sR)(f:Flow)(s':Gh):Prop :=
 match f with
 | .next=>∃ σ' H',dE X ω σ' H' s'/\D.nx σ' H'
 | .brk=>∃ σ' H',dE X ω σ' H' s'/\D.bk σ' H'
 | .cont=>∃ σ' H',dE X ω σ' H' s'/\D.ct σ' H'
 | .ret u=>∃ v σ' H',dE X ω σ' H' s'/\eL v u/\D.rt v H'
def PE (X:Cx)(e:Expr)(t:TE):Prop :=
 ∀ ω s σ H Q,dE X ω σ H s->t σ H Q->wX X (eval e X.env) (EP X ω σ Q) X.xe s
def PT (X:Cx)(e:Expr)(t:TT):Prop :=
 ∀ ω s σ H Q,dE X ω σ H s->t σ H Q->wX X (isTrue e X.env (eval e X.env)) (TP X ω σ Q) X.xe s
def PW (X:Cx)(e:Expr)(t:TT):Prop :=
 ∀ (whole:Sem Gg) ω s σ H Q,dE X ω σ H s->t σ H Q->wX X (isTrue e X.env whole) (TP X ω σ Q) X.xe s
def PW.pt{t:TT}(h:PW X e t):PT X e t:=h _
def PA (X:Cx)(es:List Expr)(t:TA):Prop :=
 ∀ (pos:Pos) ω s σ H Q,dE X ω σ H s->t σ H Q->wX X (spliced (backTo pos (starEach es X.env))) (AP X ω σ Q) X.xe s
def PS (X:Cx)(st:Stmt)(t:TS):Prop :=
 ∀ ω s σ H D,dE X ω σ H s->t D σ H->wX X (exec st X.env) (SP X ω D) X.xe s
def lc (X:Cx)(st:List Stmt)(t:TS):Prop :=
 ∀ ω s σ H D,dE X ω σ H s->t D σ H->wX X (execs st X.env) (SP X ω D) X.xe s
def eV {α:Type}{t:Sem α}{Q Q':α->Gh->Prop}(h:wpAny M A t Q E s)(hQ:∀ a s,Q a s->Q' a s):wpAny M A t Q' E s:=wpAny_mono h hQ λ_ _ x=>x
def xN (i:Nat):TE:=λσ H Q=>∃ v,σ[i]?=Ga (Ga v)/\Q v H
def tC (v:V):TE:=λ_ H Q=>Q v H
def gz(hN:X.N[i]?=Ga x)(hv:lK X.env.scope x)(hd:Nd x:=by decide)(hcd:(x==("__classdict__":Str))=false:=by decide):PE X (.Name x pos) (xN i):=by
 intro ω s σ H Q I h;obtain⟨v,e,h⟩:=h;have⟨m,hn,hl⟩:=I.loc;have⟨u,r,l⟩:=hl i x v hN e hv;have fin:EP X ω σ Q u s:=⟨v,H,I,r,h⟩;rcases l with ⟨hk,hm⟩|⟨hk,c,hc,hcell⟩
 .exact wpAny_Name (wpAny_loadName_local I.ok.kind hk hn hm fin) hd
 .rcases hk with hk|hk
  .exact wpAny_Name (wpAny_loadName_cell I.ok.kind hk hc hcell fin) hd
  .exact wpAny_Name (wpAny_loadName_free I.ok.kind hk hc hcell fin hcd) hd
def Kp {i j pos}:PE X (.Constant (.int i) j pos) (tC (.int i)):=λ_ _ _ H _ I h=>wpAny_Constant_int ⟨.int i,H,I.tok _,⟨_,rfl⟩,h⟩
def HF {b j pos}:PE X (.Constant (.bool b) j pos) (tC (.bl b)):=λ_ _ _ H _ I h=>Constant_bool ⟨.bl b,H,I,rfl,h⟩
def MU {j pos}:PE X (.Constant .none j pos) (tC .non):=λ_ _ _ H _ I h=>Constant_none ⟨.non,H,I,rfl,h⟩
def sJ {x j pos}:PE X (.Constant (.str x) j pos) (tC (.str x)):=λ_ _ _ H _ I h=>Calls.Constant_str ⟨.str x,H,I.tok _,⟨_,rfl⟩,h⟩
def Gl (X:Cx)(x:Str):Prop:=X.env.kindOf x=Ga .globalImplicit
variable {Q:Gg->Gh->Prop}{σ:St}{b a:Expr}{t ta tb te tv:TE}{tA tB':TT}
def gK(I:dE X ω σ H s)(hg:Gl X x)(hm:X.mg x=Ga u)(h:Q u s)
  (hd:Nd x:=by decide):wX X (eval (.Name x pos) X.env) Q E s :=
 qh I.ok.kind hg (Calls.loadGlobal_global (by rw[I.ok.glob];exact I.mod.glob.keeps I.bk) hm h) hd
def oA(I:dE X ω σ H s)(hg:Gl X x)(hm:X.mg x=Gb)(hv:bootBuiltins x=Ga u)(h:Q u s)
  (hn:x≠"__name__":=by decide) (hd:Nd x:=by decide):wX X (eval (.Name x pos) X.env) Q E s:=by
 have⟨mb,h1,h2⟩:=I.mod.blt;exact qh I.ok.kind hg (Calls.loadGlobal_builtin (by rw[I.ok.glob];exact I.mod.glob.keeps I.bk) hm (by rw[I.ok.blt];exact h1.keeps I.bk) ((h2 x hn).trans hv) h) hd
def lR(hg:Gl X x)(hm:X.mg x=Ga u)(r:eL v u)(hd:Nd x:=by decide):PE X (.Name x pos) (tC v) :=
 λ_ _ _ H _ I h=>gK I hg hm ⟨v,H,I,r,h⟩ hd
def PC (X:Cx)(op:CmpOp)(a b:Expr)(t:TE):Prop :=
 ∀ ω s σ H Q,dE X ω σ H s->t σ H Q ->
  wX X (eval a X.env) (λv s₁=>wX X (eval b X.env) (λu s₂=>wX X (compareOp op v u) (EP X ω σ Q) X.xe s₂) X.xe s₁) X.xe s
def zH (b:Expr)(h:op≠.In)(h2:op≠.NotIn):behindInMarks op b=false:=by
 have e1:(op==CmpOp.In)=false:=by cases op<;>first|rfl|exact absurd rfl h
 have e2:(op==CmpOp.NotIn)=false:=by cases op<;>first|rfl|exact absurd rfl h2
 cases b<;>simp[behindInMarks,e1,e2]
def tB (t:TE):TT:=λσ H Q=>t σ H λx H1=>∃ c,x=.bl c/\Q c H1
def DN(h:PC X op a b t)(h1:behindInMarks op b=false:=by first|exact zH _ (by decide) (by decide)|rfl):PT X (.Compare a [op] [b] pos) (tB t):=by
 intro ω s σ H Q I hw;refine wpAny_isTrue_Compare1 (eV (h ω s σ H _ I hw) λv s1 h1=>eV h1 λu s2 h2=>eV h2 λc s3 ⟨x,H1,I1,r1,q1⟩=>?_) h1;obtain⟨d,rfl,q⟩:=q1;cases r1;exact wpAny_truthy_bool ⟨H1,I1,q⟩
def tOr (t u:TT):TT:=λσ H Q=>t σ H λc H1=>if c=true then Q true H1 else u σ H1 Q
def Xf (t:TT):TT:=λσ H Q=>t σ H λc H1=>Q (!c) H1
def DE (ha:PT X a tA):PW X (.BoolOp .Or [a] pos) tA:=by
 intro wh ω s σ H Q I h;refine isTrue_or (eV (ha ω s σ H Q I h) λc s1 e=>?_);cases c with
 | false=>exact isTrue_or_nil e
 | true=>exact e
def FZ (ha:PT X a tA)(hb:PW X (.BoolOp .Or (b::rest) pos) tB'):PW X (.BoolOp .Or (a::b::rest) pos) (tOr tA tB'):=by
 intro wh ω s σ H Q I h;refine isTrue_or (eV (ha ω s σ H _ I h) λc s1 ⟨H1,I1,q1⟩=>?_);cases c with
 | true=>exact⟨H1,I1,q1⟩
 | false=>exact hb wh ω s1 σ H1 Q I1 q1
def Em (ha:PT X a tA):PT X (.UnaryOp .Not a pos) (Xf tA):=by
 intro ω s σ H Q I h;exact isTrue_not (ha ω s σ H (λc H1=>Q (!c) H1) I h)
def NT (ta tb:TE):TE:=λσ H Q=>ta σ H λx H1=>∃ c,x=.bl c/\if c=true then tb σ H1 Q else Q (.bl false) H1
def Xh (ta tb:TE):TE:=λσ H Q=>ta σ H λx H1=>∃ c,x=.bl c/\if c=true then Q (.bl true) H1 else tb σ H1 Q
def NV (ta:TE):TE:=λσ H Q=>ta σ H λx H1=>∃ c,x=.bl c/\Q (.bl (!c)) H1
def Lm {op}(h:PE X a t):PE X (.BoolOp op [a] pos) t:=λω s σ H Q I hw=>BoolOp_one (h ω s σ H Q I hw)
def Iz (ha:PE X a ta)(hb:PE X (.BoolOp .And (b::rest) pos) tb):PE X (.BoolOp .And (a::b::rest) pos) (NT ta tb):=by
 intro ω s σ H Q I h;refine BoolOp_and (eV (ha ω s σ H _ I h) λv s1 ⟨x,H1,I1,r1,q1⟩=>?_);obtain⟨c,rfl,q1⟩:=q1;cases r1;refine wpAny_truthy_bool ?_;cases c with
 | true=>exact hb ω s1 σ H1 Q I1 q1
 | false=>exact⟨.bl false,H1,I1,rfl,q1⟩
def NW (ha:PE X a ta)(hb:PE X (.BoolOp .Or (b::rest) pos) tb):PE X (.BoolOp .Or (a::b::rest) pos) (Xh ta tb):=by
 intro ω s σ H Q I h;refine BoolOp_or (eV (ha ω s σ H _ I h) λv s1 ⟨x,H1,I1,r1,q1⟩=>?_);obtain⟨c,rfl,q1⟩:=q1;cases r1;refine wpAny_truthy_bool ?_;cases c with
 | false=>exact hb ω s1 σ H1 Q I1 q1
 | true=>exact⟨.bl true,H1,I1,rfl,q1⟩
def IK (ha:PE X a ta):PE X (.UnaryOp .Not a pos) (NV ta):=by
 intro ω s σ H Q I h;refine UnaryOp_ (eV (ha ω s σ H _ I h) λv s1 ⟨x,H1,I1,r1,q1⟩=>?_);obtain⟨c,rfl,q1⟩:=q1;cases r1;exact not_of (wpAny_truthy_bool ⟨.bl (!c),H1,I1,rfl,q1⟩)
def tIf (t:TT)(ta tb:TE):TE:=λσ H Q=>t σ H λc H1=>if c=true then ta σ H1 Q else tb σ H1 Q
def Fs(hc:PT X c tA)(ha:PE X a ta)(hb:PE X b tb):PE X (.IfExp c a b pos) (tIf tA ta tb):=by
 intro ω s σ H Q I h;refine wpAny_IfExp (eV (hc ω s σ H _ I h) λd s1 ⟨H1,I1,q1⟩=>?_);cases d with
 | true=>exact ha ω s1 σ H1 Q I1 q1
 | false=>exact hb ω s1 σ H1 Q I1 q1
def fQ (K:ja)(H:Hp)(a:Gj)(xs:List V):Prop :=
 Rd H a (.lst xs) \/
  ∃ (o:Obj) (its:Array Gg) (n:Nat),K.lookup a=Ga o/\o.cls=.type "list"/\o.dict=Gb/\o.data=.seq its n/\its.size<=sizeLine/\eC xs its.toList
def hU (K:ja)(H:Hp)(a:Gj)(xs:List V):Prop :=
 Rd H a (.tup xs) \/
  ∃ (o:Obj) (its:Array Gg) (n:Nat),K.lookup a=Ga o/\o.cls=.type "tuple"/\o.data=.seq its n/\its.size<=sizeLine/\eC xs its.toList
def WU:Gg->Option V
 | .none=>Ga .non
 | .bool b=>Ga (.bl b)
 | .int i _=>Ga (.int i)
 | .str x _=>Ga (.str x)
 | .ref a=>Ga (.ref a)
 | .type n=>Ga (.ty n)
 | _=>Gb
def eL.abs {x:V}(r:eL x u):WU u=Ga x:=by
 cases x with
 | non=>cases r;rfl
 | bl _=>cases r;rfl
 | int _=>obtain⟨t,rfl⟩:=r;rfl
 | str _=>obtain⟨t,rfl⟩:=r;rfl
 | ref _=>cases r;rfl
 | ty _=>cases r;rfl
def eL.inj {x:V}(r:eL x u)(q:eL y u):x=y:=jM (r.abs.symm.trans q.abs)
def eC.inj:∀ {xs ys:List V} {us:List Gg},eC xs us->eC ys us->xs=ys
 | _,_,_,.nil,.nil=>rfl
 | _,_,_,.cons r t,.cons r' t'=>by rw[r.inj r',eC.inj t t']
variable {a:Gj}{t u tb:TS}{rest:List Stmt}{v:Gg}
def fQ.of(h:H a=Ga (.lst xs)):fQ K H a xs:=.inl (.inl h)
def hU.of(h:H a=Ga (.tup xs)):hU K H a xs:=.inl (.inl h)
def dE.list (I:dE X ω σ H s)(h:fQ X.K H a xs):∃ its:List Gg,eC xs its/\PlainL s.heap a its.toArray/\xs.length<=sizeLine:=by
 rcases h with h|⟨o,its,n,hk,hc,hd,hs,hz,r⟩
 .obtain⟨z,its,n,r,e⟩:=h.ok I.hok;exact⟨its,r,⟨_,n,e,rfl,rfl,rfl⟩,z⟩
 .refine⟨its.toList,r,⟨o,n,I.kIn a o hk,hc,hd,by simpa using hs⟩,?_⟩;have e:=r.length;simp only[jP] at e;omega
def dE.tuple (I:dE X ω σ H s)(h:hU X.K H a xs):∃ its:List Gg,eC xs its/\IsTup s.heap a its.toArray/\xs.length<=sizeLine:=by
 rcases h with h|⟨o,its,n,hk,hc,hs,hz,r⟩
 .obtain⟨z,its,r,p⟩:=h.ok I.hok;exact⟨its,r,p,z⟩
 .refine⟨its.toList,r,⟨o,I.kIn a o hk,hc,n,by simpa using hs⟩,?_⟩;have e:=r.length;simp only[jP] at e;omega
def dE.list_inj (I:dE X ω σ H s)(h:fQ X.K H a xs)(h':fQ X.K H a ys):xs=ys:=by
 have⟨its,r,⟨o,n,e,_,_,d⟩,_⟩:=I.list h;have⟨its',r',⟨o',n',e',_,_,d'⟩,_⟩:=I.list h';rw[e] at e';cases e';rw[d] at d'
 injection d' with d1 _
 have:its=its':=by simpa using congrArg Array.toList d1
 subst this;exact r.inj r'
def dE.tuple_inj (I:dE X ω σ H s)(h:hU X.K H a xs)(h':hU X.K H a ys):xs=ys:=by
 have⟨its,r,⟨o,e,_,n,d⟩,_⟩:=I.tuple h;have⟨its',r',⟨o',e',_,n',d'⟩,_⟩:=I.tuple h';rw[e] at e';cases e';rw[d] at d'
 injection d' with d1 _
 have:its=its':=by simpa using congrArg Array.toList d1
 subst this;exact r.inj r'
abbrev Cx.wish (X:Cx)(E:Gg->Gh->Prop):Cx:={ X with xe:=E }
abbrev Cx.nox (X:Cx):Cx:=X.wish λ_ _=>False
def Cx.Ok.wish {X:Cx}(ok:X.Ok)(E:Gg->Gh->Prop):(X.wish E).Ok :=
 ⟨ok.mod,ok.kind,ok.glob,ok.blt,ok.above,ok.inj,ok.has,ok.cab,ok.hd,ok.frames,ok.stk,ok.exf,ok.bs,ok.bsz,ok.noex,ok.exfs,ok.funs,ok.frf⟩
def Cx.Ok.unwish(ok:(X.wish E).Ok):X.Ok :=
 ⟨ok.mod,ok.kind,ok.glob,ok.blt,ok.above,ok.inj,ok.has,ok.cab,ok.hd,ok.frames,ok.stk,ok.exf,ok.bs,ok.bsz,ok.noex,ok.exfs,ok.funs,ok.frf⟩
def dE.wish (I:dE X ω σ H s)(E:Gg->Gh->Prop):dE (X.wish E) ω σ H s:=⟨I.ok.wish E,I.os,I.bare,I.base,I.loc,I.cell,I.free,I.freeC,I.pin,I.hok,I.len⟩
def dE.unwish (I:dE (X.wish E) ω σ H s):dE X ω σ H s:=⟨I.ok.unwish,I.os,I.bare,I.base,I.loc,I.cell,I.free,I.freeC,I.pin,I.hok,I.len⟩
def SP.unwish {D:sR}{f:Flow}{s':Gh}(h:SP (X.wish E) ω D f s'):SP X ω D f s':=by
 cases f with
 | next=>obtain⟨σ',H',I,q⟩:=h;exact⟨σ',H',I.unwish,q⟩
 | brk=>obtain⟨σ',H',I,q⟩:=h;exact⟨σ',H',I.unwish,q⟩
 | cont=>obtain⟨σ',H',I,q⟩:=h;exact⟨σ',H',I.unwish,q⟩
 | ret u=>obtain⟨v,σ',H',I,r,q⟩:=h;exact⟨v,σ',H',I.unwish,r,q⟩
def lc.nox {st:List Stmt}(h:lc X.nox st t):lc X st t:=λω s σ H D I hw =>
 wpAny_mono (h ω s σ H D (I.wish _) hw) (λ_ _ q=>q.unwish) λ_ _ z=>False.elim z
def NE:TS:=λD σ H=>D.nx σ H
def WT (t u:TS):TS:=λD σ H=>t { D with nx:=u D } σ H
def HR:lc X [] NE:=λ_ _ σ H _ I h=>wpAny_execs_nil ⟨σ,H,I,h⟩
def oq (h1:PS X st t)(h2:lc X rest u):lc X (st::rest) (WT t u):=by
 intro ω s σ H D I h;refine wpAny_execs_cons (eV (h1 ω s σ H { D with nx:=u D } I h) λf s1 q=>?_);cases f with
 | next =>
  obtain⟨σ',H',I',q⟩:=q;exact h2 ω s1 σ' H' D I' q
 | ret v=>exact q
 | brk=>exact q
 | cont=>exact q
def xC (h1:PS X st t):lc X [st] t:=by
 intro ω s σ H D I h;refine wpAny_execs_cons (eV (h1 ω s σ H D I h) λf s1 q=>?_);cases f with
 | next=>exact wpAny_execs_nil q
 | ret v=>exact q
 | brk=>exact q
 | cont=>exact q
def dE.quiet(I:dE X ω σ H s):interactive X.env=false:=by simp[interactive,I.ok.kind]
def NB (te:TE):TS:=λD σ H=>te σ H λ_ H1=>D.nx σ H1
def AW (he:PE X e te)(hs:swapsWith e Gb pos.line X.env=pure false:=by rfl):PS X (.Expr e pos) (NB te):=by
 intro ω s σ H D I h;exact wpAny_Expr_any (eV (he ω s σ H _ I h) λv s1 ⟨x,H1,I1,r1,q1⟩=>⟨σ,H1,I1,q1⟩) I.quiet hs
def Xn (te:TE):TS:=λD σ H=>te σ H D.rt
def rR (he:PE X e te):PS X (.Return (Ga e) pos) (Xn te):=by
 intro ω s σ H D I h;exact wpAny_Return_some (eV (he ω s σ H _ I h) λv s1 ⟨x,H1,I1,r1,q1⟩=>⟨x,σ,H1,I1,r1,q1⟩)
def WG (c:TT)(t u:TS):TS:=λD σ H=>c σ H λb H1=>if b=true then t D σ H1 else u D σ H1
def xf{a b:List Stmt}{tc:TT}(hc:PT X c tc)(ha:lc X a t)(hb:lc X b u):PS X (.If c a b pos) (WG tc t u):=by
 intro ω s σ H D I h;refine wpAny_If (eV (hc ω s σ H _ I h) λd s1 ⟨H1,I1,q1⟩=>?_);cases d with
 | true=>exact ha ω s1 σ H1 D I1 q1
 | false=>exact hb ω s1 σ H1 D I1 q1
abbrev TG:=V->St->Hp->(St->Hp->Prop)->Prop
abbrev ww:=List V->St->Hp->(St->Hp->Prop)->Prop
def PG (X:Cx)(target:Expr)(t:TG):Prop :=
 ∀ ω s σ H v u Q,dE X ω σ H s->eL v u->t v σ H Q ->
  wX X (assign target X.env u) (λ_ s'=>∃ σ' H',dE X ω σ' H' s'/\Q σ' H') X.xe s
def yT (X:Cx)(ts:List Expr)(t:ww):Prop :=
 ∀ ω s σ H vs us Q,dE X ω σ H s->eC vs us->t vs σ H Q ->
  wX X (assignInOrder ((assignEach ts X.env).map (·.2)) us) (λ_ s'=>∃ σ' H',dE X ω σ' H' s'/\Q σ' H') X.xe s
abbrev Cu:=V->V->V->Hp->(Hp->Prop)->Prop
def Io (X:Cx)(t:Cu):Prop :=
 ∀ ω s σ H o i v ov iv u Q,dE X ω σ H s->eL o ov->eL i iv->eL v u->t o i v H Q ->
  wX X (setItem ov iv u) (λ_ s'=>∃ H',dE X ω σ H' s'/\Q H') X.xe s
def GQ (i:Nat):TG:=λv σ H Q=>Q (σ.set i (Ga v)) H
def HM(hN:X.N.Nodup)(hi:X.N[i]?=Ga x)(hx:rE X.env.scope x)(hf:Sd X x:=by first|exact .inl rfl|exact .inr rfl|assumption):PG X (.Name x pos) (GQ i):=by
 intro ω s σ H v u Q I r h;exact wpAny_assign_Name (wg I hN hi hx r (λs' I'=>⟨_,H,I',h⟩) hf)
def WM:ww:=λvs σ H Q=>vs=[]/\Q σ H
def NJ (t:TG)(u:ww):ww:=λvs σ H Q=>∃ v r,vs=v::r/\t v σ H λσ' H'=>u r σ' H' Q
def HS:yT X [] WM:=by
 intro ω s σ H vs us Q I r h;obtain⟨e,h⟩:=h;subst e;cases r;exact assignInOrder_nil ⟨σ,H,I,h⟩
def Ff{t:TG}{u:ww}(h1:PG X e t)(h2:yT X es u)
  (hs:(assignEach (e::es) X.env).map (·.2)=assign e X.env::(assignEach es X.env).map (·.2):=by rfl):yT X (e::es) (NJ t u):=by
 intro ω s σ H vs us Q I r h;obtain⟨v,vr,e1,h⟩:=h;subst e1;cases r with
 | cons r rr =>
  rw[hs];refine assignInOrder_cons (eV (h1 ω s σ H _ _ _ I r h) λ_ s1 ⟨σ1,H1,I1,q1⟩=>?_);exact h2 ω s1 σ1 H1 _ _ Q I1 rr q1
def XB (K:ja)(n:Nat)(t:ww):TG:=λv σ H Q=>∃ a xs,v=.ref a/\hU K H a xs/\xs.length=n/\t xs σ H Q
def LU{t:ww}(hc:X.calm=true)(h:yT X es t)
  (hn:(assignEach es X.env).length=n:=by rfl) (hst:(assignEach es X.env).findIdx? (·.1)=Gb:=by rfl):PG X (.Tuple es k pos) (XB X.K n t):=by
 intro ω s σ H v u Q I r hw;obtain⟨a,xs,e1,hq,hl,hw⟩:=hw;subst e1;cases r;have⟨its,rv,ht,hz⟩:=I.tuple hq;refine assign_Tuple_tuple (I.ok.hd hc) ht (by simp[hn,<- hl,rv.length]) hst λh' hx=>?_;have I1:dE X ω σ H { s with heap:=h' }:=I.kept (t':=s.toks) λb o e=>hx b o (jB (jg e)) e;exact h ω _ σ H xs _ Q I1 (by simpa using rv) hw
def WS (to ti:TE)(t:Cu):TG:=λv σ H Q=>to σ H λo H1=>ti σ H1 λi H2=>t o i v H2 λH3=>Q σ H3
def MN {o i:Expr}{to ti:TE}{t:Cu}(ho:PE X o to)(hi:PE X i ti)(hs:Io X t)
  (ha:∀ v,assign (.Subscript o i pos) X.env v=(do
   let ov <- holding [v] (eval o X.env)
   let iv <- holding [v,ov] (eval i X.env)
   standAt pos
   holding [v,ov,iv] (setItem ov iv v)
   release [v,ov,iv] []):=by intro _;rfl):PG X (.Subscript o i pos) (WS to ti t):=by
 intro ω s σ H v u Q I r h;rw[ha];refine dv (wpAny_holding (eV (ho ω s σ H _ I h) λov s1 ⟨x,H1,I1,r1,q1⟩=>?_));refine dv (wpAny_holding (eV (hi ω s1 σ H1 _ I1 q1) λiv s2 ⟨y,H2,I2,r2,q2⟩=>?_));refine dv (wpAny_standAt (dv (wpAny_holding (eV (hs ω s2 σ H2 x y v ov iv u _ I2 r1 r2 r q2) λ_ s3 ⟨H3,I3,q3⟩=>?_))));exact wpAny_release ⟨σ,H3,I3,q3⟩
def MZ (te:TE)(g:TG):TS:=λD σ H=>te σ H λx H1=>g x σ H1 D.nx
variable {g:TG}{u:Gg}{t:TA}
def Dp(he:PE X e te)(hg:PG X tg g)(hs:swapsWithSole [tg] e pos.line X.env=pure false:=by rfl)(hw:swappedStores [tg] e X.env=pure Gb:=by rfl)
  (h1:(assignEach [tg] X.env).map (·.2)=[assign tg X.env]:=by rfl):PS X (.Assign [tg] e pos) (MZ te g):=by
 intro ω s σ H D I h;refine wpAny_Assign_stores (eV (he ω s σ H _ I h) λv s1 ⟨x,H1,I1,r1,q1⟩=>?_) hs hw;rw[h1];exact eV (hg ω s1 σ H1 x v _ I1 r1 q1) λ_ s2 q=>q
def pG(hN:X.N.Nodup)(hi:X.N[i]?=Ga x)(hx:rE X.env.scope x)(he:PE X e te)(hs:swapsWith e (Ga (.Name x pos')) pos.line X.env=pure false:=by rfl)(hf:Sd X x:=by first|exact .inl rfl|exact .inr rfl|assumption) :
  PS X (.Assign [.Name x pos'] e pos) (MZ te (GQ i)):=by
 intro ω s σ H D I h;refine wpAny_Assign_Name (eV (he ω s σ H _ I h) λv s1 ⟨y,H1,I1,r1,q1⟩=>?_) hs;exact wg I1 hN hi hx r1 (λs2 I2=>⟨_,H1,I2,q1⟩) hf
def Ma (c:TT)(tb:TS):TS:=λD σ H=>∃ W:Nat->St->Hp->Prop,(∃ m,W m σ H)/\∀ m σ H,W m σ H ->
 c σ H λb H1=>if b=true then ∃ N:St->Hp->Prop,(∀ σ' H',N σ' H'->∃ m',m'<m/\W m' σ' H')/\tb { D with nx:=N,ct:=N,bk:=D.nx } σ H1 else D.nx σ H1
def Fe{tc:TT}(hp:PassesOwn (model X.prog X.w) X.A X.env X.xe)(hc:PT X c tc)(hb:lc X body tb):PS X (.While c body [] pos) (Ma tc tb):=by
 intro ω s σ H D I h;obtain⟨W,⟨m0,w0⟩,turn⟩:=h;refine wpAny_While (codeAny_whileLoop (λn s'=>∃ σ' H',dE X ω σ' H' s'/\W n σ' H') ?_ m0 ⟨σ,H,I,w0⟩);rintro n s1 ⟨σ1,H1,I1,w1⟩;refine wpAny_passesOwn hp (eV (hc ω s1 σ1 H1 _ I1 (turn n σ1 H1 w1)) λb s2 ⟨H2,I2,q2⟩=>?_);cases b with
 | true =>
  obtain⟨N,hN,q2⟩:=q2;rw[Ge rfl];refine wpAny_passesOwn hp (eV (hb ω s2 σ1 H2 _ I2 q2) λf s3 q3=>?_);cases f with
  | next =>
   obtain⟨σ3,H3,I3,n3⟩:=q3;have⟨m',hm,w3⟩:=hN σ3 H3 n3;exact⟨m',hm,σ3,H3,I3,w3⟩
  | cont =>
   obtain⟨σ3,H3,I3,n3⟩:=q3;have⟨m',hm,w3⟩:=hN σ3 H3 n3;exact⟨m',hm,σ3,H3,I3,w3⟩
  | brk=>exact q3
  | ret v=>exact q3
 | false =>
  rw[Gf jV];exact wpAny_execs_nil ⟨σ1,H2,I2,q2⟩
structure It where
 go:Nat->Hp->Prop
 yld:Nat->Hp->V->Hp->Prop
 stop:Nat->Hp->Prop
def pP (X:Cx)(ω:List (Gj×Obj))(H:Hp)(b:Gj):Prop :=
 H b=Gb/\b≠X.env.locals/\b∉X.fs9/\(b∈X.ex\/X.s₀.heap.objs.size<=b)/\(∀ x c,X.env.cells.lookup x=Ga c->c≠b)/\∀ p∈X.pn++ω,p.1≠b
def dE.fpOk{b:Gj}(I:dE X ω σ H s)(hb:s.heap.objs.size<=b)(hn:H' b=Gb):pP X ω H' b:=by
 refine⟨hn,uw (jf I.lt hb),I.nofs hb,.inr (jX I.sz hb),λx c e z=>?_,λp hp z=>?_⟩
 .obtain⟨v,q⟩:=I.cell x c e;exact absurd (jf q.lt (by rwa[z])) (ka _)
 .exact absurd (jf (jg (I.pin p hp).1) (by rwa[z])) (ka _)
structure wc (P:Program)(w:World)(K:ja)(tg:Expr)(J:It)(fp:List Gj)(it:Gj)(tn:Nat->Heap->Prop):Prop where
 mem:it∈fp
 obj:∀ i h,tn i h->∀ b∈fp,∃ o,h.get? b=Ga o/\∀ v,o.data≠.cell v
 keep:∀ i h h',tn i h->(∀ b∈fp,∀ o,h.get? b=Ga o->h'.get? b=Ga o)->tn i h'
 item:∀ (X:Cx),X.prog=P->X.w=w->X.K=K->X.calm=true->∀ (i:Nat) (ω:List (Gj×Obj)) (s:Gh) (σ:St) (H:Hp) (E:Gg->Gh->Prop),dE X ω σ H s->(∀ b∈fp,pP X ω H b)->tn i s.heap->J.go i H ->
  wpAny (model P w) X.A (pyNext (.ref it)) (λr s1=>∃ u,r=Ga u /\
   wpAny (model P w) X.A (letOwnedTupleGo tg (.ref it) u) (λ_ s2=>∃ x H',dE X ω σ H' s2/\eL x u/\J.yld i H x H'/\tn (i+1) s2.heap/\∀ b∈fp,H' b=Gb) E s1) E s
 done:∀ (X:Cx),X.prog=P->X.w=w->X.K=K->X.calm=true->∀ (i:Nat) (ω:List (Gj×Obj)) (s:Gh) (σ:St) (H:Hp) (E:Gg->Gh->Prop),dE X ω σ H s->(∀ b∈fp,pP X ω H b)->tn i s.heap->J.stop i H ->
  wpAny (model P w) X.A (pyNext (.ref it)) (λr s1=>r=Gb/\dE X ω σ H s1) E s
 self:∀ (A:Around) (i:Nat) (s:Gh) (Q:Gg->Gh->Prop) (E:Gg->Gh->Prop),tn i s.heap->Q (.ref it) s->wpAny (model P w) A (pyIter (.ref it)) Q E s
abbrev TI:=St->Hp->(It->Hp->Prop)->Prop
def TQ (X:Cx)(ω:List (Gj×Obj))(σ:St)(tg:Expr)(R:It->Hp->Prop)(itv:Gg)(s2:Gh):Prop :=
 ∃ (it:Gj) (fp:List Gj) (tn:Nat->Heap->Prop) (J:It) (H':Hp),itv=.ref it/\dE X ω σ H' s2/\wc X.prog X.w X.K tg J fp it tn/\tn 0 s2.heap/\(∀ b∈fp,pP X ω H' b)/\R J H'
def PI (X:Cx)(tg iter:Expr)(wi:TI):Prop :=
 ∀ ω s σ H R,dE X ω σ H s->wi σ H R ->
  wX X (eval iter X.env) (λv s1=>wX X (pyIter v) (TQ X ω σ tg R) X.xe s1) X.xe s
def yK{n:String}{vs:Array Gg}{Q:Unit->Gh->Prop}(ho:s.heap.get? it=Ga o)(hc:o.cls=.type n)(hd:o.data=.fields vs)
  (hn:["enumerate","zip","dict_itemiterator","dict_reverseitemiterator","odict_iterator","itertools.zip_longest","itertools.pairwise"].contains n=false) (hQ:Q () s):wpAny M A (letOwnedTupleGo tg (.ref it) u) Q E s:=by
 unfold letOwnedTupleGo;cases tg<;>first
  | exact dw hQ
  | (cases u<;>first
    | exact dw hQ
    | (refine dv (wpAny_load ho ?_)
       rw[hc,hd];show wpAny M A (if (["enumerate","zip","dict_itemiterator","dict_reverseitemiterator","odict_iterator","itertools.zip_longest","itertools.pairwise"].contains n&&vs[0]?==Ga (rawInt _))=true then _ else _) Q E s;rw[Gf (by intro h;rw[hn,Bool.false_and] at h;cases h)];exact dw hQ))
def Ip (K:ja)(a:Gj):It :=
 ⟨λi H=>∃ xs x,fQ K H a xs/\xs[i]?=Ga x,λi H x H'=>H'=H/\∀ xs,fQ K H a xs->xs[i]?=Ga x,λi H=>∃ xs,fQ K H a xs/\xs.length<=i⟩
def Kg (K:ja)(a:Gj):It :=
 ⟨λi H=>∃ xs x,hU K H a xs/\xs[i]?=Ga x,λi H x H'=>H'=H/\∀ xs,hU K H a xs->xs[i]?=Ga x,λi H=>∃ xs,hU K H a xs/\xs.length<=i⟩
def Ea (lo:Int)(n:Nat):It:=⟨λi _=>i<n,λi H x H'=>H'=H/\x=.int (lo+i),λi _=>n<=i⟩
def DQ(a it:Gj):wc P w K tg (Ip K a) [it] it (λi h=>h.IsListIter it a i) where
 mem:=by simp
 obj:=λi h st b hb=>by
  have e:b=it:=by simpa using hb
  subst e;obtain⟨o,e,c,d⟩:=st;exact⟨o,e,λv z=>by rw[d] at z;cases z⟩
 keep:=λi h h' st k=>st.at λo e=>k it (by simp) o e
 item:=by
  intro X hP hw hK hc i ω s σ H E I hf st hg;subst hP hw hK;obtain⟨xs,x,hq,hx⟩:=hg;have⟨its,rv,p,hz⟩:=I.list hq;have⟨u,hu,ru⟩:=rv.get hx;obtain⟨f0,f1,f2,f3,f4,f5⟩:=hf it (by simp);refine wpAny_pyNext_list_item st p.isList (x:=u) (by simpa using hu) λh' st' sb=>?_;have I1:dE X ω σ H { s with heap:=h' }:=I.turned (t':=s.toks) (λb o hb e=>(sb.2 b hb).trans e) f0 f1 f3 f4 f5;have⟨o,e,c,d⟩:=id st';exact⟨u,rfl,yK (s:={ s with heap:=h' }) e c d (by decide) ⟨x,H,I1,ru,⟨rfl,λys hy=>by rwa[I.list_inj hy hq]⟩,st',λb hb=>(hf b hb).1⟩⟩
 done:=by
  intro X hP hw hK hc i ω s σ H E I hf st hg;subst hP hw hK;obtain⟨xs,hq,hx⟩:=hg;have⟨its,rv,p,hz⟩:=I.list hq;obtain⟨f0,f1,f2,f3,f4,f5⟩:=hf it (by simp);have hl:=rv.length;exact wpAny_pyNext_list_end (I.ok.hd hc) st p.isList (by simp;omega) λh' eb=>⟨rfl,I.turned (t':=s.toks) (λb o hb e=>eb b o hb e) f0 f1 f3 f4 f5⟩
 self:=λ_ _ _ _ _ st h=>wpAny_pyIter_listiter st h
def BR(a it:Gj):wc P w K tg (Kg K a) [it] it (λi h=>h.IsTupleIter it a i) where
 mem:=by simp
 obj:=λi h st b hb=>by
  have e:b=it:=by simpa using hb
  subst e;obtain⟨o,e,c,d⟩:=st;exact⟨o,e,λv z=>by rw[d] at z;cases z⟩
 keep:=λi h h' st k=>st.at λo e=>k it (by simp) o e
 item:=by
  intro X hP hw hK hc i ω s σ H E I hf st hg;subst hP hw hK;obtain⟨xs,x,hq,hx⟩:=hg;have⟨its,rv,p,hz⟩:=I.tuple hq;have⟨u,hu,ru⟩:=rv.get hx;obtain⟨f0,f1,f2,f3,f4,f5⟩:=hf it (by simp);refine wpAny_pyNext_tuple_item st (show s.heap.IsTuple a its.toArray from p) (x:=u) (by simpa using hu) λh' st' sb=>?_;have I1:dE X ω σ H { s with heap:=h' }:=I.turned (t':=s.toks) (λb o hb e=>(sb.2 b hb).trans e) f0 f1 f3 f4 f5;have⟨o,e,c,d⟩:=id st';exact⟨u,rfl,yK (s:={ s with heap:=h' }) e c d (by decide) ⟨x,H,I1,ru,⟨rfl,λys hy=>by rwa[I.tuple_inj hy hq]⟩,st',λb hb=>(hf b hb).1⟩⟩
 done:=by
  intro X hP hw hK hc i ω s σ H E I hf st hg;subst hP hw hK;obtain⟨xs,hq,hx⟩:=hg;have⟨its,rv,p,hz⟩:=I.tuple hq;obtain⟨f0,f1,f2,f3,f4,f5⟩:=hf it (by simp);have hl:=rv.length;exact wpAny_pyNext_tuple_end (I.ok.hd hc) st (show s.heap.IsTuple a its.toArray from p) (by simp;omega) λh' eb=>⟨rfl,I.turned (t':=s.toks) (λb o hb e=>eb b o hb e) f0 f1 f3 f4 f5⟩
 self:=λ_ _ _ _ _ st h=>wpAny_pyIter_tupleiter st h
def Cv(it:Gj)(lo:Int)(n:Nat):wc P w K tg (Ea lo n) [it] it (λi h=>IsRangeIter h it (lo+(i:Nat)*1) ((n:Int)-(i:Nat)) 1) where
 mem:=by simp
 obj:=λi h st b hb=>by
  have e:b=it:=by simpa using hb
  subst e;exact⟨_,st,λv z=>by
   have z':Data.fields _=Data.cell v:=z;cases z'⟩
 keep:=λi h h' st k=>k it (by simp) _ st
 item:=by
  intro X hP hw hK hc i ω s σ H E I hf st hg;subst hP hw hK;obtain⟨f0,f1,f2,f3,f4,f5⟩:=hf it (by simp);have W:=Walks.range (prog:=X.prog) (w:=X.w) (I.ok.hd hc) it lo 1 n;refine W.item i s _ _ hg st λv h' tk hv st' kk=>?_;obtain⟨t,rfl⟩:=hv;have I1:dE X ω σ H { s with heap:=h',toks:=tk }:=I.turned (λb o hb e=>kk b o (by simpa using hb) e) f0 f1 f3 f4 f5;refine⟨_,rfl,yK (s:={ s with heap:=h',toks:=tk }) (n:="range_iterator") st' rfl rfl (by decide) ⟨.int (lo+i),H,I1,⟨t,?_⟩,⟨rfl,rfl⟩,st',λb hb=>(hf b hb).1⟩⟩;rw[Int.mul_one]
 done:=by
  intro X hP hw hK hc i ω s σ H E I hf st hg;subst hP hw hK;obtain⟨f0,f1,f2,f3,f4,f5⟩:=hf it (by simp);exact wpAny_pyNext_range_end (I.ok.hd hc) st (by have:n<=i:=hg;omega) λh' eb=>⟨rfl,I.turned (t':=s.toks) (λb o hb e=>eb b o hb e) f0 f1 f3 f4 f5⟩
 self:=λ_ _ _ _ _ st h=>wpAny_pyIter_rangeiter st h
def zy{R:It->Hp->Prop}{lo hi:Int}{t u v:Tok}{tk:Nat}(I:dE X ω σ H s)(h1:-(2^62)<=lo)(h2:lo<2^62)(h3:-(2^62)<=hi)(h4:hi<2^62)
  (q:R (Ea lo (hi-lo).toNat) H):wX X (pyIter (.ref s.heap.objs.size)) (TQ X ω σ tg R) E { s with heap:=s.heap.push { cls:=.type "range",data:=.fields #[.int lo t,.int hi u,.int 1 v] },toks:=tk }:=by
 refine wpAny_pyIter_range (IsRange.new ..) (small_one h1 h2 h3 h4) ?_;have I1:dE X ω σ H { s with heap:=s.heap.push { cls:=.type "range",data:=.fields #[.int lo t,.int hi u,.int 1 v] },toks:=tk }:=I.kept λb o e=>jb _ e;refine⟨(s.heap.push { cls:=.type "range",data:=.fields #[.int lo t,.int hi u,.int 1 v] }).objs.size,[(s.heap.push { cls:=.type "range",data:=.fields #[.int lo t,.int hi u,.int 1 v] }).objs.size],_,_,H,rfl,
  I1.kept (t':=tk) λb o e=>jb _ e,Cv _ lo (hi-lo).toNat,?_,λb hb=>?_,q⟩
 .have e1:lo+((0:Nat):Int)*1=lo:=by simp
  have e2:(((hi-lo).toNat:Nat):Int)-((0:Nat):Int)=Builtin.Range.rangeSize lo hi 1:=by rw[rangeSize_one];split<;>omega
  show IsRangeIter _ _ (lo+((0:Nat):Int)*1) ((((hi-lo).toNat:Nat):Int)-((0:Nat):Int)) 1;rw[e1,e2];exact jm _ rfl
 .have e:b=(s.heap.push { cls:=.type "range",data:=.fields #[.int lo t,.int hi u,.int 1 v] }).objs.size:=by simpa using hb
  subst e;exact I1.fpOk (jw _) (I1.hok.fresh (jw _))
def ND (ta:TA):TI:=λσ H R=>ta σ H λvs H1=>∃ j:Int,vs=[.int j]/\-(2^62)<=j/\j<2^62/\R (Ea 0 j.toNat) H1
def NR (ta:TA):TI:=λσ H R=>ta σ H λvs H1=>∃ i j:Int,vs=[.int i,.int j]/\(-(2^62)<=i/\i<2^62/\-(2^62)<=j/\j<2^62)/\R (Ea i (j-i).toNat) H1
def DY {a:Expr}{ta:TA}{p:Pos}(hg:Gl X "range")(hm:X.mg "range"=Gb)(ha:PA X [a] ta)(hs:Sb X a:=by rfl):PI X tg (.Call (.Name "range" p) [a] [] pos) (ND ta):=by
 intro ω s σ H R I h;refine Call_ (oA I hg hm boot_range (PyProof.Rows.callWith_type1 (eV (ha pos ω s σ H _ I h) λus s1 ⟨vs,H1,I1,r1,q1⟩=>?_) hs rfl));obtain⟨j,e,q1,q2,q⟩:=q1;subst e;cases r1 with
 | cons r rr =>
  cases rr;obtain⟨t,rfl⟩:=r;exact call_range_1 (zy I1 (by omega) (by omega) q1 q2 (by simpa using q))
def Db {a:Expr}{ta:TA}{p:Pos}(hg:Gl X "range")(hm:X.mg "range"=Gb)(ha:PA X [a,b] ta)(hs:starEach [a,b] X.env=[(false,eval a X.env),(false,eval b X.env)]:=by rfl)(hs2:Sb X b:=by rfl) :
  PI X tg (.Call (.Name "range" p) [a,b] [] pos) (NR ta):=by
 intro ω s σ H R I h;refine Call_ (oA I hg hm boot_range (PyProof.Rows.callWith_type1 (eV (ha pos ω s σ H _ I h) λus s1 ⟨vs,H1,I1,r1,q1⟩=>?_) (by rw[hs,hs2]) (by rw[hs2];rfl)));obtain⟨i,j,e,⟨q1,q2,q3,q4⟩,q⟩:=q1;subst e;cases r1 with
 | cons r rr =>
  cases rr with
  | cons r' rr =>
   cases rr;obtain⟨t,rfl⟩:=r;obtain⟨t',rfl⟩:=r';exact call_range_2 (zy I1 q1 q2 q3 q4 q)
def XE (wi:TI)(g:TG)(tb:TS):TS:=λD σ H=>wi σ H λJ H1=>∃ W:Nat->Nat->St->Hp->Prop,(∃ m,W 0 m σ H1)/\∀ i m σ H,W i m σ H ->
 (J.stop i H/\D.nx σ H)\/(J.go i H/\∃ N:St->Hp->Prop,(∀ σ' H',N σ' H'->∃ m',m'<m/\W (i+1) m' σ' H')/\∀ x H',J.yld i H x H'->g x σ H' λσ2 H2=>tb { D with nx:=N,ct:=N,bk:=D.nx } σ2 H2)
def pv (fp:List Gj)(h:Heap):List (Gj×Obj):=fp.filterMap λb=>(h.get? b).map λo=>(b,o)
def nQ{b:Gj}(hb:b∈fp)(e:h.get? b=Ga o):(b,o)∈pv fp h:=vy.mpr ⟨b,hb,by rw[e];rfl⟩
def Du{p:Gj×Obj}(hp:p∈pv fp h):p.1∈fp/\h.get? p.1=Ga p.2:=by
 have⟨b,hb,e⟩:=vy.mp hp;cases q:h.get? b with
 | none=>rw[q] at e;cases e
 | some o =>
  rw[q] at e;have e':(b,o)=p:=jM e;subst e';exact⟨hb,q⟩
def dE.pinned(I:dE X ω σ H s)(hf:∀ b∈fp,pP X ω H b)(ho:∀ b∈fp,∃ o,s.heap.get? b=Ga o/\∀ v,o.data≠.cell v):dE X (ω++pv fp s.heap) σ H s :=
 I.pins_of λp hp=>(kI.mp hp).elim (λz=>I.pin p (jU _ z)) λz=>by
  have⟨hb,e⟩:=Du z;have⟨f0,f1,f2,_⟩:=hf p.1 hb;have⟨o,e',d⟩:=ho p.1 hb;rw[e] at e';cases e';exact⟨e,f0,f1,f2,d⟩
def dE.unpinned {pl:List (Gj×Obj)}(I:dE X (ω++pl) σ H s):dE X ω σ H s:=I.pins_of λp hp=>I.pin p (jU _ (u9 _ hp))
def zo {iter:Expr}{wi:TI}(hp:PassesOwn (model X.prog X.w) X.A X.env X.xe)(hc:X.calm=true)(hi:PI X tg iter wi)(hg:PG X tg g)(hb:lc X body tb)
  (hs:∀ x,foldedSetIterable iter X.env x=pure x:=by intro _;rfl):PS X (.For tg iter body [] pos) (XE wi g tb):=by
 intro ω s σ H D I h;refine wpAny_For (eV (hi ω s σ H _ I h) λv s1 h1=>eV h1 λitv s2 h2=>?_) hs;obtain⟨it,fp,tn,J,H2,e,I2,T,st2,f2,W,⟨m0,w0⟩,turn⟩:=h2;subst e;have stat:∀ {H':Hp},(∀ b∈fp,H' b=Gb)->∀ b∈fp,pP X ω H' b:=λhn b hb=>⟨hn b hb,(f2 b hb).2⟩;refine codeAny_forLoop_any (λn s'=>∃ i σ' H',dE X ω σ' H' s'/\tn i s'.heap/\(∀ b∈fp,H' b=Gb)/\W i n σ' H') ?_ m0 ⟨0,σ,H2,I2,st2,λb hb=>(f2 b hb).1,w0⟩;rintro n s3 ⟨i,σ3,H3,I3,st3,fr3,w3⟩;rcases turn i n σ3 H3 w3 with ⟨stop,qn⟩|⟨go,N,hN,step⟩
 .refine wpAny_passesOwn hp (eV (T.done X rfl rfl rfl hc i ω s3 σ3 H3 X.xe I3 (stat fr3) st3 stop) λr s4 ⟨hr,I4⟩=>?_);subst hr;exact wpAny_execs_nil ⟨σ3,H3,I4,qn⟩
 .refine wpAny_passesOwn hp (eV (T.item X rfl rfl rfl hc i ω s3 σ3 H3 X.xe I3 (stat fr3) st3 go) λr s4 ⟨u,hr,h4⟩=>?_);subst hr;refine wpAny_passesOwn hp (eV h4 λ_ s5 ⟨x,H5,I5,r5,y5,st5,fr5⟩=>?_);have I5':=I5.pinned (stat fr5) (T.obj _ _ st5);refine wpAny_passesOwn hp (eV (hg _ s5 σ3 H5 x u _ I5' r5 (step x H5 y5)) λ_ s6 ⟨σ6,H6,I6,q6⟩=>?_);refine wpAny_passesOwn hp (eV (hb _ s6 σ6 H6 _ I6 q6) λf s7 q7=>?_);have again:∀ {σ7:St} {H7:Hp},dE X (ω++pv fp s5.heap) σ7 H7 s7->N σ7 H7->∃ m,m<n/\∃ i σ' H',dE X ω σ' H' s7/\tn i s7.heap/\(∀ b∈fp,H' b=Gb)/\W i m σ' H':=λ{σ7 H7} I7 n7=>by
   have⟨m',hm,w7⟩:=hN σ7 H7 n7;refine⟨m',hm,i+1,σ7,H7,I7.unpinned,T.keep _ _ _ st5 λb hb o e=>(I7.pin (b,o) (jU _ (jU _ (nQ hb e)))).1,λb hb=>?_,w7⟩;have⟨o,e,d⟩:=T.obj _ _ st5 b hb;exact(I7.pin (b,o) (jU _ (jU _ (nQ hb e)))).2.1
  cases f with
  | next=>obtain⟨σ7,H7,I7,n7⟩:=q7;exact again I7 n7
  | cont=>obtain⟨σ7,H7,I7,n7⟩:=q7;exact again I7 n7
  | brk=>obtain⟨σ7,H7,I7,q7⟩:=q7;exact⟨σ7,H7,I7.unpinned,q7⟩
  | ret v=>obtain⟨x7,σ7,H7,I7,r7,q7⟩:=q7;exact⟨x7,σ7,H7,I7.unpinned,r7,q7⟩
abbrev R2:=V->V->Hp->VK->Prop
def gj (X:Cx)(f:Gg->Gg->Sem Gg)(r:R2):Prop :=
 ∀ ω s σ H x y v u Q,dE X ω σ H s->eL x v->eL y u->r x y H Q ->
  wX X (f v u) (EP X ω σ Q) X.xe s
def Nq (X:Cx)(f:Gg->Sem Gg)(r:V->Hp->VK->Prop):Prop :=
 ∀ ω s σ H x v Q,dE X ω σ H s->eL x v->r x H Q ->
  wX X (f v) (EP X ω σ Q) X.xe s
def gk (X:Cx)(f:Gg)(r:List V->Hp->VK->Prop):Prop :=
 ∀ ω s σ H xs us Q,dE X ω σ H s->eC xs us->r xs H Q ->
  wX X (call f us) (EP X ω σ Q) X.xe s
def Ww (X:Cx)(r:V->Hp->(Bool->Hp->Prop)->Prop):Prop :=
 ∀ ω s σ H x v Q,dE X ω σ H s->eL x v->r x H Q ->
  wX X (truthy v) (TP X ω σ Q) X.xe s
def Dl (r:R2)(ta tb:TE):TE:=λσ H Q=>ta σ H λx H1=>tb σ H1 λy H2=>r x y H2 Q
def YH (r:V->Hp->VK->Prop)(ta:TE):TE:=λσ H Q=>ta σ H λx H1=>r x H1 Q
def rI (C:Int->Int->Prop)(g:Int->Int->V):R2:=λx y H Q=>∃ i j,x=.int i/\y=.int j/\C i j/\Q (g i j) H
def sj (g:Int->Int->V):R2:=λx y H Q=>∃ i j,x=.int i/\y=.int j/\Q (g i j) H
def rU (g:Int->V):V->Hp->VK->Prop:=λx H Q=>∃ i,x=.int i/\Q (g i) H
section
variable {X:Cx}{a b c:Expr}{ta tb tc:TE}{pos:Pos}
variable {f:Gg->Gg->Sem Gg}{g:Int->Int->Int}
def Fp (ha:PE X a ta)(hb:PE X b tb){R:V->V->Hp->Prop}(I:dE X ω σ H s)
  (h:ta σ H λx H1=>tb σ H1 λy H2=>R x y H2)
  (hf:∀ v u s2 x y H2,dE X ω σ H2 s2->eL x v->eL y u->R x y H2->wX X (f v u) Q X.xe s2) :
  wX X (eval a X.env) (λv s₁=>wX X (eval b X.env) (λu s₂=>wX X (f v u) Q X.xe s₂) X.xe s₁) X.xe s:=by
 refine eV (ha ω s σ H _ I h) λv s1 ⟨x,H1,I1,r1,q1⟩=>?_;refine eV (hb ω s1 σ H1 _ I1 q1) λu s2 ⟨y,H2,I2,r2,q2⟩=>?_;exact hf v u s2 x y H2 I2 r1 r2 q2
def Nz {op:Operator}{r:R2}(ho:gj X (binaryOp op) r)(ha:PE X a ta)(hb:PE X b tb):PE X (.BinOp a op b pos) (Dl r ta tb):=by
 intro ω s σ H Q I h;exact wpAny_BinOp (Fp ha hb I h λv u s2 x y H2 I2 rx ry q=>ho ω s2 σ H2 x y v u Q I2 rx ry q)
def NQ {op:UnaryOp}{r:V->Hp->VK->Prop}(ho:Nq X (unaryOp op) r)(ha:PE X a ta):PE X (.UnaryOp op a pos) (YH r ta):=by
 intro ω s σ H Q I h;exact UnaryOp_ (eV (ha ω s σ H _ I h) λv s1 ⟨x,H1,I1,r1,q1⟩=>ho ω s1 σ H1 x v Q I1 r1 q1)
def GY{C:Int->Int->Prop}
  (rule:∀ (i j:Int) (t u:Tok) (s:Gh) (Q:Gg->Gh->Prop) (E:Gg->Gh->Prop),C i j->Q (.int (g i j) s.toks) { s with toks:=s.toks+1 }->wX X (f (.int i t) (.int j u)) Q E s) :
  gj X f (rI C λi j=>.int (g i j)):=by
 intro ω s σ H x y v u Q I rx ry h;obtain⟨i,j,rfl,rfl,hc,q⟩:=h;obtain⟨t,rfl⟩:=rx;obtain⟨t',rfl⟩:=ry;exact rule i j t t' s _ _ hc ⟨.int (g i j),H,I.tok _,⟨_,rfl⟩,q⟩
def Cz
  (rule:∀ (i j:Int) (t u:Tok) (s:Gh) (Q:Gg->Gh->Prop) (E:Gg->Gh->Prop),Q (.int (g i j) s.toks) { s with toks:=s.toks+1 }->wX X (f (.int i t) (.int j u)) Q E s) :
  gj X f (sj λi j=>.int (g i j)):=by
 intro ω s σ H x y v u Q I rx ry h;obtain⟨i,j,rfl,rfl,q⟩:=h;obtain⟨t,rfl⟩:=rx;obtain⟨t',rfl⟩:=ry;exact rule i j t t' s _ _ ⟨.int (g i j),H,I.tok _,⟨_,rfl⟩,q⟩
def BE{g:Int->Int->Bool}
  (rule:∀ (i j:Int) (t u:Tok) (s:Gh) (Q:Gg->Gh->Prop) (E:Gg->Gh->Prop),Q (.bool (g i j)) s->wX X (f (.int i t) (.int j u)) Q E s) :
  gj X f (sj λi j=>.bl (g i j)):=by
 intro ω s σ H x y v u Q I rx ry h;obtain⟨i,j,rfl,rfl,q⟩:=h;obtain⟨t,rfl⟩:=rx;obtain⟨t',rfl⟩:=ry;exact rule i j t t' s _ _ ⟨.bl (g i j),H,I,rfl,q⟩
def Mm (i j:Int):Prop:=0<j/\j<1073741824
def Nb (i j:Int):Prop:=0<=j/\j<=1000000/\i.natAbs<2^64
def BP (i j:Int):Prop:=(-(2^64)<i/\i<2^64)\/(-(2^64)<j/\j<2^64)
def BP.ok {i j:Int}(h:BP i j):IntMulOk i j:=by
 rcases h with ⟨h1,h2⟩|⟨h1,h2⟩
 .exact .of_left (intBits_le_64 h1 h2)
 .exact .of_right (intBits_le_64 h1 h2)
def LF:gj X (binaryOp .Add) (sj λi j=>.int (i+j)):=Cz λ_ _ _ _ _ _ _ q=>add_int q
def Lh:gj X (binaryOp .Sub) (sj λi j=>.int (i-j)):=Cz λ_ _ _ _ _ _ _ q=>sub_int q
def MA:gj X (binaryOp .Mult) (rI BP λi j=>.int (i*j)):=GY λ_ _ _ _ _ _ _ hc q=>mul_int q hc.ok
def Ia:gj X (binaryOp .FloorDiv) (rI Mm λi j=>.int (i/j)):=GY λi j _ _ _ _ _ hc q=>by
 have h1:(0:Int)<j:=hc.1;have h2:j<1073741824:=hc.2;exact floordiv_int (by omega) (by rwa[Int.fdiv_eq_ediv_of_nonneg i (by omega)]) (.inl (PyProof.noPylong_small (by omega)))
def Ig:gj X (binaryOp .Mod) (rI (λ_ j=>0<j) λi j=>.int (i%j)):=GY λi j _ _ _ _ _ hc q=>by
 have h1:(0:Int)<j:=hc;exact mod_int' (by omega) (by rwa[Int.fmod_eq_emod_of_nonneg i (by omega)])
def Kz:gj X (binaryOp .Pow) (rI Nb λi j=>.int (i^j.toNat)):=GY λ_ _ _ _ _ _ _ hc q=>pow_int_small hc.1 hc.2.1 hc.2.2 q
def La:gj X (binaryOp .BitAnd) (sj λi j=>.int (JU i j)):=Cz λ_ _ _ _ _ _ _ q=>and_int q
def NO:gj X (binaryOp .BitOr) (sj λi j=>.int (JY i j)):=Cz λ_ _ _ _ _ _ _ q=>or_int q
def unI {f:Gg->Sem Gg}{g:Int->Int}
  (rule:∀ (i:Int) (t:Tok) (s:Gh) (Q:Gg->Gh->Prop) (E:Gg->Gh->Prop),Q (.int (g i) s.toks) { s with toks:=s.toks+1 }->wX X (f (.int i t)) Q E s) :
  Nq X f (rU λi=>.int (g i)):=by
 intro ω s σ H x v Q I rx h;obtain⟨i,rfl,q⟩:=h;obtain⟨t,rfl⟩:=rx;exact rule i t s _ _ ⟨.int (g i),H,I.tok _,⟨_,rfl⟩,q⟩
def IZ:Nq X (unaryOp .USub) (rU λi=>.int (-i)):=unI λ_ _ _ _ _ q=>neg_int q
end
section
variable {X:Cx}{a b c:Expr}{ta tb tc:TE}{pos:Pos}
def Mp{Q:VK}{k k':Bool}(I:dE X ω σ H s)(q:Q (.bl k) H)(e:k=k'):EP X ω σ Q (.bool k') s:=by
 subst e;exact⟨.bl k,H,I,rfl,q⟩
def pT:gj X (compareOp .Lt) (sj λi j=>.bl (decide (i<j))):=BE λ_ _ _ _ _ _ _ q=>lt_int q
def ii:gj X (compareOp .LtE) (sj λi j=>.bl (decide (i<=j))):=BE λ_ _ _ _ _ _ _ q=>le_int q
def GV:gj X (compareOp .Gt) (sj λi j=>.bl (decide (j<i))):=BE λ_ _ _ _ _ _ _ q=>gt_int q
def NH:gj X (compareOp .GtE) (sj λi j=>.bl (decide (j<=i))):=BE λ_ _ _ _ _ _ _ q=>ge_int q
def DV:gj X (compareOp .In) (λx y H Q=>∃ i j,x=.str i/\y=.str j/\Q (.bl (!(jT j i 0 j.length 1).isEmpty)) H):=by
 intro ω s σ H x y v u Q I rx ry h;obtain⟨i,j,rfl,rfl,q⟩:=h;obtain⟨t,rfl⟩:=rx;obtain⟨t',rfl⟩:=ry;exact in_str (Mp I q rfl)
def zD (b:Expr)(h:op≠.In:=by decide)(h2:op≠.NotIn:=by decide):behindInMarks op b=false:=by
 have e1:(op==CmpOp.In)=false:=by cases op<;>first|rfl|exact absurd rfl h
 have e2:(op==CmpOp.NotIn)=false:=by cases op<;>first|rfl|exact absurd rfl h2
 cases b<;>simp[behindInMarks,e1,e2]
variable {r r':R2}{op':CmpOp}{x:V}
def Bs(ho:gj X (compareOp op) r)(ha:PE X a ta)(hb:PE X b tb)(hm:behindInMarks op b=false):PE X (.Compare a [op] [b] pos) (Dl r ta tb):=by
 intro ω s σ H Q I h;exact wpAny_Compare1 (Fp ha hb I h λv u s2 x y H2 I2 rx ry q=>ho ω s2 σ H2 x y v u Q I2 rx ry q) hm
def GN (t:TE):TT:=λσ H Q=>t σ H λx H'=>∃ k,x=.bl k/\Q k H'
def AY(ho:gj X (compareOp op) r)(ha:PE X a ta)(hb:PE X b tb)(hm:behindInMarks op b=false):PT X (.Compare a [op] [b] pos) (GN (Dl r ta tb)):=by
 intro ω s σ H Q I h;refine wpAny_isTrue_Compare1 (eV (ha ω s σ H _ I h) λv s1 ⟨x,H1,I1,r1,q1⟩=>eV (hb ω s1 σ H1 _ I1 q1) λu s2 ⟨y,H2,I2,r2,q2⟩ =>
  eV (ho ω s2 σ H2 x y v u _ I2 r1 r2 q2) λc s3 ⟨z,H3,I3,r3,k,e,q3⟩=>?_) hm
 subst e;cases r3;exact wpAny_truthy_bool ⟨H3,I3,q3⟩
def zg (r r':R2)(ta tb tc:TE):TE:=λσ H Q=>ta σ H λx H1=>tb σ H1 λy H2=>r x y H2 λz H3=>∃ k,z=.bl k /\
 (if k=true then tc σ H3 λw' H4=>r' y w' H4 Q else Q (.bl false) H3)
def Fj(ho:gj X (compareOp op) r)(ho':gj X (compareOp op') r')(ha:PE X a ta)(hb:PE X b tb)(hc:PE X c tc)
  (hm:lastMarks [op,op'] [b,c]=false:=by with_unfolding_all rfl):PE X (.Compare a [op,op'] [b,c] pos) (zg r r' ta tb tc):=by
 intro ω s σ H Q I h;refine Compare_chain (eV (ha ω s σ H _ I h) λv s1 ⟨x,H1,I1,r1,q1⟩=>chain_link (eV (hb ω s1 σ H1 _ I1 q1) λu s2 ⟨y,H2,I2,r2,q2⟩ =>
  eV (ho ω s2 σ H2 x y v u _ I2 r1 r2 q2) λd s3 ⟨z,H3,I3,r3,k,e,q3⟩=>?_)) hm
 subst e;cases r3;refine wpAny_truthy_bool ?_;cases k with
 | false=>exact ite_ff ⟨.bl false,H3,I3,rfl,q3⟩
 | true=>exact ite_tt (chain_last (eV (hc ω s3 σ H3 _ I3 q3) λw' s4 ⟨z',H4,I4,r4,q4⟩=>ho' ω s4 σ H4 y z' u w' Q I4 r2 r4 q4))
def Fk(ho:gj X (compareOp op) r)(ho':gj X (compareOp op') r')(ha:PE X a ta)(hb:PE X b tb)(hc:PE X c tc)
  (hm:lastMarks [op,op'] [b,c]=false:=by with_unfolding_all rfl):PT X (.Compare a [op,op'] [b,c] pos) (GN (zg r r' ta tb tc)):=by
 intro ω s σ H Q I h;refine isTrue_chain (eV (ha ω s σ H _ I h) λv s1 ⟨x,H1,I1,r1,q1⟩=>test_link (eV (hb ω s1 σ H1 _ I1 q1) λu s2 ⟨y,H2,I2,r2,q2⟩ =>
  eV (ho ω s2 σ H2 x y v u _ I2 r1 r2 q2) λd s3 ⟨z,H3,I3,r3,k,e,q3⟩=>?_)) hm
 subst e;cases r3;refine wpAny_truthy_bool ?_;cases k with
 | false =>
  obtain⟨k',e',q'⟩:=q3;cases e';exact ite_ff ⟨H3,I3,q'⟩
 | true =>
  refine ite_tt (test_last (eV (hc ω s3 σ H3 _ I3 q3) λw' s4 ⟨z',H4,I4,r4,q4⟩=>eV (ho' ω s4 σ H4 y z' u w' _ I4 r2 r4 q4) λd' s5 ⟨z2,H5,I5,r5,k2,e2,q5⟩=>?_));subst e2;cases r5;exact wpAny_truthy_bool ⟨H5,I5,q5⟩
def EC (K:ja)(x:V)(H:Hp)(k:Bool):Prop :=
 match x with
 | .non=>k=false
 | .bl b=>k=b
 | .int i=>k=(i !=0)
 | .str y=>y.length<=sizeLine/\k=((y.length:Int) !=0)
 | .ref p=>(∃ xs,fQ K H p xs/\k=!xs.isEmpty)\/(∃ xs,hU K H p xs/\k=!xs.isEmpty)\/∃ kvs,H p=Ga (.dK kvs)/\k=!kvs.isEmpty
 | _=>False
def BH {κ:Type}{kvs:List (κ×V)}{vs:List (κ×Gg)}(r:KV kvs vs):(!vs.isEmpty)=!kvs.isEmpty:=by
 cases r<;>rfl
def xj{its:List Gg}(r:eC xs its):(!its.toArray.isEmpty)=!xs.isEmpty:=by
 cases r<;>simp
def pM:(sizeLine:Nat)<2^63:=by rw[sizeLine_eq];decide
def KT:Ww X (λx H Q=>∃ k,EC X.K x H k/\Q k H):=by
 intro ω s σ H x v Q I rx h;obtain⟨k,e,q⟩:=h;have hl:=pM;have hs:sizeLine=16777216:=sizeLine_eq;cases x with
 | non =>
  cases rx;have e':k=false:=e;subst e';exact truthy_none ⟨H,I,q⟩
 | bl b =>
  cases rx;have e':k=b:=e;subst e';exact wpAny_truthy_bool ⟨H,I,q⟩
 | int i =>
  obtain⟨t,rfl⟩:=rx;have e':k=(i !=0):=e;subst e';exact PySem.P.truthy_int ⟨H,I,q⟩
 | str y =>
  obtain⟨t,rfl⟩:=rx;obtain⟨hy,e'⟩:y.length<=sizeLine/\k=((y.length:Int) !=0):=e;subst e';exact PySem.P.truthy_str (by omega) ⟨H,I.tok _,q⟩
 | ref p =>
  cases rx;have e':(∃ xs,fQ X.K H p xs/\k=!xs.isEmpty)\/(∃ xs,hU X.K H p xs/\k=!xs.isEmpty)\/∃ kvs,H p=Ga (.dK kvs)/\k=!kvs.isEmpty:=e;rcases e' with ⟨xs,hx,e'⟩|⟨xs,hx,e'⟩|⟨kvs,hx,e'⟩
  .subst e';have⟨its,r,pl,hz⟩:=I.list hx;have hlen:=r.length;exact wpAny_truthy_list pl.isList (by simp only[ji];omega) ⟨H,I.tok _,by rwa[xj r]⟩
  .subst e';have⟨its,r,pl,hz⟩:=I.tuple hx;have hlen:=r.length;exact truthy_tuple pl (by simp only[ji];omega) ⟨H,I.tok _,by rwa[xj r]⟩
  .subst e';obtain⟨hz,hS,vs,r,m⟩:kvs.length<=sizeLine/\(p==sysModules)=false/\∃ vs,KV kvs vs/\s.heap.DictOf (gZ X.prog X.w) p vs:=I.hok p _ hx;have hlen:kvs.length=vs.length:=Paired.length r;exact wpAny_truthy_dict hS m (by omega) ⟨H,I.tok _,by rwa[BH r]⟩
 | _=>exact(show False from e).elim
def yY (ha:PE X a ta)(he:∀ whole,isTrue a X.env whole=(do let v <- whole;standAt a.pos;holding [v] (truthy v))) :
  PT X a (λσ H Q=>ta σ H λx H'=>∃ k,EC X.K x H' k/\Q k H'):=by
 intro ω s σ H Q I h;exact isTrue_plain (eV (ha ω s σ H _ I h) λv s1 ⟨x,H1,I1,r1,q1⟩=>KT ω s1 σ H1 x v Q I1 r1 q1) (he _)
def Cd:gj X (binaryOp .Add) (λx y H Q=>∃ i j,x=.str i/\y=.str j/\i.length+j.length<=sizeLine/\Q (.str (i++j)) H):=by
 intro ω s σ H x y v u Q I rx ry h;obtain⟨i,j,rfl,rfl,hz,q⟩:=h;obtain⟨t,rfl⟩:=rx;obtain⟨t',rfl⟩:=ry;exact add_str (λt' tk=>⟨.str (i++j),H,I.tok _,⟨_,rfl⟩,q⟩) hz
def iP(r:eC [x] us):∃ u,us=[u]/\eL x u:=by
 cases r with
 | cons r1 r2=>cases r2;exact⟨_,rfl,r1⟩
def yJ(r:eC [x,y] us):∃ u w',us=[u,w']/\eL x u/\eL y w':=by
 cases r with
 | cons r1 r2 =>
  cases r2 with
  | cons r3 r4=>cases r4;exact⟨_,_,rfl,r1,r3⟩
def Dv (hc:X.calm=true):gk X (.builtin "min") (λxs H Q=>∃ i j,xs=[.int i,.int j]/\Q (.int (if j<i then j else i)) H):=by
 intro ω s σ H xs us Q I r h;obtain⟨i,j,rfl,q⟩:=h;obtain⟨u,w',rfl,⟨t,rfl⟩,⟨t',rfl⟩⟩:=yJ r;refine min_two_ints (I.ok.hd hc) λh' tk k=>⟨_,H,I.kept k,?_,q⟩;by_cases hj:j<i
 .rw[Ge hj,Ge hj];exact⟨_,rfl⟩
 .rw[Gf hj,Gf hj];exact⟨_,rfl⟩
def Dr:gk X (.type "int") (λxs H Q=>(∃ i,xs=[.int i]/\Q (.int i) H)\/∃ k,xs=[.bl k]/\Q (.int (if k then 1 else 0)) H):=by
 intro ω s σ H xs us Q I r h;rcases h with ⟨i,rfl,q⟩|⟨k,rfl,q⟩
 .obtain⟨u,rfl,t,rfl⟩:=iP r;exact call_int_int ⟨.int i,H,I,⟨_,rfl⟩,q⟩
 .obtain⟨u,rfl,r1⟩:=iP r;cases r1;exact call_int_bool ⟨.int (if k then 1 else 0),H,I.tok _,⟨_,rfl⟩,q⟩
def sv:gk X (.type "str") (λxs H Q=>∃ i,xs=[.int i]/\i.natAbs.log2<1920/\Q (.str (toString i)) H):=by
 intro ω s σ H xs us Q I r h;obtain⟨i,rfl,hz,q⟩:=h;obtain⟨u,rfl,t,rfl⟩:=iP r;exact PySem.P.str_of_int hz ⟨.str _,H,I.tok _,⟨_,rfl⟩,q⟩
end
structure wt (h:Heap)(x dx C:Gj)(mA:Str->Option Gg):Prop where
 obj:h.get? x=Ga (ut C dx)
 ns:h.Ns1 dx mA
 ne:dx≠x
def Dz(n:h.Ns1 dx mA):∃ od,h.get? dx=Ga od/\∀ name,qi name od=Ga (mA name):=by
 obtain⟨o,es,ep,ho,hd,hk,_,hm⟩:=n;refine⟨o,ho,λname=>?_⟩;have e:=hm name;unfold nsFind findBy at e;rw[<- Array.find?_toList] at e;unfold qi;rw[hd];dsimp only;split
 .rename_i y q;rw[q] at e;exact congrArg Ga e
 .rename_i q;rw[q] at e;have a:es.toList.any (·.refKey)=false:=by
   rw[List.any_eq_false];intro y hy;have⟨z,t,hkey⟩:=hk y (va.mp hy);simp[DictEntry.refKey,hkey]
  have a':¬es.toList.any (·.refKey)=true:=by rw[a];exact jV
  rw[Gf a'];exact congrArg Ga e
variable {x:Gj}{o:Option Gg}
def wt.look(I:wt h x dx C mA):∃ od,JV h x (ut C dx) C (Ga od)/\∀ name,qi name od=Ga (mA name) :=
 let ⟨od,ho,hl⟩:=Dz I.ns
 ⟨od,⟨I.obj,rfl,rfl,ho⟩,hl⟩
def HL {expr:Bool}(X:K.In s.heap)(I:wt s.heap x dx C mA)(hg:vP K C name=true)(hh:qp K C=true)
  (ha:uf K (.ref C) name=Ga Gb) (hv:mA name=Ga v) (hv':JC v=true) (h:Q v { s with toks:=s.toks+1 }) :
  wpAny (model prog w) A (getAttr (.ref x) name expr) Q E s:=by
 have⟨od,J,hl⟩:=I.look;exact PySem.W.get_value X J (qa hg).1 (PySem.W.findObj_own hh ha rfl (by rw[hl,hv])) hv' h
def EJ {pl:Sem Bool}{Q:Gg×List Gg->Gh->Prop}(X:K.In s.heap)(I:wt s.heap x dx C mA)(hg:vP K C name=true)
  (hf:uf K (.ref C) name=Ga (Ga (.ref f))) (ht:qH K (.ref f)=true) (hv:mA name=Gb) (h:Q (.ref f,[.ref x]) s) :
  wpAny (model prog w) A (getMethod (.ref x) name pl) Q E s:=by
 have⟨od,J,hl⟩:=I.look;exact PySem.W.method_fn X J (qa hg).1 (qa hg).2 hf (beq_iff_eq.mp ht) (by show(qi name od).map (·.isSome)=Ga false;rw[hl,hv];rfl) h
def HN {ns:List Str}{Q:Unit->Gh->Prop}(X:K.In s.heap)(I:wt s.heap x dx C mA)
  (hs:uf K (.ref C) "__setattr__"=Ga (Ga (.builtin "object.__setattr__"))) (hp:Jr K C=true) (ht:qQ K C name=Ga Gb) (hh:qp K C=true)
  (hw:Jq mA ns) (hsz:ns.length<=sizeLine)
  (h:∀ h',wt h' x dx C (λy=>if y=name then Ga v else mA y)->kZ dx s.heap h'->Q () { s with heap:=h',toks:=s.toks+2 }) :
  wpAny (model prog w) A (setAttr (.ref x) name v) Q E s:=by
 have⟨od,J,hl⟩:=I.look;refine PySem.W.set_plain X J hs (PySem.W.osa_open (s:={ s with toks:=s.toks+1 }) (r:=Gb) X J hp ht λb=>?_);have⟨cd,hc,hd'⟩:=PySem.W.any_some hh;have hx:s.heap.get? x=Ga ⟨.ref C,Ga dx,.plain,#[]⟩:=I.obj;refine dv (dw (dv (dv (wpAny_loadPart hx (dv (PySem.W.Looks.here (s:={ s with toks:=s.toks+1 }) (PySem.W.looks_clsIn X hc) ?_))))));rw[hd'];refine dw (a:=Ga dx) (dv (dw (dv ?_)));refine wpAny_nsSet1 (s:={ s with toks:=s.toks+1 }) I.ns λh' hn2 hs2=>?_;have⟨oD,esD,epD,hoD,hdD,hcD⟩:=hn2.count (PySem.Within.cons name v hw);refine dv (wpAny_lookBehind hoD (by rw[hdD];exact pastItsLine_dict (jX hcD (by rw[jr];omega))) ?_);exact dw (h _ ⟨(hs2.2 _ (kW I.ne)).trans I.obj,hn2,I.ne⟩ hs2)
def Fm {R:Result->Gh->Prop}{vs:List Gg}(X:K.In s.heap)(hm:JN K C=true)
  (hi:uf K (.ref C) "__init__"=Ga (Ga (.ref f))) (hf:PySem.W.typeIn K (.ref f)=Ga (.type "function"))
  (h:codeAny (model prog w) (A.under (.builtin "type.__call__" ⟨.ref C::vs,kw⟩)) (.call (.ref f) ⟨.ref (s.heap.objs.size+1)::vs,kw⟩) (PySem.W.InitBack (s.heap.objs.size+1) R)
   { s with heap:=(s.heap.push ua).push (ut C s.heap.objs.size) }) :
  codeAny (model prog w) A (.call (.ref C) ⟨vs,kw⟩) R s:=by
 obtain⟨hh,g,d,t,os⟩:=s;exact PySem.W.make_core (PySem.W.makes_of X hm) (PySem.W.looks_findIn X hi) (λself=>PySem.W.bind_fn X self hf) (.inl rfl) h
def lF (f:Str)(v:V):List (Str×V)->List (Str×V)
 | []=>[(f,v)]
 | (g,x)::r=>if g=f then(g,v)::r else(g,x)::lF f v r
def tW (f g:Str)(v:V):∀ fs:List (Str×V),(lF f v fs).lookup g=if g=f then Ga v else fs.lookup g
 | []=>by
  show uK g [(f,v)]=_;by_cases h:g=f
  .have hb:(g==f)=true:=beq_iff_eq.mpr h;simp only[uK,hb,Ge h]
  .have hb:(g==f)=false:=beq_eq_false_iff_ne.mpr h;simp only[uK,hb,Gf h]
 | (k,x)::r=>by
  have ih:=tW f g v r;rw[show lF f v ((k,x)::r)=(if k=f then(k,v)::r else(k,x)::lF f v r) from rfl];by_cases hk:k=f
  .rw[Ge hk];by_cases h:g=k
   .have hb:(g==k)=true:=beq_iff_eq.mpr h;simp only[uK,hb,Ge (h.trans hk)]
   .have hb:(g==k)=false:=beq_eq_false_iff_ne.mpr h;simp only[uK,hb,Gf (λe:g=f=>h (e.trans hk.symm))]
  .rw[Gf hk];by_cases h:g=k
   .have hb:(g==k)=true:=beq_iff_eq.mpr h;simp only[uK,hb,Gf (λe:g=f=>hk (h.symm.trans e))]
   .have hb:(g==k)=false:=beq_eq_false_iff_ne.mpr h;simp only[uK,hb];exact ih
def sP (f:Str)(v:V):∀ fs:List (Str×V),f∈(lF f v fs).map (·.1)/\∀ g,g∈fs.map (·.1)->g∈(lF f v fs).map (·.1)
 | []=>⟨by simp[lF],λg h=>by simp at h⟩
 | (k,x)::r=>by
  have⟨i1,i2⟩:=sP f v r;rw[show lF f v ((k,x)::r)=(if k=f then(k,v)::r else(k,x)::lF f v r) from rfl];by_cases hk:k=f
  .rw[Ge hk];subst hk;exact⟨by simp,λg h=>by simpa using h⟩
  .rw[Gf hk];refine⟨?_,λg h=>?_⟩
   .rw[kh];exact jd _ i1
   .rw[kh] at h ⊢;rcases jz.mp h with e|e
    .exact jz.mpr (.inl e)
    .exact jd _ (i2 g e)
def tS (f:Str)(v:V):∀ fs:List (Str×V),(lF f v fs).length<=fs.length+1
 | []=>by simp[lF]
 | (k,x)::r=>by
  have ih:=tS f v r;rw[show lF f v ((k,x)::r)=(if k=f then(k,v)::r else(k,x)::lF f v r) from rfl];by_cases hk:k=f
  .rw[Ge hk,jr,jr];omega
  .rw[Gf hk,jr,jr];omega
variable {v:V}{f:Str}
def mw.some_of(r:mw (Ga v) o):∃ u,o=Ga u/\eL v u:=by
 cases o with
 | none=>exact(show False from r).elim
 | some u=>exact⟨u,rfl,r⟩
def mw.none_of(r:mw Gb o):o=Gb:=by
 cases o with
 | none=>rfl
 | some u=>exact(show False from r).elim
def Dc(r:eL v u):JC u=true:=by
 cases v with
 | non=>cases(show u=jC from r);rfl
 | bl b=>cases(show u=ur b from r);rfl
 | int i=>have⟨t,e⟩:=(show ∃ t,u=uO i t from r);cases e;rfl
 | str x=>have⟨t,e⟩:=(show ∃ t,u=qf x t from r);cases e;rfl
 | ref a=>cases(show u=jH a from r);rfl
 | ty n=>cases(show u=k8 n from r);rfl
def xy (hok:HOk P w H h)(e:H a=Ga (.ins C dx fs)):∃ mA,wt h a dx C mA/\(∀ f,mw (fs.lookup f) (mA f))/\Jq mA (fs.map (·.1))/\fs.length<=1000/\H dx=Ga (.own a):=by
 have⟨d,z,ne,ob,mA,n,r,q⟩:=(show gH P w H h a (.ins C dx fs) from hok a _ e);exact⟨mA,⟨ob,n,ne⟩,r,q,z,d⟩
structure rW (K:ja)(C:Gj):Prop where
 pg:vP K C qg=true
 hd:qp K C=true
 po:Jr K C=true
 sa:uf K (.ref C) "__setattr__"=Ga (Ga (.builtin "object.__setattr__"))
def rW.get(c:rW K C)(f:Str):vP K C f=true:=c.pg
def nV (K:ja)(C:Gj)(f:Str):Prop:=uf K (.ref C) f=Ga Gb
def nV.taker(n:nV K C f):qQ K C f=Ga Gb:=by
 unfold qQ;rw[show uf K (.ref C) f=Ga Gb from n];rfl
structure zP (K:ja)(C:Gj)(m:Str)(f:Gj):Prop where
 at_:uf K (.ref C) m=Ga (Ga (.ref f))
 fn:qH K (.ref f)=true
 kp:jR K (.ref f)=true
def Co {b:Bool}(I:dE X ω σ H s)(e:H a=Ga (.ins C dx fs))(c:rW X.K C)(n:nV X.K C f)(l:fs.lookup f=Ga v)
  (h:∀ u s',dE X ω σ H s'->eL v u->Q u s'):wpAny (model X.prog X.w) A (getAttr (.ref a) f b) Q E s:=by
 have⟨mA,O,r,_,_,_⟩:=xy I.hok e;obtain⟨u,hu,ru⟩:=mw.some_of (v:=v) (o:=mA f) (by rw[<- l];exact r f);exact HL I.kIn O (c.get f) c.hd n hu (Dc ru) (h u _ (I.tok _) ru)
def wu {m:Str}{g:Gj}{pl:Sem Bool}{Q:Gg×List Gg->Gh->Prop}(I:dE X ω σ H s)(e:H a=Ga (.ins C dx fs))(c:rW X.K C)(k:zP X.K C m g)(l:fs.lookup m=Gb)
  (h:Q (.ref g,[.ref a]) s):wpAny (model X.prog X.w) A (getMethod (.ref a) m pl) Q E s:=by
 have⟨mA,O,r,_,_,_⟩:=xy I.hok e;have hn:mA m=Gb:=mw.none_of (by rw[<- l];exact r m);exact EJ I.kIn O (c.get m) k.at_ k.fn hn h
def Ck{Q:Unit->Gh->Prop}(I:dE X ω σ H s)(e:H a=Ga (.ins C dx fs))(c:rW X.K C)(n:nV X.K C f)(hl:fs.length<1000)(ry:eL y u)
  (h:∀ s',dE X ω σ (upd H a (.ins C dx (lF f y fs))) s'->Q () s'):wpAny (model X.prog X.w) A (setAttr (.ref a) f u) Q E s:=by
 have⟨mA,O,r,wi,_,ho⟩:=xy I.hok e;have hz:(fs.map (·.1)).length<=sizeLine:=by rw[jk,sizeLine_eq];omega
 refine HN I.kIn O c.sa c.po n.taker c.hd wi hz λh' O' sb=>h _ ?_;have hd:∃ o,h'.get? dx=Ga o:=let ⟨o,_,_,e',_⟩:=O'.ns;⟨o,e'⟩
 refine I.write (x:=a) (e:=dx) (by rw[e];exact True.intro) (.inr ho) (λb q hb z=>(sb.2 b hb).trans z) hd ?_;refine⟨by rwa[dG O.ne],?_,O.ne,O'.obj,_,O'.ns,λg=>?_,λg hg=>?_⟩
 .have:=tS f y fs;omega
 .show mw ((lF f y fs).lookup g) (if g=f then Ga u else mA g);rw[tW];by_cases q:g=f
  .rwa[Ge q,Ge q]
  .rw[Gf q,Gf q];exact r g
 .by_cases q:g=f
  .rw[q];exact(sP f y fs).1
  .refine(sP f y fs).2 g (wi g λz=>hg ?_);show(if g=f then Ga u else mA g)=Gb;rwa[Gf q]
def dE.made (I:dE X ω σ H s):dE X ω σ (upd (upd H s.heap.objs.size (.own (s.heap.objs.size+1))) (s.heap.objs.size+1) (.ins C s.heap.objs.size []))
  { s with heap:=(s.heap.push ua).push (ut C s.heap.objs.size) }:=by
 have e1:(s.heap.push ua).get? s.heap.objs.size=Ga ua:=jm s.heap rfl;have e2:((s.heap.push ua).push (ut C s.heap.objs.size)).get? (s.heap.objs.size+1)=Ga (ut C s.heap.objs.size):=by
  have:=jm (s.heap.push ua) (o:=ut C s.heap.objs.size) rfl
  rwa [vb] at this
 have e3:(s.heap.push ua).Ns s.heap.objs.size (λ_=>Gb):=⟨ua,#[],_,e1,rfl,(λe he=>absurd he (by simp)),λ_=>rfl⟩;have I1:=I.laid (a:=s.heap.objs.size) (o:=.own (s.heap.objs.size+1)) (h':=s.heap.push ua) (t':=s.toks) (λb u q=>jb _ q) (jw _) ⟨_,e1⟩;refine I1.laid (a:=s.heap.objs.size+1) (o:=.ins C s.heap.objs.size []) (t':=s.toks) (λb u q=>jb _ q) (Nat.le_of_eq (vb _ _)) ?_;have ne:s.heap.objs.size≠s.heap.objs.size+1:=jB (uP _);refine⟨by rw[dG ne,dH],ku _,ne,e2,λ_=>Gb,(Heap.Ns1.of_empty e3).at λo q=>jb _ q,λ_=>True.intro,λy hy=>absurd rfl hy⟩
def HV{ψ:Env}(hb:attributeBase e f ψ (eval e ψ)=eval e ψ)
  (h:wpAny (model prog w) A (eval e ψ) (λo s₁=>wpAny (model prog w) A (getAttr o f true) Q E s₁) E s):wpAny (model prog w) A (eval (.Attribute e f pos) ψ) Q E s :=
 Attribute_any_ h (by rw[arm_eval_Attribute,hb])
def Xz (K:ja)(ta:TE)(f:Str):TE:=λσ H Q=>ta σ H λx H1=>∃ a C dx fs v,x=.ref a/\H1 a=Ga (.ins C dx fs)/\rW K C/\nV K C f/\fs.lookup f=Ga v/\Q v H1
def Xy (K:ja)(ta tv:TE)(f:Str):TS:=λD σ H=>tv σ H λy H1=>ta σ H1 λx H2=>∃ a C dx fs,x=.ref a/\H2 a=Ga (.ins C dx fs)/\rW K C/\nV K C f/\fs.length<1000 /\
 D.nx σ (upd H2 a (.ins C dx (lF f y fs)))
def zu (he:PE X e ta)(hb:attributeBase e f X.env (eval e X.env)=eval e X.env):PE X (.Attribute e f pos) (Xz X.K ta f):=by
 intro ω s σ H Q I h;refine HV hb (eV (he ω s σ H _ I h) λu s1 ⟨x,H1,I1,rx,a,C,dx,fs,v,ex,ea,c,n,l,q⟩=>?_);subst ex;obtain rfl:u=jH a:=rx;exact Co I1 ea c n l λu' s2 I2 ru=>⟨v,H1,I2,ru,q⟩
variable {o:Expr}
def LG (ha:PE X o ta)(hv:PE X value tv)(hs:swapsWith value (Ga (.Attribute o f pos')) pos.line X.env=pure false):PS X (.Assign [.Attribute o f pos'] value pos) (Xy X.K ta tv f):=by
 intro ω s σ H D I h;refine plainObj_wpAny_Assign_Attribute (eV (hv ω s σ H _ I h) λu s1 ⟨y,H1,I1,ry,q⟩=>eV (ha ω s1 σ H1 _ I1 q) λov s2 ⟨x,H2,I2,rx,a,C,dx,fs,ex,ea,c,n,l,q2⟩=>?_) hs;subst ex;obtain rfl:ov=jH a:=rx;exact Ck I2 ea c n l ry λs3 I3=>⟨σ,_,I3,q2⟩
structure eP (k:Nat)(A:Around):Prop where
 hd:A.handled=Gb
 dp:A.depth+3*k+5<recursionLimit
 un:A.units+16*k+200<cLine
def eP.mono(r:eP k A)(h:j<=k):eP j A:=⟨r.hd,by have:=r.dp;omega,by have:=r.un;omega⟩
def eP.mo(r:eP k A)(h:j<=k:=by decide):eP j A:=r.mono h
def eP.deeper {k:Nat}{A:Around}(r:eP (k+1) A)(ψ:Env):eP k (A.deeper ψ) :=
 ⟨r.hd,by have:=r.dp;show A.depth+1+3*k+5<_;omega,by have:=r.un;show A.units+3+16*k+200<_;omega⟩
def eP.in1 {k:Nat}{A:Around}(r:eP (k+1) A):eP k A.in1 :=
 ⟨r.hd,by have:=r.dp;show A.depth+3*k+5<_;omega,by have:=r.un;show A.units+1+16*k+200<_;omega⟩
def Cg:(A.under (.builtin "type.__call__" ⟨.ref C::us,kw⟩)).depth=A.depth+1:=by
 first|rfl|simp[Js,Code.weight,Code.isCreation,Code.isGuard,Code.isCaller,Code.frames,Code.isFrame,guardIds]
def Cj:(A.under (.builtin "type.__call__" ⟨.ref C::us,kw⟩)).units=A.units+1:=by
 first|rfl|simp[Js,Code.cUnits,Code.frames,Code.isFrame]
def eP.make(r:eP (k+1) A)(C:Gj)(us:List Gg)(kw:List (Str×Gg)):eP k (A.under (.builtin "type.__call__" ⟨.ref C::us,kw⟩)) :=
 ⟨r.hd,by have:=r.dp;rw[Cg];omega,by have:=r.un;rw[Cj];omega⟩
def eP.depth {k:Nat}{A:Around}(r:eP k A):A.depth<recursionLimit:=by have:=r.dp;omega
def Fd:TA:=λ_ H Q=>Q [] H
def Gz (ta:TE)(tr:TA):TA:=λσ H Q=>ta σ H λx H1=>tr σ H1 λxs H2=>Q (x::xs) H2
def fY:PA X [] Fd:=λ_ _ _ _ H Q I h=>Jt ⟨[],H,I,.nil,h⟩
def eY (ha:PE X e te)(hr:PA X es t)(hs:Sa X e es:=by rfl):PA X (e::es) (Gz te t):=by
 intro pos ω s σ H Q I h;rw[hs];show wpAny _ _ (spliced ((false,eval e X.env)::backTo pos (starEach es X.env))) _ _ s;refine Ji (eV (ha ω s σ H _ I h) λu s1 ⟨x,H1,I1,r1,q1⟩=>?_);exact eV (hr pos ω s1 σ H1 _ I1 q1) λus s2 ⟨xs,H2,I2,r2,q2⟩=>⟨x::xs,H2,I2,.cons r1 r2,q2⟩
def Xv (t:TA):TE:=λσ H Q=>t σ H λxs H1=>xs.length<=sizeLine/\∀ p,H1 p=Gb->Q (.ref p) (upd H1 p (.tup xs))
def XI (t:TA):TE:=λσ H Q=>t σ H λxs H1=>xs.length<=sizeLine/\∀ p,H1 p=Gb->Q (.ref p) (upd H1 p (.lst xs))
def Eu {x1}(h:PA X es t):PE X (.Tuple es x1 pos) (Xv t):=by
 intro ω s σ H Q I hq;refine wpAny_Tuple_spliced (eV (h pos ω s σ H _ I hq) λus s1 ⟨xs,H1,I1,r,z,q⟩=>⟨by rwa[<- r.length],?_⟩);have hf:H1 s1.heap.objs.size=Gb:=I1.hok.fresh (jw _);refine⟨.ref s1.heap.objs.size,upd H1 s1.heap.objs.size (.tup xs),I1.laid (t':=s1.toks) (λb u e=>jb _ e) (jw _) ?_,rfl,q _ hf⟩;exact⟨z,us,r,⟨_,jm _ rfl,rfl,_,rfl⟩⟩
def My (h:PA X es t):PE X (.List es pos) (XI t):=by
 intro ω s σ H Q I hq;refine wpAny_List_spliced (eV (h pos ω s σ H _ I hq) λus s1 ⟨xs,H1,I1,r,z,q⟩=>⟨by rwa[<- r.length],?_⟩);have hf:H1 s1.heap.objs.size=Gb:=I1.hok.fresh (jw _);refine⟨.ref s1.heap.objs.size,upd H1 s1.heap.objs.size (.lst xs),I1.laid (t':=s1.toks) (λb u e=>jb _ e) (jw _) ?_,rfl,q _ hf⟩;exact⟨z,us,0,r,jm _ rfl⟩
abbrev Sp:=List V->Hp->VK->XK->Prop
abbrev mz:=List Env->Hp->Gh->XK->Gg->Gh->Prop
structure mm (P:Program)(w:World)(K:ja)(mg:Str->Option Gg)(base:Heap)(A:Around)(outer:List Env)(s:Gh)(H:Hp):Prop where
 frames:A.frames=Ga outer
 mod:Mod K mg base
 bs:∀ b o,base.get? b=Ga o->s.heap.get? b=Ga o/\H b=Gb
 bsz:base.objs.size<=s.heap.objs.size
 funs:s.heap.FunFrames base outer
 frf:∀ b∈gE outer,H b=Gb
 hok:HOk P w H s.heap
 bare:AllBare s.gens
def CE (outer:List Env)(P:Program)(w:World)(H:Hp)(s:Gh)(Q:VK)(u:Gg)(s':Gh):Prop :=
 ∃ v H',s'.os=s.os/\AllBare s'.gens/\Un (gE outer) [] H H' s.heap s'.heap/\HOk P w H' s'.heap/\eL v u/\Q v H'
def CR (CX:mz)(outer:List Env)(P:Program)(w:World)(H:Hp)(s:Gh)(Q:VK)(E:XK)(r:Result)(s':Gh):Prop :=
 match r with
 | .ok (.ret u)=>CE outer P w H s Q u s'
 | .ok _=>False
 | .error e=>CX outer H s E e s'
structure dJ (P:Program)(w:World)(K:ja)(mg:Str->Option Gg)(base:Heap)(CX:mz)(k:Nat)(f:Gj)(fd:Gi)(ps:List Str)(sp:Sp):Prop where
 len:∀ vs H Q E,sp vs H Q E->vs.length=ps.length
 run:∀ (A:Around) (outer:List Env) (s:Gh) (H:Hp) (args:Args) (us:List Gg) (vs:List V) (Q:VK) (E:XK),eP k A->mm P w K mg base A outer s H->BindsTo s fd args (ps.zip us)->eC vs us->sp vs H Q E ->
  codeAny (model P w) A (.call (.ref f) args) (CR CX outer P w H s Q E) s
abbrev Fq (X:Cx)(CX:mz)(k:Nat)(f:Gj)(fd:Gi)(ps:List Str)(sp:Sp):Prop:=dJ X.prog X.w X.K X.mg X.base CX k f fd ps sp
variable {f:Gj}{sp:Sp}{CX:mz}
def dJ.imp{sp':Sp}(F:dJ P w K mg base CX k f fd ps sp)
  (h:∀ vs H Q E,sp' vs H Q E->sp vs H Q E):dJ P w K mg base CX k f fd ps sp' :=
 ⟨λvs H Q E q=>F.len vs H Q E (h _ _ _ _ q),λA outer s H args us vs Q E hr he hb hv hs=>F.run A outer s H args us vs Q E hr he hb hv (h _ _ _ _ hs)⟩
def mm.make(e:mm P w K mg base A outer s H)(C:Gj)(us:List Gg)(kw:List (Str×Gg)) :
  mm P w K mg base (A.under (.builtin "type.__call__" ⟨.ref C::us,kw⟩)) outer s H:=⟨by first|exact e.frames|(simpa [Js,Code.envs,Code.isFrame,pushEnvs] using e.frames),e.mod,e.bs,e.bsz,e.funs,e.frf,e.hok,e.bare⟩
def mm.in1 {P:Program}{w:World}{K:ja}{mg:Str->Option Gg}{base:Heap}{A:Around}{outer:List Env}{s:Gh}{H:Hp}(e:mm P w K mg base A outer s H) :
  mm P w K mg base A.in1 outer s H:=⟨e.frames,e.mod,e.bs,e.bsz,e.funs,e.frf,e.hok,e.bare⟩
def dE.env0 (I:dE X ω σ H s):mm X.prog X.w X.K X.mg X.base X.A X.stack s H :=
 ⟨I.ok.frames,I.ok.mod,I.bs,jX I.ok.bsz I.sz,I.stack,I.stkFree,I.hok,I.bare⟩
def dE.after {Q:VK}(I:dE X ω σ H s)(h:CE X.stack X.prog X.w H s Q u s'):EP X ω σ Q u s':=by
 obtain⟨v,H',os,bare,un,hok,r,q⟩:=h;obtain⟨hh,g,d,t,os'⟩:=s';obtain rfl:os'=s.os:=os;exact⟨v,H',I.call (h':=hh) (g':=g) (d':=d) (t':=t) (ch:=[]) un hok bare (λb z=>absurd z (by simp)),r,q⟩
def NC (sp:Sp)(dvs:List V)(E:XK)(t:TA):TE:=λσ H Q=>t σ H λvs H1=>sp (vs++dvs) H1 Q E
def tu (C:Gj)(m:Str)(sp:Sp)(dvs:List V)(E:XK)(ta:TE)(t:TA):TE:=λσ H Q=>ta σ H λx H1=>∃ a dx fs,x=.ref a/\H1 a=Ga (.ins C dx fs)/\fs.lookup m=Gb /\
 t σ H1 λvs H2=>sp (x::(vs++dvs)) H2 Q E
def NG (C:Gj)(sp:Sp)(dvs:List V)(E:XK)(t:TA):TE:=λσ H Q=>t σ H λvs H1=>∀ x dx,H1 x=Gb->H1 dx=Gb->dx≠x ->
 sp (.ref x::(vs++dvs)) (upd (upd H1 dx (.own x)) x (.ins C dx [])) (λv H2=>v=.non/\Q (.ref x) H2) E
def fS (K:ja)(fd:Gi)(ps:List Str)(ds:List Gg):Prop :=
 ∀ (s:Gh) (us:List Gg),K.In s.heap->(us++ds).length=ps.length->BindsTo s fd ⟨us,[]⟩ (ps.zip (us++ds))
def fS.all(h:∀ us:List Gg,us.length=ps.length->bindArgs fd ⟨us,[]⟩=pure (ps.zip us)):fS K fd ps []:=λs us _ hl=>by
 rw[jJ] at hl ⊢;exact .of_eq (h us hl)
def gU (CX:mz)(X:Cx)(E:XK):Prop:=∀ (ω:List (Gj×Obj)) (σ:St) (H:Hp) (s:Gh) (e:Gg) (s':Gh),dE X ω σ H s->CX X.stack H s E e s'->X.xe e s'
section
variable {X:Cx}{CX:mz}{k:Nat}{f C:Gj}{fd:Gi}{ps:List Str}{sp:Sp}{dvs:List V}{ds:List Gg}{E:XK}{x m:Str}{p pos apos:Pos}{e o:Expr}{es:List Expr}{ta:TE}{t:TA}
variable {Q:VK}{vs:List V}
def wK(F:Fq X CX k f fd ps sp)(hr:eP k X.A)(hb:fS X.K fd ps ds)(hd:eC dvs ds)(hx:gU CX X E)
  (I:dE X ω σ H s) (r:eC vs us) (h:sp (vs++dvs) H Q E):wX X (call (.ref f) us) (EP X ω σ Q) X.xe s:=by
 have r2:eC (vs++dvs) (us++ds):=r.append hd;have hl:(us++ds).length=ps.length:=by rw[<- r2.length];exact F.len _ _ _ _ h
 refine wpAny_call (codeAny_mono (F.run X.A X.stack s H ⟨us,[]⟩ (us++ds) (vs++dvs) Q E hr I.env0 (hb s us I.kIn hl) r2 h) λr s' hq=>?_);cases r with
 | error e=>exact hx ω σ H s e s' I hq
 | ok fl =>
  cases fl with
  | ret u=>exact I.after hq
  | next=>exact False.elim hq
  | brk=>exact False.elim hq
  | cont=>exact False.elim hq
def iV (F:Fq X CX k f fd ps sp)(hr:eP k X.A)(hg:Gl X x)(hm:X.mg x=Ga (.ref f))(hk:jR X.K (.ref f)=true)(hb:fS X.K fd ps ds)(hd:eC dvs ds)(hx:gU CX X E)
  (ha:PA X (e::es) t) (hdb:Nd x:=by decide) (he:Sa X e es:=by rfl) (hpl:Sc X pos es:=by rfl) :
  PE X (.Call (.Name x p) (e::es) [] pos) (NC sp dvs E t):=by
 intro ω s σ H Q I h;refine wpAny_Call_Name_kw (gK I hg hm ?_ hdb);refine uB (h₀:=X.base) I.ok.mod.kin hk (eV (ha pos ω s σ H _ I h) λus s1 ⟨vs,H1,I1,r,q⟩=>⟨I1.kIn,?_⟩) he hpl;exact wK F hr hb hd hx I1 r q
def HP {pl:Sem Bool}(he:PE X o ta)(c:rW X.K C)(hm:zP X.K C m f)(F:Fq X CX k f fd ps sp)(hr:eP k X.A)(hb:fS X.K fd ps ds)(hd:eC dvs ds)(hx:gU CX X E)(ha:PA X (e::es) t)
  (hst:Sa X e es:=by rfl) (hpl:Sc X pos es:=by rfl)
  (ht:eval (.Call (.Attribute o m apos) (e::es) [] pos) X.env=(do
   let ov <- eval o X.env
   standAt apos.atName
   let (f,first) <- holding [ov] (getMethod ov m pl)
   callWith pos f first (backTo pos (starEach (e::es) X.env)) (backToKw pos (keywordEach [] X.env))):=by rfl) :
  PE X (.Call (.Attribute o m apos) (e::es) [] pos) (tu C m sp dvs E ta t):=by
 intro ω s σ H Q I h;refine qS (pl:=pl) (eV (he ω s σ H _ I h) λu s1 ⟨x,H1,I1,rx,a,dx,fs,ex,ea,l,q⟩=>?_) ht;subst ex;obtain rfl:u=jH a:=rx;refine wu I1 ea c hm l ?_;refine uB (first:=[.ref a]) (h₀:=X.base) I.ok.mod.kin hm.kp (eV (ha pos ω s1 σ H1 _ I1 q) λus s2 ⟨vs,H2,I2,r,q2⟩=>⟨I2.kIn,?_⟩) hst hpl;exact wK (us:=.ref a::us) (vs:=.ref a::vs) F hr hb hd hx I2 (.cons rfl r) q2
structure Mk (K:ja)(C f:Gj):Prop where
 makes:JN K C=true
 init:uf K (.ref C) "__init__"=Ga (Ga (.ref f))
 fn:qH K (.ref f)=true
 kp:jR K (.ref C)=true
def EZ(M:Mk X.K C f)(F:Fq X CX k f fd ps sp)(hr:eP (k+1) X.A)(hb:fS X.K fd ps ds)(hd:eC dvs ds)
  (hx:gU CX X E) (I:dE X ω σ H s) (r:eC vs us)
  (h:∀ x dx,H x=Gb->H dx=Gb->dx≠x->sp (.ref x::(vs++dvs)) (upd (upd H dx (.own x)) x (.ins C dx [])) (λv H2=>v=.non/\Q (.ref x) H2) E) :
  wX X (call (.ref C) us) (EP X ω σ Q) X.xe s:=by
 have hq:=h (s.heap.objs.size+1) s.heap.objs.size (I.hok.fresh (qq _)) (I.hok.fresh (jw _)) (jB (uP _));have I2:=dE.made (C:=C) I;have r2:eC (V.ref (s.heap.objs.size+1)::(vs++dvs)) (jH (s.heap.objs.size+1)::(us++ds)):=.cons rfl (r.append hd);have hl:(jH (s.heap.objs.size+1)::us++ds).length=ps.length:=by
  have e:=r2.length;rw[F.len _ _ _ _ hq] at e;exact e.symm
 refine wpAny_call (Fm (f:=f) I.kIn M.makes M.init (beq_iff_eq.mp M.fn) (codeAny_mono (F.run _ X.stack _ _ ⟨jH (s.heap.objs.size+1)::us,[]⟩ (jH (s.heap.objs.size+1)::(us++ds)) _ _ E (hr.make C us [])
  (I2.env0.make C us []) (hb _ (jH (s.heap.objs.size+1)::us) I2.kIn hl) r2 hq) λr s' hq'=>?_))
 cases r with
 | error e=>exact hx ω σ _ _ e s' I2 hq'
 | ok fl =>
  cases fl with
  | ret u =>
   have⟨v,H',I3,rv,ev,q3⟩:=I2.after hq';subst ev;exact⟨rv,⟨V.ref (s.heap.objs.size+1),H',I3,rfl,q3⟩⟩
  | next=>exact False.elim hq'
  | brk=>exact False.elim hq'
  | cont=>exact False.elim hq'
def EG (M:Mk X.K C f)(F:Fq X CX k f fd ps sp)(hr:eP (k+1) X.A)(hg:Gl X x)(hm:X.mg x=Ga (.ref C))(hb:fS X.K fd ps ds)(hd:eC dvs ds)(hx:gU CX X E)
  (hdb:Nd x:=by decide):PE X (.Call (.Name x p) [] [] pos) (NG C sp dvs E Fd):=by
 intro ω s σ H Q I h;refine wpAny_Call_Name_kw (gK I hg hm ?_ hdb);exact PySem.W.callWith_K0 I.kIn M.kp (EZ (us:=[]) M F hr hb hd hx I .nil h)
end
structure dD (N P:List Str)(sc:Scope):Prop where
 kind:sc.kind=.function
 co:sc.isCoroutine=false
 gen:sc.isGenerator=false
 nd:N.Nodup
 pre:N.take P.length=P
 par:∀ x∈P,sc.names.lookup x=Ga .local\/sc.names.lookup x=Ga .cell
 nofree:∀ y∈sc.names,y.2≠.free
def ye {kindOf:Str->Option NameKind}{x:Str}:∀ {binds:List (Str×Gg)} {m:Str->Option Gg},(∀ v,(x,v)∉binds)->bindL kindOf binds m x=m x
 | [],_,_=>rfl
 | (n,v)::r,m,h=>by
  unfold bindL;rw[ye λw hw=>h w (jd _ hw)];split
  .have:x≠n:=by rintro rfl;exact h v jh
   simp[this]
  .rfl
def yE {kindOf:Str->Option NameKind}{x:Str}:∀ {binds:List (Str×Gg)} {m:Str->Option Gg},(∀ v,(x,v)∉binds)->bindC kindOf binds m x=m x
 | [],_,_=>rfl
 | (n,v)::r,m,h=>by
  unfold bindC;rw[yE λw hw=>h w (jd _ hw)];split
  .rfl
  .have:x≠n:=by rintro rfl;exact h v jh
   simp[this]
def yc {kindOf:Str->Option NameKind}{x:Str}{v:Gg}:∀ {P:List Str} {vs:List Gg} {i:Nat} {m:Str->Option Gg},P.Nodup->P[i]?=Ga x->vs[i]?=Ga v->kindOf x=Ga .local ->
  bindL kindOf (P.zip vs) m x=Ga v
 | [],_,_,_,_,h,_,_=>by simp at h
 | _::_,[],_,_,_,_,h,_=>by simp at h
 | p::P,w::vs,0,m,nd,h1,h2,hk=>by
  simp at h1 h2;subst h1;subst h2;show bindL kindOf ((p,w)::P.zip vs) m p=_;unfold bindL;rw[ye λv hv=>(uY.mp nd).1 (v3 hv).1,Ge hk];simp
 | p::P,w::vs,i+1,m,nd,h1,h2,hk=>by
  show bindL kindOf ((p,w)::P.zip vs) m x=_;unfold bindL;exact yc (i:=i) (uY.mp nd).2 (by simpa using h1) (by simpa using h2) hk
def xO {kindOf:Str->Option NameKind}{x:Str}{v:Gg}:∀ {P:List Str} {vs:List Gg} {i:Nat} {m:Str->Option Gg},P.Nodup->P[i]?=Ga x->vs[i]?=Ga v->kindOf x≠Ga .local ->
  bindC kindOf (P.zip vs) m x=Ga v
 | [],_,_,_,_,h,_,_=>by simp at h
 | _::_,[],_,_,_,_,h,_=>by simp at h
 | p::P,w::vs,0,m,nd,h1,h2,hk=>by
  simp at h1 h2;subst h1;subst h2;show bindC kindOf ((p,w)::P.zip vs) m p=_;unfold bindC;rw[yE λv hv=>(uY.mp nd).1 (v3 hv).1,Gf hk];simp
 | p::P,w::vs,i+1,m,nd,h1,h2,hk=>by
  show bindC kindOf ((p,w)::P.zip vs) m x=_;unfold bindC;exact xO (i:=i) (uY.mp nd).2 (by simpa using h1) (by simpa using h2) hk
def start (N:List Str)(vs:List V):St:=vs.map Ga++uQ (N.length-vs.length) Gb
def fN (CX:mz)(P:Program)(w:World)(K:ja)(mg:Str->Option Gg)(base:Heap)(N:List Str)(qual:Str)(scope:Scope)(f:Gj)(cd:Gg)(A:Around)(outer:List Env)(s:Gh)(H:Hp)(E:XK):Cx where
 prog:=P
 w:=w
 K:=K
 mg:=mg
 base:=base
 A:=A.deeper (envOfC qual scope s.heap.objs.size f cd)
 N:=N
 s₀:=s
 H₀:=H
 env:=envOfC qual scope s.heap.objs.size f cd
 outer:=outer
 stack:=envOfC qual scope s.heap.objs.size f cd::outer
 ex:=[]
 calm:=true
 fn:=λ_=>true
 pn:=[]
 xe:=λe s'=>wpAny (model P w) (A.deeper (envOfC qual scope s.heap.objs.size f cd)) (leaving (envOfC qual scope s.heap.objs.size f cd) e) (λ_ s''=>CX outer H s E e s'') (λe' s''=>CX outer H s E e' s'') s'
abbrev He (CX:mz)(P:Program)(w:World)(K:ja)(mg:Str->Option Gg)(base:Heap)(N:List Str)(qual:Str)(st:Stmt)(f:Gj)(k:Nat)(J:Cx->XK->Prop):Prop:=∀ {cdv:Gg} {A:Around} {outer:List Env} {s:Gh} {H:Hp} {E:XK},eP k (A.deeper (envOfC qual (defScope st) s.heap.objs.size f cdv))->J (fN CX P w K mg base N qual (defScope st) f cdv A outer s H E) E
def zW {sc:Scope}{x:Str}(h:sc.names.lookup x=Ga .cell):∃ c,(cellsFrom n sc.names []).lookup x=Ga c:=by
 have q:=vF sc.names n [] (.inl h);exact qx.mp q
def yv{cd:Gg}{s1:Gh}{E:XK}{vs:List V}
  (S:dD N ps scope) (hd:A.handled=Gb) (e0:mm P w K mg base A outer s H) (hl:vs.length=ps.length) (r:eC vs us)
  (x:InCallC s s.heap.objs.size (bindL (envOfC qual scope s.heap.objs.size f cd).kindOf (ps.zip us) λ_=>Gb) (cellsFrom (s.heap.objs.size+1) scope.names []) (bindC (envOfC qual scope s.heap.objs.size f cd).kindOf (ps.zip us) λ_=>Gb) s1) :
  dE (fN CX P w K mg base N qual scope f cd A outer s H E) [] (start N vs) H s1:=by
 have hpl:ps.length<=N.length:=by have:=congrArg JK S.pre;rw[vQ] at this;omega
 obtain⟨h1,tk,rfl,hk⟩:=x.done;have noA:∀ b:Gj,b∉(fN CX P w K mg base N qual scope f cd A outer s H E).ex:=λb z=>absurd (show b∈([]:List Gj) from z) (by simp);refine⟨⟨e0.mod,S.kind,rfl,rfl,jw _,λy z c h1 h2=>?_,λy hy=>?_,λy c _ h=>?_,λ_=>hd,qW e0.frames,.inr ⟨rfl,rfl⟩,λb z=>absurd z (noA b),e0.bs,e0.bsz,λb _ _=>noA b,λb z=>absurd z (noA b),e0.funs,e0.frf⟩,
  rfl,e0.bare,Un.kept hk,⟨_,x.toInCall.ns,λi y v h1 h2 h3=>?_⟩,λy c h=>⟨_,x.cell y c h⟩,e0.hok.fresh (jw _),λy c h=>?_,λp hp=>absurd (show p∈([]:List (Gj×Obj)) from hp) (by simp),e0.hok.kept hk,?_⟩
 .exact name_of_addr x.apart (kO h1) (kO h2)
 .have hy:scope.names.lookup y=Ga .cell\/scope.names.lookup y=Ga .free:=hy;rcases hy with hy|hy
  .exact zW hy
  .exact absurd rfl (S.nofree _ (kO hy))
 .exact uJ (x.above y c (kO h))
 .have hi:i<vs.length:=by
   unfold start at h2;by_cases hi:i<vs.length
   .exact hi
   .rw[ki (by simpa using hi)] at h2;rw[kC] at h2;split at h2<;>cases h2
  have ha:vs[i]?=Ga v:=by
   unfold start at h2;rw[kn (by simpa using hi),jE] at h2;cases e:vs[i]? with
   | none=>rw[e] at h2;cases h2
   | some a=>rw[e] at h2;cases h2;rfl
  have⟨u,hu,rv⟩:=r.get ha;have hp:ps[i]?=Ga y:=by
   rwa[<- S.pre,List.getElem?_take_of_lt (by omega)]
  have ndP:ps.Nodup:=by rw[<- S.pre];exact S.nd.sublist (List.take_sublist _ _)
  refine⟨u,rv,?_⟩;rcases S.par y (jW hp) with k|k
  .exact .inl ⟨k,yc ndP hp hu k⟩
  .obtain⟨c,e⟩:=zW (n:=s.heap.objs.size+1) k;refine .inr ⟨.inl k,c,e,?_⟩;have q:=x.cell y c e;rw[xO ndP hp hu (by show scope.names.lookup y≠_;rw[k];decide)] at q;exact q
 .exact e0.hok.fresh (uJ (x.above y c (kO h)))
 .unfold start;show _=N.length;rw[jA,jk,uc];omega
def rl{params:Arguments}{dV kV doc pm cdv ct oc:Gg}{an od:Option Gj}
  {osl:Array (Option Gg)} (lk:K.lookup f=Ga ⟨oc,od,.func (kG name qual params body scope dV kV doc pm an cdv ct),osl⟩) (hcd:uR K cdv qual=true) (S:dD N ps scope)
  (len:∀ vs H Q E,sp vs H Q E->vs.length=ps.length)
  (hbody:∀ (A:Around) (outer:List Env) (s:Gh) (H:Hp) (vs:List V) (Q:VK) (E:XK),eP k (A.deeper (envOfC qual scope s.heap.objs.size f cdv))->sp vs H Q E ->
   ∃ t,lc (fN CX P w K mg base N qual scope f cdv A outer s H E) body t/\t { nx:=λ_ H'=>Q .non H',rt:=Q } (start N vs) H) :
  dJ P w K mg base CX (k+1) f (kG name qual params body scope dV kV doc pm an cdv ct) ps sp:=by
 refine⟨len,λA outer s H args us vs Q E hr e0 hb r hsp=>?_⟩;have hl:=len _ _ _ _ hsp;have KX:K.In s.heap:=e0.mod.kin.keeps λb o e=>(e0.bs b o e).1;have lim:s.heap.NoLimit:=e0.mod.nolimit.keeps λb o e=>(e0.bs b o e).1;have hkind:∀ y∈ps.zip us,scope.names.lookup y.1=Ga .local\/(scope.names.lookup y.1=Ga .cell/\((cellsFrom (s.heap.objs.size+1) scope.names []).lookup y.1).isSome=true):=λ⟨n,v⟩ hy=>by
  rcases S.par n (v3 hy).1 with q|q
  .exact .inl q
  .exact .inr ⟨q,vF _ _ _ (.inl q)⟩
 refine codeAny_call_function hr.depth (KX _ _ lk) rfl S.co S.gen rfl (Jj KX hcd) (hb _ _ _ _ ?_);refine wpAny_newFunctionEnv_cells S.kind hkind λψ he s1 x=>?_;subst he;refine⟨lim.keeps x.toInCall.keep,codeAny_func ?_⟩;have⟨t,ht,hq⟩:=hbody A outer s H vs Q E (hr.deeper _) hsp;have I:dE (fN CX P w K mg base N qual scope f cdv A outer s H E) [] (start N vs) H s1:=yv S hr.hd e0 hl r x;refine wpAny_mono (ht [] s1 (start N vs) H _ I hq) (λfl s' hs=>?_) λe s' hs=>hs;have fin:∀ {σ':St} {H':Hp} {v:V} {u:Gg},dE (fN CX P w K mg base N qual scope f cdv A outer s H E) [] σ' H' s'->eL v u->Q v H'->CE outer P w H s Q u s' :=
  λ{σ' H' v u} J rv q=>⟨v,H',J.os,J.bare,J.base,J.hok,rv,q⟩
 cases fl with
 | ret u =>
  obtain⟨v,σ',H',J,rv,q⟩:=hs;exact fin J rv q
 | next =>
  obtain⟨σ',H',J,q⟩:=hs;exact fin (v:=V.non) (u:=jC) J rfl q
 | brk =>
  obtain⟨_,_,_,q⟩:=hs;exact False.elim q
 | cont =>
  obtain⟨_,_,_,q⟩:=hs;exact False.elim q
section
variable {X:Cx}{x:Str}{p pos:Pos}{e:Expr}{es:List Expr}{t:TA}{id T:String}{r:List V->Hp->VK->Prop}
def Wm (r:List V->Hp->VK->Prop)(t:TA):TE:=λσ H Q=>t σ H λvs H1=>r vs H1 Q
def oa (hc:gk X (.builtin id) r)(hg:Gl X x)(hm:X.mg x=Gb)(hv:bootBuiltins x=Ga (.builtin id))(ha:PA X (e::es) t)(hn:x≠"__name__":=by decide)(hdb:Nd x:=by decide)
  (he:Sa X e es:=by rfl) (hpl:Sc X pos es:=by rfl):PE X (.Call (.Name x p) (e::es) [] pos) (Wm r t):=by
 intro ω s σ H Q I h;refine wpAny_Call_Name_kw (oA I hg hm hv ?_ hn hdb);exact PyProof.Rows.callWith_builtin1 (eV (ha pos ω s σ H _ I h) λus s1 ⟨vs,H1,I1,r1,q1⟩=>hc ω s1 σ H1 vs us Q I1 r1 q1) he hpl
def CU (hc:gk X (.type T) r)(hg:Gl X x)(hm:X.mg x=Gb)(hv:bootBuiltins x=Ga (.type T))(ha:PA X (e::es) t)(hn:x≠"__name__":=by decide)(hdb:Nd x:=by decide)
  (he:Sa X e es:=by rfl) (hpl:Sc X pos es:=by rfl):PE X (.Call (.Name x p) (e::es) [] pos) (Wm r t):=by
 intro ω s σ H Q I h;refine wpAny_Call_Name_kw (oA I hg hm hv ?_ hn hdb);exact PyProof.Rows.callWith_type1 (eV (ha pos ω s σ H _ I h) λus s1 ⟨vs,H1,I1,r1,q1⟩=>hc ω s1 σ H1 vs us Q I1 r1 q1) he hpl
end
end L2
namespace HT
open PySem PyProof.Rows
variable {A:Around}{E Q:Gg->Gh->Prop}{prog:Program}{s:Gh}{w:World}{sl:Gj}{vl vu:Gg}
def cat_tup {t b:Gj}{vs ws:List Gg}(ht:IsTup s.heap t vs.toArray)(hb:IsTup s.heap b ws.toArray)(hv:vs≠[])
  (h1:ws=[]->Q (.ref t) s) (h2:ws≠[]->Q (.ref s.heap.objs.size) { s with heap:=s.heap.push { cls:=.type "tuple",data:=.seq (vs++ws).toArray } })
  (hsz:vs.length+ws.length<=sizeLine):wpAny (model prog w) A (binaryOp .Add (.ref t) (.ref b)) Q E s:=by
 have⟨⟨cls,dd,data,sl⟩,ho,hc,n,hd⟩:=id ht;have⟨⟨cls2,dd2,data2,sl2⟩,ho2,hc2,n2,hd2⟩:=id hb;simp only at hc hd hc2 hd2;subst hc hd hc2 hd2;have e:vs.toArray++ws.toArray=(vs++ws).toArray:=by simp
 by_cases hw:ws=[]
 .exact concat_meets ⟨_,ho,rfl⟩ ⟨_,ho2,rfl⟩ noFill_tuple_add seq_tuple_add vG vA (vk _ _)
   (tuple_addW1 t b vs.toArray ws.toArray n n2 dd dd2 sl sl2 (by simpa using hv) (by simp[hw])) ⟨ho,ho2,h1 hw⟩
 .refine concat_meets ⟨_,ho,rfl⟩ ⟨_,ho2,rfl⟩ noFill_tuple_add seq_tuple_add vG vA (vk _ _)
   (tuple_addW2 t b vs.toArray ws.toArray n n2 dd dd2 sl sl2 (by simpa using hv) (by simpa using hw) (by rwa[ji,ji])) ⟨ho,ho2,?_⟩
  rw[e];exact h2 hw
def sIx (n d:Nat):Option Int->Nat
 | none=>d
 | some v=>if v<0 then(v+(n:Int)).toNat else min v.toNat n
def ML (n d:Nat)(hd:d<=n)(o:Option Int):sIx n d o<=n:=by
 cases o with
 | none=>exact hd
 | some v =>
  show(if v<0 then(v+(n:Int)).toNat else min v.toNat n)<=n;by_cases hv:v<0
  .rw[Ge hv];omega
  .rw[Gf hv];exact Nat.min_le_right _ _
def AF (v:Int)(n d:Nat):(if v<0 then max (v+(n:Int)) 0 else min v (n:Int))=((sIx n d (Ga v):Nat):Int):=by
 show(if v<0 then max (v+(n:Int)) 0 else min v (n:Int))=(((if v<0 then(v+(n:Int)).toNat else min v.toNat n):Nat):Int);by_cases hv:v<0
 .simp only[Ge hv];omega
 .simp only[Gf hv];omega
def Cr (lo hi:Option Int)(n:Nat):vj lo hi 1 (n:Int)=(((sIx n 0 lo:Nat):Int),((sIx n n hi:Nat):Int)):=by
 have h1:¬((1:Int)<0):=by omega
 unfold vj;simp only[h1,if_false];refine Prod.ext ?_ ?_
 .cases lo with
  | none=>rfl
  | some v=>exact AF v n 0
 .cases hi with
  | none=>rfl
  | some v=>exact AF v n n
def BK (i j:Nat):uF (i:Int) (j:Int) 1=j-i:=by
 unfold uF;have h1:(1:Int)>0:=by omega
 simp only[h1,if_true,Int.ediv_one];split<;>omega
def xm {v:Gg}{o:Option Int}{Q:Option Int->Gh->Prop}(p:IsPart v o)(h:Q o s):wpAny (model prog w) A (Builtin.Slice.slicePartIndex v) Q E s:=by
 cases p with
 | none=>exact slicePart_none h
 | int i t=>exact slicePart_int h
def nR{lo hi:Option Int}{n:Nat}{Q:Int×Int×Nat->Gh->Prop}(hs:s.heap.IsSliceOf sl vl vu .none)(pl:IsPart vl lo)(pu:IsPart vu hi)
  (h:Q (((sIx n 0 lo:Nat):Int),1,sIx n n hi-sIx n 0 lo) s):wpAny (model prog w) A (qj (.ref sl) (pure (n:Int))) Q E s:=by
 have⟨os,hos,hcs,hds⟩:=id hs;unfold qj Builtin.Slice.sliceFields;refine dv (dv (wpAny_field hos hds (x:=vl) rfl (dv (wpAny_field hos hds (x:=vu) rfl (dv (wpAny_field hos hds (x:=.none) rfl (dw ?_)))))));refine dv (slicePart_none ?_);show wpAny _ _ (if ((1:Int)==0)=true then _ else _) _ _ s;rw[Gf (by decide)];refine dv (xm pl (dv (xm pu (dv (dw ?_)))));show wpAny _ _ (match vj lo hi 1 (n:Int) with|(lo,hi)=>pure (lo,(1:Int),uF lo hi 1)) _ _ s;rw[Cr lo hi n];show wpAny _ _ (pure (((sIx n 0 lo:Nat):Int),(1:Int),uF ((sIx n 0 lo:Nat):Int) ((sIx n n hi:Nat):Int) 1)) _ _ s;rw[BK];exact dw h
def Fh (xs:Array Gg)(i k:Nat):((kF k).filterMap λ(m:Nat)=>xs[((i:Int)+(m:Int)*1).toNat]?).toArray=((xs.toList.drop i).take k).toArray:=by
 have e:(λ(m:Nat)=>xs[((i:Int)+(m:Int)*1).toNat]?)=λm=>xs[i+m]?:=by
  funext m
  have:((i:Int)+(m:Int)*1).toNat=i+m:=by omega
  rw[this]
 rw[e];have:=pick_run xs i k;rw[List.filterMap_map] at this;have e2:((λx=>xs[x]?)∘λx=>i+x)=λm=>xs[i+m]?:=rfl;rw[e2] at this;rw[this]
def getItem_tuple_cut {t:Gj}{items:Array Gg}{lo hi:Option Int}(ht:IsTup s.heap t items)(hs:s.heap.IsSliceOf sl vl vu .none)(pl:IsPart vl lo)(pu:IsPart vu hi)
  (hw:¬(sIx items.size 0 lo=0/\sIx items.size items.size hi=items.size))
  (h:Q (.ref s.heap.objs.size) { s with heap:=s.heap.push { cls:=.type "tuple",data:=.seq ((items.toList.drop (sIx items.size 0 lo)).take (sIx items.size items.size hi-sIx items.size 0 lo)).toArray } })
  (hsz:items.size<=sizeLine):wpAny (model prog w) A (getItem (.ref t) (.ref sl)) Q E s:=by
 have htake:sizeOk (.seq ((items.toList.drop (sIx items.size 0 lo)).take (sIx items.size items.size hi-sIx items.size 0 lo)).toArray):=by
  show((items.toList.drop (sIx items.size 0 lo)).take (sIx items.size items.size hi-sIx items.size 0 lo)).toArray.size<=sizeLine;rw[ji,vQ,qA,jP];omega
 have hj:sIx items.size items.size hi<=items.size:=ML _ _ (jw _) hi;have⟨os,hos,hcs,hds⟩:=id hs;have hTs:s.TypeIs (.ref sl) "slice":=⟨os,hos,hcs⟩;unfold getItem
 try with_reducible refine wpAny_holding ?_
 first|refine dv (dw ?_)|skip
 refine dv (wpAny_sequenceKey ht.typeIs (by decide) ?_);refine dv (wpAny_callSpecial?_slot (name:=jv "__getitem__") ht.typeIs PyProof.Rows.slot_tuple_getitem
  (wpAny_call_entry PyProof.Rows.slot_tuple_getitem ht.typeIs entry_tuple_getitem ?_ (args_tuple_getitem _ _)))
 show wpAny _ _ (vd (.ref t) >>= _) _ _ s;refine dv (tupleItemsOf_ ht ?_);refine dv (wpAny_typeOf hTs ?_);rw[Ge (by decide)];refine dv (nR hs pl pu ?_);have hno:¬((((sIx items.size 0 lo:Nat):Int)==0&&(1:Int)==1&&(sIx items.size items.size hi-sIx items.size 0 lo)==items.size)=true):=by
  intro q;rw[ju,ju] at q;have q1:((sIx items.size 0 lo:Nat):Int)=0:=eq_of_beq q.1.1;have q2:sIx items.size items.size hi-sIx items.size 0 lo=items.size:=eq_of_beq q.2;exact hw ⟨by omega,by omega⟩
 show wpAny _ _ (if (((sIx items.size 0 lo:Nat):Int)==0&&(1:Int)==1&&(sIx items.size items.size hi-sIx items.size 0 lo)==items.size)=true then _ else _) _ _ s;rw[Gf hno,Fh]
 first
  | exact dv (m:=uM _) (wpAny_newObj_type (dw ⟨_,rfl,dw h⟩) htake)
  | exact dv (m:=uM _) (wpAny_newObj_type (dv (dw (dw ⟨_,rfl,dw h⟩))) htake)
  | exact dv (dv (m:=uM _) (wpAny_newObj_type (dw (dw ⟨_,rfl,dw h⟩)) htake))
  | exact dv (dv (m:=uM _) (wpAny_newObj_type (dw ⟨_,rfl,dw h⟩) htake))
end HT
namespace L2
open PySem PySem.Spec PyProof.Rows
abbrev TO:=St->Hp->(Option Int->Hp->Prop)->Prop
def PO (X:Cx)(e:Option Expr)(t:TO):Prop :=
 ∀ ω s σ H Q,dE X ω σ H s->t σ H Q ->
  wX X (evalPart e X.env) (λu s'=>∃ o H',dE X ω σ H' s'/\IsPart u o/\Q o H') X.xe s
def HW:TO:=λ_ H Q=>Q Gb H
def NU (t:TE):TO:=λσ H Q=>t σ H λx H1=>∃ i,x=.int i/\Q (Ga i) H1
def BM {ns:List Int}:∀ {us:List Gg},eC (ns.map V.int) us->IntsAre us ns:=by
 induction ns with
 | nil=>intro us r;rw[qI] at r;cases r;exact .nil
 | cons n ns ih =>
  intro us r;rw[kh] at r;cases r with
  | cons r1 r2 =>
   obtain⟨t,e⟩:=r1;subst e;exact .cons n t (ih r2)
variable {X:Cx}{e:Expr}{te:TE}{hi lo:Option Expr}{r:V->Option Int->Option Int->Hp->VK->Prop}{p2 pos:Pos}{th tl:TO}{xs ys:List V}{α:Type}{i:Int}{j n t':Nat}{H:Hp}{its:List Gg}{l:Gj}{s:Gh}{σ:St}{ω:List (Gj×Obj)}
def HZ:PO X Gb HW:=by
 intro ω s σ H Q I h;rw[evalPart_none];exact dw ⟨Gb,H,I,.none,h⟩
def HJ (h:PE X e te):PO X (Ga e) (NU te):=by
 intro ω s σ H Q I hw;rw[evalPart_some];refine eV (h ω s σ H _ I hw) λu s1 ⟨x,H1,I1,r1,q1⟩=>?_;obtain⟨i,rfl,q⟩:=q1;obtain⟨t,rfl⟩:=r1;exact⟨Ga i,H1,I1,.int i t,q⟩
def wJ (X:Cx)(r:V->Option Int->Option Int->Hp->VK->Prop):Prop :=
 ∀ ω s σ H x v vl vu (lo hi:Option Int) (sl:Gj) Q,dE X ω σ H s->eL x v->s.heap.IsSliceOf sl vl vu .none->IsPart vl lo->IsPart vu hi->r x lo hi H Q ->
  ∃ T id,typeLookup (.type T) "__getitem__"=pure (Ga (.builtin id))/\s.TypeIs v T/\wX X (getItem v (.ref sl)) (EP X ω σ Q) X.xe s
def wJ.or {r':V->Option Int->Option Int->Hp->VK->Prop}(h:wJ X r)(h':wJ X r'):wJ X (λx lo hi H Q=>r x lo hi H Q\/r' x lo hi H Q):=by
 intro ω s σ H x v vl vu lo hi sl Q I rx hs pl pu q;rcases q with q|q
 .exact h ω s σ H x v vl vu lo hi sl Q I rx hs pl pu q
 .exact h' ω s σ H x v vl vu lo hi sl Q I rx hs pl pu q
def tSl (r:V->Option Int->Option Int->Hp->VK->Prop)(te:TE)(tl th:TO):TE:=λσ H Q=>te σ H λx H1=>tl σ H1 λl H2=>th σ H2 λu H3=>r x l u H3 Q
def yP(hr:wJ X r)(he:PE X e te)(hl:PO X lo tl)(hu:PO X hi th):PE X (.Subscript e (.Slice lo hi Gb p2) pos) (tSl r te tl th):=by
 intro ω s σ H Q I h;refine Subscript_ (eV (he ω s σ H _ I h) λv s1 ⟨x,H1,I1,r1,q1⟩=>?_);refine wpAny_Slice (eV (hl ω s1 σ H1 _ I1 q1) λvl s2 ⟨l,H2,I2,pl,q2⟩=>eV (hu ω s2 σ H2 _ I2 q2) λvu s3 ⟨u,H3,I3,pu,q3⟩=>?_);rw[evalPart_none];refine dw ?_;have I4:dE X ω σ H3 { s3 with heap:=s3.heap.push { cls:=.type "slice",data:=.fields #[vl,vu,.none] } }:=I3.kept (t':=s3.toks) λb ob q=>jb _ q;have⟨T,id,hT,ht,hg⟩:=hr ω { s3 with heap:=s3.heap.push { cls:=.type "slice",data:=.fields #[vl,vu,.none] } } σ H3 x v vl vu l u s3.heap.objs.size Q I4 r1 (Heap.IsSliceOf.new ..) pl pu q3;show wX X (subscriptTail e (.Slice lo hi Gb p2) v (.ref s3.heap.objs.size)) (EP X ω σ Q) X.xe { s3 with heap:=s3.heap.push { cls:=.type "slice",data:=.fields #[vl,vu,.none] } };exact tail_any (ops:=[.ref s3.heap.objs.size,v]) ht hT hg (by with_unfolding_all rfl)
def nh (xs:List V)(lo hi:Option Int):List V:=(xs.drop (HT.sIx xs.length 0 lo)).take (HT.sIx xs.length xs.length hi-HT.sIx xs.length 0 lo)
def tP (xs:List V)(lo hi:Option Int):(nh xs lo hi).length<=xs.length:=by
 unfold nh;rw[vQ,qA];omega
def WJ (K:ja):V->Option Int->Option Int->Hp->VK->Prop:=λx lo hi H Q=>∃ a xs,x=.ref a/\hU K H a xs /\
 ¬(HT.sIx xs.length 0 lo=0/\HT.sIx xs.length xs.length hi=xs.length)/\∀ p,H p=Gb->Q (.ref p) (upd H p (.tup (nh xs lo hi)))
def Dw:wJ X (WJ X.K):=by
 intro ω s σ H x v vl vu lo hi sl Q I rx hs pl pu h;obtain⟨a,xs,rfl,hx,hw,q⟩:=h;cases rx;have⟨its,r,ht,hz⟩:=I.tuple hx;have hlen:its.toArray.size=xs.length:=by rw[ji];exact r.length.symm
 refine⟨"tuple",_,PyProof.Rows.slot_tuple_getitem.lookup,ht.typeIs,?_⟩;refine HT.getItem_tuple_cut ht hs pl pu (by rwa[hlen]) ?_ (by rwa[hlen]);rw[hlen];refine⟨.ref s.heap.objs.size,_,I.laid (t':=s.toks) (o:=.tup (nh xs lo hi)) (λb ob q=>jb _ q) (jw _) ?_,rfl,q _ (I.hok.fresh (jw _))⟩;exact⟨jX (tP xs lo hi) hz,_,(r.drop (HT.sIx xs.length 0 lo)).take (HT.sIx xs.length xs.length hi-HT.sIx xs.length 0 lo),IsTup.new _ _⟩
def NZ (K:ja):R2:=λx y H Q=>∃ a b xs ys,x=.ref a/\y=.ref b/\hU K H a xs/\hU K H b ys/\xs≠[]/\xs.length+ys.length<=sizeLine /\
 (ys=[]->Q (.ref a) H)/\(ys≠[]->∀ p,H p=Gb->Q (.ref p) (upd H p (.tup (xs++ys))))
def eC.nil_iff{us:List Gg}(r:eC xs us):us=[]↔xs=[]:=by
 cases r with
 | nil=>simp
 | cons _ _=>simp
def Ib:gj X (binaryOp .Add) (NZ X.K):=by
 intro ω s σ H x y v u Q I rx ry h;obtain⟨a,b,xs,ys,rfl,rfl,ha,hb,hx,hz,q1,q2⟩:=h;cases rx;cases ry;have⟨its,r1,p1,_⟩:=I.tuple ha;have⟨its2,r2,p2,_⟩:=I.tuple hb;refine HT.cat_tup p1 p2 (λz=>hx (r1.nil_iff.mp z)) (λz=>⟨.ref a,H,I,rfl,q1 (r2.nil_iff.mp z)⟩) (λz=>?_) (by rwa[<- r1.length,<- r2.length]);refine⟨.ref s.heap.objs.size,_,I.laid (t':=s.toks) (o:=.tup (xs++ys)) (λb ob q=>jb _ q) (jw _) ?_,rfl,q2 (λw=>z (r2.nil_iff.mpr w)) _ (I.hok.fresh (jw _))⟩;exact⟨by rwa[jA],_,r1.append r2,IsTup.new _ _⟩
def As (n:Nat)(i:Int):Option Nat:=if 0<=i then(if i<n then Ga i.toNat else Gb) else if -(n:Int)<=i then Ga (i+n).toNat else Gb
def atI(xs:List α)(i:Int):Option α:=(As xs.length i).bind λj=>xs[j]?
def HK(h:As n i=Ga j):seqIndex? i n=Ga j/\j<n/\-(n:Int)<=i/\i<n:=by
 unfold As at h;by_cases h0:0<=i
 .rw[Ge h0] at h;by_cases h1:i<n
  .rw[Ge h1] at h;have e:i.toNat=j:=jM h;exact⟨by rw[seqIndex_of h0 h1,e],by omega,by omega,h1⟩
  .rw[Gf h1] at h;cases h
 .rw[Gf h0] at h;by_cases h1:-(n:Int)<=i
  .rw[Ge h1] at h;have e:(i+n).toNat=j:=jM h;exact⟨by rw[seqIndex_neg (by omega) h1,e],by omega,h1,by omega⟩
  .rw[Gf h1] at h;cases h
def xH{xs:List α}{v:α}(h:atI xs i=Ga v):∃ j,seqIndex? i xs.length=Ga j/\xs[j]?=Ga v/\j<xs.length/\-(xs.length:Int)<=i/\i<xs.length:=by
 unfold atI at h;cases e:As xs.length i with
 | none=>rw[e] at h;cases h
 | some j =>
  rw[e] at h;have⟨h1,h2,h3,h4⟩:=HK e;exact⟨j,h1,h,h2,h3,h4⟩
def atI_nat{xs:List α}{v:α}(h:xs[j]?=Ga v):atI xs (j:Int)=Ga v:=by
 have hj:j<xs.length:=(je.mp h).1;have e:As xs.length (j:Int)=Ga j:=by
  unfold As;rw[Ge (by omega),Ge (by omega)];simp
 unfold atI;rwa[e]
def sW (b:Expr):Prop:=∀ o i,subscripted b false o i=operate [o,i] (getItem o i)
def wV (X:Cx)(r:R2):Prop :=
 ∀ (value slice:Expr) ω s σ H x y v u Q,dE X ω σ H s->eL x v->eL y u->r x y H Q ->
  subscripted slice false v u=operate [v,u] (getItem v u)->wX X (subscriptTail value slice v u) (EP X ω σ Q) X.xe s
def wx (X:Cx)(id:String)(r:V->List V->Hp->VK->Prop):Prop :=
 ∀ ω s σ H x xs v us Q,dE X ω σ H s->eL x v->eC xs us->r x xs H Q ->
  wX X (call (.builtin id) (v::us)) (EP X ω σ Q) X.xe s
section
variable {X:Cx}{a b:Expr}{ta tb:TE}{pos:Pos}
def wV.or {r r':R2}(h:wV X r)(h':wV X r'):wV X (λx y H Q=>r x y H Q\/r' x y H Q):=by
 intro value slice ω s σ H x y v u Q I rx ry q hs;rcases q with q|q
 .exact h value slice ω s σ H x y v u Q I rx ry q hs
 .exact h' value slice ω s σ H x y v u Q I rx ry q hs
def BI {r:R2}(hr:wV X r)(ha:PE X a ta)(hb:PE X b tb)(hs:sW b):PE X (.Subscript a b pos) (Dl r ta tb):=by
 intro ω s σ H Q I h;exact Subscript_ (Fp ha hb I h λv u s2 x y H2 I2 rx ry q=>hr a b ω s2 σ H2 x y v u Q I2 rx ry q (hs _ _))
def Lx (K:ja):R2:=λx y H Q=>∃ p xs i v,x=.ref p/\y=.int i/\fQ K H p xs/\atI xs i=Ga v/\Q v H
def KP (K:ja):R2:=λx y H Q=>∃ p xs i v,x=.ref p/\y=.int i/\hU K H p xs/\atI xs i=Ga v/\Q v H
def KG:R2:=λx y H Q=>∃ z i c,x=.str z/\y=.int i/\z.length<=sizeLine/\atI z.cps.toList i=Ga c/\Q (.str ⟨#[c]⟩) H
def Av:wV X (Lx X.K):=by
 intro value slice ω s σ H x y v u Q I rx ry h hs;obtain⟨p,xs,i,z,rfl,rfl,hq,he,q⟩:=h;cases rx;obtain⟨t,rfl⟩:=ry;have⟨its,r,pl,hz⟩:=I.list hq;have⟨j,h1,h2,h3,h4,h5⟩:=xH he;have⟨w,ew,rw'⟩:=r.get h2;have hl:=r.length;have hn:=pM;have fin:EP X ω σ Q w s:=⟨z,H,I,rw',q⟩;by_cases h0:0<=i
 .have hj:i.toNat=j:=by
   rw[seqIndex_of h0 h5] at h1;exact jM h1
  exact item_listR pl.isList h0 (by omega) (by rw[hj];simpa using ew) fin hs
 .have hj:(i+(its.toArray.size:Int)).toNat=j:=by
   rw[seqIndex_neg (by omega) h4] at h1;rw[ji,<- hl];exact jM h1
  exact subscriptTail_builtinR (x:=w) pl.isList.typeIs slot_list_getitem.lookup
   (wpAny_getItem_list_neg (Q:=λr s'=>r=w/\EP X ω σ Q r s') pl.isList (by omega) (by rw[ji]<;>omega) (by omega) (by rw[hj];simpa using ew) ⟨rfl,fin⟩) hs
def Iq:wV X (KP X.K):=by
 intro value slice ω s σ H x y v u Q I rx ry h hs;obtain⟨p,xs,i,z,rfl,rfl,hq,he,q⟩:=h;cases rx;obtain⟨t,rfl⟩:=ry;have⟨its,r,pl,hz⟩:=I.tuple hq;have⟨j,h1,h2,h3,h4,h5⟩:=xH he;have⟨w,ew,rw'⟩:=r.get h2;have hl:=r.length;have hn:=pM;have fin:EP X ω σ Q w s:=⟨z,H,I,rw',q⟩;exact subscriptTail_builtinR (x:=w) pl.typeIs slot_tuple_getitem.lookup
  (getItem_tuple (j:=j) (Q:=λr s'=>r=w/\EP X ω σ Q r s') pl (by omega) (by omega) (by rwa[ji,<- hl]) (by simpa using ew) ⟨rfl,fin⟩) hs
def Mv:wV X KG:=by
 intro value slice ω s σ H x y v u Q I rx ry h hs;obtain⟨z,i,c,rfl,rfl,hz,he,q⟩:=h;obtain⟨t,rfl⟩:=rx;obtain⟨t',rfl⟩:=ry;have⟨j,h1,h2,h3,h4,h5⟩:=xH he;have hl:z.cps.toList.length=z.length:=by simp[Jk]
 rw[hl] at h1 h4 h5;have hn:=pM;exact tail_any (typeIs_str s z t) slot_str_getitem.lookup (getItem_str (c:=c) (by
  have e1:decide (i < -(2^63:Int))=false:=Gd (by omega);have e2:decide (i≥2^63)=false:=Gd (by omega);rw[e1,e2,vT]) (by rw[h1];simpa using h2) ⟨.str ⟨#[c]⟩,H,I.tok _,⟨_,rfl⟩,q⟩) hs
def On (K:ja):R2:=λx y H Q=>Lx K x y H Q\/KP K x y H Q\/KG x y H Q
def CW:wV X (On X.K):=Av.or (Iq.or Mv)
def zQ (lo hi:Option Int)(n:Nat):(sliceBounds lo hi Gb n).1=((HT.sIx n 0 lo:Nat):Int)/\(sliceBounds lo hi Gb n).2.1=((HT.sIx n n hi:Nat):Int)/\(sliceBounds lo hi Gb n).2.2=1:=by
 refine⟨?_,?_,rfl⟩
 .cases lo with
  | none=>simp[sliceBounds,HT.sIx]
  | some i =>
   simp only[sliceBounds,HT.sIx,JD,show(1:Int)>0 by decide,if_true];by_cases h:i<0
   .simp only[h,if_true]<;>omega
   .simp only[h,if_false]<;>omega
 .cases hi with
  | none=>simp[sliceBounds,HT.sIx]
  | some i =>
   simp only[sliceBounds,HT.sIx,JD,show(1:Int)>0 by decide,if_true];by_cases h:i<0
   .simp only[h,if_true]<;>omega
   .simp only[h,if_false]<;>omega
def yH (its:List Gg)(lo hi:Option Int):slicePick its.toArray lo hi Gb=((its.drop (HT.sIx its.length 0 lo)).take (HT.sIx its.length its.length hi-HT.sIx its.length 0 lo)).toArray:=by
 have⟨h1,h2,h3⟩:=zQ lo hi its.toArray.size;unfold slicePick;rw[h1,h2,h3];simp only[sliceRange_one,pick_run,ji]<;>rfl
def WP (K:ja):V->Option Int->Option Int->Hp->VK->Prop:=λx lo hi H Q=>∃ a xs,x=.ref a/\fQ K H a xs/\∀ p,H p=Gb->Q (.ref p) (upd H p (.lst (nh xs lo hi)))
def Bu:wJ X (WP X.K):=by
 intro ω s σ H x v vl vu lo hi sl Q I rx hs pl pu h;obtain⟨a,xs,rfl,hx,q⟩:=h;cases rx;have⟨its,r,ht,hz⟩:=I.list hx;have hlen:=r.length;refine⟨"list",_,slot_list_getitem.lookup,ht.isList.typeIs,?_⟩;refine wpAny_getItem_list_slice ht.isList hs pl pu .none (by simp) ?_ (by rw[ji]<;>omega);rw[yH,<- hlen];refine⟨.ref s.heap.objs.size,_,I.laid (t':=s.toks) (o:=.lst (nh xs lo hi)) (λb ob q=>jb _ q) (jw _) ?_,rfl,q _ (I.hok.fresh (jw _))⟩;exact⟨jX (tP xs lo hi) hz,_,0,(r.drop (HT.sIx xs.length 0 lo)).take (HT.sIx xs.length xs.length hi-HT.sIx xs.length 0 lo),jm _ rfl⟩
def zA:gj X (compareOp .NotIn) (λx y H Q=>∃ i j,x=.str i/\y=.str j/\Q (.bl (!(!(jT j i 0 j.length 1).isEmpty))) H):=by
 intro ω s σ H x y v u Q I rx ry h;obtain⟨i,j,rfl,rfl,q⟩:=h;obtain⟨t,rfl⟩:=rx;obtain⟨t',rfl⟩:=ry;exact notIn_str ⟨.bl _,H,I,rfl,q⟩
def og:gk X (.builtin "len") (λxs H Q=>∃ p ys,xs=[.ref p]/\(fQ X.K H p ys\/hU X.K H p ys)/\Q (.int ys.length) H):=by
 intro ω s σ H xs us Q I r h;obtain⟨p,ys,rfl,hq,q⟩:=h;obtain⟨u,rfl,rx⟩:=iP r;cases rx;have hn:=pM;rcases hq with hq|hq
 .obtain⟨its,r',pl,hz⟩:=I.list hq;have hlen:=r'.length;exact Calls.call_len_list pl.isList (by simp only[ji]<;>omega) ⟨.int ys.length,H,I.tok _,⟨s.toks+1,by rw[ji,hlen]⟩,q⟩
 .obtain⟨its,r',pl,hz⟩:=I.tuple hq;have hlen:=r'.length;exact len_tuple pl (by simp only[ji]<;>omega) ⟨.int ys.length,H,I.tok _,⟨s.toks+1,by rw[ji,hlen]⟩,q⟩
def za:gk X (.builtin "len") (λxs H Q=>∃ z,xs=[.str z]/\z.length<=sizeLine/\Q (.int z.length) H):=by
 intro ω s σ H xs us Q I r h;obtain⟨z,rfl,hz,q⟩:=h;obtain⟨u,rfl,t,rfl⟩:=iP r;have hn:=pM;exact len_str (by omega) ⟨.int z.length,H,I.tok _,⟨_,rfl⟩,q⟩
def yI:gk X (.type "tuple") (λxs H Q=>∃ p ys,xs=[.ref p]/\((fQ X.K H p ys/\∀ l,H l=Gb->Q (.ref l) (upd H l (.tup ys)))\/(hU X.K H p ys/\Q (.ref p) H))):=by
 intro ω s σ H xs us Q I r h;obtain⟨p,ys,rfl,h⟩:=h;obtain⟨u,rfl,rx⟩:=iP r;cases rx;rcases h with ⟨hq,q⟩|⟨hq,q⟩
 .obtain⟨its,r',pl,hz⟩:=I.list hq;have hlen:=r'.length;refine call_tuple_list pl.isList (λh' kp=>?_) (by simp only[ji]<;>omega);have I1:dE X ω σ H { s with heap:=h' }:=I.kept (t':=s.toks) kp;have I2:dE X ω σ (upd H h'.objs.size (.tup ys)) { s with heap:=h'.push { cls:=.type "tuple",data:=.seq its.toArray } } :=
   I1.laid (t':=s.toks) (λb o e=>jb _ e) (jw _) (show gH X.prog X.w _ _ _ (.tup ys) from⟨hz,its,r',IsTup.new _ _⟩)
  exact⟨.ref h'.objs.size,_,I2,rfl,q _ (I1.hok.fresh (jw _))⟩
 .obtain⟨its,r',pl,hz⟩:=I.tuple hq;exact call_tuple_same pl ⟨.ref p,H,I,rfl,q⟩
def II (K:ja)(T:String)(x:V)(H:Hp):Prop:=match x with
 | .str _=>T="str"
 | .int _=>T="int"
 | .ref p=>(T="list"/\∃ xs,fQ K H p xs)\/(T="tuple"/\∃ o,K.lookup p=Ga o/\o.cls=.type "tuple"/\o.dict=Gb) \/
   (T="dict"/\∃ kvs,H p=Ga (.dK kvs))
 | _=>False
def DX{T:String}{x:V}{v:Gg}(I:dE X ω σ H s)(r:eL x v)(ty:II X.K T x H) :
  s.TypeIs v T/\∀ a,v=.ref a->∃ ob,s.heap.get? a=Ga ob/\ob.dict=Gb:=by
 cases x with
 | str z =>
  obtain⟨t,rfl⟩:=r;cases(show T="str" from ty);exact⟨typeIs_str s z t,λ_ e=>nomatch e⟩
 | int i =>
  obtain⟨t,rfl⟩:=r;cases(show T="int" from ty);exact⟨typeIs_int s i t,λ_ e=>nomatch e⟩
 | ref p =>
  cases r;rcases ty with ⟨rfl,xs,hq⟩|⟨rfl,o,hk,hc,hd⟩|⟨rfl,kvs,hk⟩
  .obtain⟨its,_,pl,_⟩:=I.list hq;refine⟨pl.isList.typeIs,λa e=>?_⟩;cases e;obtain⟨o,n,e,c,hd,_⟩:=pl;exact⟨o,e,hd⟩
  .refine⟨⟨o,I.kIn p o hk,hc⟩,λa e=>?_⟩;cases e;exact⟨o,I.kIn _ o hk,hd⟩
  .obtain⟨_,_,_,_,o,_,_,e,ex,_⟩:=I.hok p _ hk;refine⟨⟨o,e,ex.1⟩,λa e2=>?_⟩;cases e2;exact⟨o,e,ex.2.1⟩
 | _=>exact False.elim ty
def WB (K:ja)(T:String)(r:V->List V->Hp->VK->Prop)(to:TE):TE:=λσ H Q=>to σ H λx H1=>II K T x H1/\r x [] H1 Q
def tBM (K:ja)(T:String)(r:V->List V->Hp->VK->Prop)(to:TE)(t:TA):TE:=λσ H Q=>to σ H λx H1=>II K T x H1/\t σ H1 λxs H2=>r x xs H2 Q
variable {o e:Expr}{es:List Expr}{to:TE}{t:TA}{name:Str}{apos cpos:Pos}{T id:String}{r:V->List V->Hp->VK->Prop}
def Ku (pa:PlainAttrs T)(slot:Slot T name id)(hty:typeOf (.builtin id)=pure (.type "method_descriptor"))(hm:wx X id r)(ho:PE X o to)
  (hbase:attributeBase o name X.env (eval o X.env)=eval o X.env:=by rfl) (hline:(apos.endLine==cpos.line)=true:=by rfl):PE X (.Call (.Attribute o name apos) [] [] cpos) (WB X.K T r to):=by
 intro ω s σ H Q I h;refine wpAny_Call_method0_late hbase hline (eV (ho ω s σ H _ I h) λv s1 ⟨x,H1,I1,r1,ty,q1⟩=>?_);have⟨h1,h2⟩:=DX I1 r1 ty;exact⟨T,id,pa,slot,hty,h1,h2,qJ rfl (PySem.evalArgs_none (hm ω s1 σ H1 x [] v [] Q I1 r1 .nil q1))⟩
def pQ (pa:PlainAttrs T)(slot:Slot T name id)(hty:typeOf (.builtin id)=pure (.type "method_descriptor"))(hm:wx X id r)(ho:PE X o to)(ha:PA X (e::es) t)
  (hbase:attributeBase o name X.env (eval o X.env)=eval o X.env:=by rfl)
  (hfew:((backTo cpos (starEach (e::es) X.env)).all (λx=>!x.1)&&(backToKw cpos (keywordEach [] X.env)).all (λx=>x.1.isSome)
   && decide ((e::es).length+([]:List Keyword).length+(if ([]:List Keyword).isEmpty then 0 else 1)<30))=true:=by rfl)
  (hline:(apos.endLine==cpos.line)=true:=by rfl) (hs:Sa X e es:=by rfl) (hplain:Sc X cpos es:=by rfl) :
  PE X (.Call (.Attribute o name apos) (e::es) [] cpos) (tBM X.K T r to t):=by
 intro ω s σ H Q I h;refine wpAny_Call_method_late hbase hfew hline rfl (eV (ho ω s σ H _ I h) λv s1 ⟨x,H1,I1,r1,ty,q1⟩=>?_);have⟨h1,h2⟩:=DX I1 r1 ty;refine⟨T,id,pa,slot,hty,h1,h2,?_⟩;have hA:=ha cpos ω s1 σ H1 _ I1 q1;rw[hs] at hA ⊢;refine qJ (by show(false||(backTo cpos (starEach es X.env)).any (·.1))=false;rw[hplain]<;>rfl) (uC ?_);exact eV hA λus s2 ⟨vs,H2,I2,r2,q2⟩=>hm ω s2 σ H2 x vs v us Q I2 r1 r2 q2
end
def MtM (X:Cx)(id:String)(r:V->List V->Hp->VK->Prop):Prop :=
 ∀ ω s σ H x xs v us Q,dE X ω σ H s->eL x v->eC xs us->r x xs H Q ->
  wX X (call (.builtin id) (v::us)) (EP X ω σ Q) X.xe s
def eC.one:∀ {x:V} {us:List Gg},eC [x] us->∃ u,us=[u]/\eL x u
 | _,_,.cons r .nil=>⟨_,rfl,r⟩
def dE.lset {its':List Gg}{f:Array Gg->Array Gg}(I:dE X ω σ H s)(hH:H l=Ga (.lst xs))
  (e:s.heap.get? l=Ga { cls:=.type "list",data:=.seq its.toArray n }) (hf:f its.toArray=its'.toArray) (hv:eC ys its') (hz:ys.length<=sizeLine) :
  dE X ω σ (upd H l (.lst ys)) { s with heap:=s.heap.update l (j7 f),toks:=t' }:=by
 have q:=PySem.IsL.update e f;rw[hf] at q;refine I.write (x:=l) (e:=l) (by rw[hH];exact trivial) (.inl rfl) (λb' u hb hu=>(jN s.heap (j7 f) (kW hb)).trans hu) ⟨_,q⟩ ?_;exact⟨hz,its',_,hv,q⟩
def dE.lnew(I:dE X ω σ H s)(hv:eC ys its)(hz:ys.length<=sizeLine) :
  dE X ω σ (upd H s.heap.objs.size (.lst ys)) { s with heap:=s.heap.push { cls:=.type "list",data:=.seq its.toArray },toks:=t' } :=
 I.laid (λ_ _ q=>jb _ q) (jw _) ⟨hz,its,0,hv,jm _ rfl⟩
def dE.fresh (I:dE X ω σ H s):H s.heap.objs.size=Gb:=I.hok.fresh (jw _)
def dE.lstM (I:dE X ω σ H s)(hH:H l=Ga (.lst xs)):xs.length<=sizeLine/\∃ (its:List Gg) (n:Nat),eC xs its/\xs.length=its.length/\s.heap.get? l=Ga { cls:=.type "list",data:=.seq its.toArray n }:=by
 have⟨z,its,n,r,e⟩:=I.hok l _ hH;exact⟨z,its,n,r,r.length,e⟩
def EF(h:n<=sizeLine):vm n=false:=by
 unfold vm;exact Gd (by omega)
def HU:V->List V->Hp->VK->Prop:=λx vs H Q=>∃ l xs y,x=.ref l/\vs=[y]/\H l=Ga (.lst xs)/\xs.length<sizeLine/\Q .non (upd H l (.lst (xs++[y])))
def xU:MtM X "list.append" HU:=by
 intro ω s σ H x vs v us Q I rx rv h;obtain⟨l,xs,y,rfl,rfl,hH,hz,q⟩:=h;cases rx;obtain⟨u,rfl,ru⟩:=rv.one;have⟨z,its,n,r,hl,e⟩:=I.lstM hH;refine call_meets PySem.F.slot_list_append ⟨_,e,rfl⟩ PySem.F.entry_list_append (PySem.F.args_list_append_2 _ _) (PySem.list_append l its.toArray n u (by rw[ji];omega)) ⟨e,?_⟩;refine⟨.non,_,I.lset (its':=its++[u]) hH e (by simp) (r.append (.cons ru .nil)) ?_,rfl,q⟩;rw[jA,uk];omega
end L2
namespace Att
open PySem PySem.W PySem.Calls PyProof.Rows
variable {P:Params}{h:Heap}{l:OpenLaw}{n:Nat}
def wW:∀ (ns:List Int) (vs:List Gg),WellAll P h vs (ns.map WData.int)->IntsAre vs ns:=by
 intro ns;induction ns with
 | nil =>
  intro vs w;rw[qI] at w;cases w;exact .nil
 | cons n ns ih =>
  intro vs w;rw[kh] at w;cases w with
  | cons a b =>
   cases a;exact .cons _ _ (ih _ b)
def Es(hn:l.most=Ga n){args:List WData}{vals:List Gg}
  (hpre:l.row.toRowW.claim.pre args=true) (hwl:WellAll P h vals args) :
  ∃ a vs ns,vals=[jH a]/\args=[WData.list (ns.map WData.int)]/\h.get? a=Ga { cls:=.type "list",data:=.seq vs.toArray }/\IntsAre vs ns/\ns.length<=n:=by
 have hsh:WShape.hasAll [] args [.list .int]=true:=(pre_splitW hpre).1;have hc:l.pre.holds [] { args:=args }=true:=(pre_splitW hpre).2;obtain⟨d,r,rfl,h1,h2⟩:=hasAllW_cons hsh;obtain rfl:=hasAllW_nil h2;obtain⟨xs,rfl,h3⟩:=hasW_list h1;obtain⟨ns,rfl⟩:=items_int h3;have hlen:ns.length<=n:=by
  unfold OpenLaw.pre at hc;have h4:(WTm.not (.lt (.lit (.int (n:Int))) (.len (.arg 0)))).holds [] { args:=[.list (ns.map .int)] }=true:=by
   have h4:=(holds_andW hc).1;rw[hn] at h4;exact h4
  have h5:=condW_of h4 (w_not (w_lt w_lit (w_len_list (w_arg rfl))));rw[jk] at h5;refine Nat.le_of_not_lt λq=>?_;have q':(n:Int)<((ns.length:Nat):Int):=by omega
  first
   | (rw[Gc q'] at h5;exact absurd h5 (by decide))
   | (simp at h5;omega)
 cases hwl with
 | cons w1 w2 =>
  cases w2;cases w1 with
  | list ho hall=>exact⟨_,_,ns,rfl,rfl,ho,wW ns _ hall,hlen⟩
def DU (l:OpenLaw)(args:List WData):l.row.toRowW.claim.post args (.bool true) args=true :=
 postW_of (r:=l.row.toRowW) (X:=(true==true))
  (show WShape.has [] (.bool true) .bool=true by first|rfl|decide|simp[WShape.has,WShape.arms,WShape.armsAll])
  (show(WTm.eq .res (.lit (.bool true))).value [] { args:=args,res:=Ga (.bool true),after:=args }=Ga (.bool (true==true)) from w_eq_bool (w_res rfl) w_lit) rfl
def attach_call{q:Program}{loose:List Str}{XP:(Str->Option Gg)->Heap->Prop}{YP:World->Heap->Prop}{d:DefRec}
  (hn:l.most=Ga n) (hdf:d.params.defaults=[])
  (call:∀ (w:World) (s₀ s₁:Gh) (mg mb:Str->Option Gg) (fa:Gj) (o:Obj) (pm cd doc:Gg) (a:Gj) (vs:List Gg) (ns:List Int),
   Ground q loose [] XP w s₀ mg mb s₁.heap->YP w s₁.heap ->
   s₁.heap.get? fa=Ga o->o.data=.func (docDef d.name d.params d.body d.scope pm cd doc)->s₁.heap.CodeRec cd d.name->mg d.name=Ga (.ref fa) ->
   s₁.heap.get? a=Ga { cls:=.type "list",data:=.seq vs.toArray }->IntsAre vs ns->ns.length<=n->s₁.gens=#[] ->
   codeAny (model l.prog w) callerA (.call (.ref fa) ⟨[.ref a],[]⟩) (λr s'=>r=.ok (.ret (.bool true))/\OldK s₁.heap s'.heap/\s'.os=s₁.os/\AllBare s'.gens) s₁) :
  WalkO q loose XP YP l.row.toRowW d [] (λf vs=>PySem.call f vs):=by
 intro w s₀ s₁ mg mb G Y fa o pm cd doc dV kV ho hd hcd hD hmg hg args vals as hpre hlay hrd hwl hlo;obtain rfl:dV=.none:=Dflts.none hD hdf;obtain rfl:kV=.none:=Dflts.noKw hD;obtain⟨a,vs,ns,rfl,rfl,hobj,hints,hlen⟩:=Es hn hpre hwl;refine enter_call (codeAny_mono (call w s₀ s₁ mg mb fa o pm cd doc a vs ns G Y ho (fd_plain hd) hcd hmg hobj hints hlen hg) λr s' hq=>?_);obtain⟨rfl,h2,h3,h4⟩:=hq;exact⟨.inl ⟨.bool true,.bool true,[],rfl,λ_=>rfl,.bool true,DU l _,λ_=>⟨List.Pairwise.nil,λ_ hm=>(nomatch hm)⟩⟩,h2,h3,h4⟩
end Att
namespace L2
open PySem PySem.Spec PyProof.Rows
def yr:∀ {vs:List Gg} {ns:List Int},IntsAre vs ns->eC (ns.map V.int) vs
 | _,_,.nil=>.nil
 | _,_,.cons n t h=>.cons ⟨t,rfl⟩ (yr h)
abbrev dS:mz:=λ_ _ _ _ _ _=>False
abbrev E0:XK:=λ_ _ _=>False
variable {X:Cx}{K:ja}{P:Program}{base h h':Heap}{f a:Gj}{fd:Gi}{mg:Str->Option Gg}{ps:List Str}{qual x:Str}{st:Stmt}{w:World}{k:fJ}{u r:Gg}{H H':Hp}{kvs:List (fJ×V)}{v y:V}{s:Gh}{σ:St}{ω:List (Gj×Obj)}{A:Around}{E Q:Gg->Gh->Prop}{o:Option V}{pos:Pos}
def iC:gU dS X E0:=λ_ _ _ _ _ _ _ h=>h.elim
structure le (K:ja)(x qual:Str)(st:Stmt)(f:Gj)(fd:Gi):Prop where
 ex:∃ (oc:Gg) (od:Option Gj) (kV doc pm:Gg) (an:Option Gj) (cdv ct:Gg) (osl:Array (Option Gg)),
  fd=kG x qual (defArgs st) (defBody st) (defScope st) .none kV doc pm an cdv ct/\K.lookup f=Ga ⟨oc,od,.func fd,osl⟩/\uR K cdv qual=true
 kp:jR K (.ref f)=true
def le.ok{N:List Str}{k:Nat}{sp:Sp}(F:le K x qual st f fd)(S:dD N ps (defScope st))(len:∀ vs H Q E,sp vs H Q E->vs.length=ps.length)
  (hbody:∀ (cdv:Gg) (A:Around) (outer:List Env) (s:Gh) (H:Hp) (vs:List V) (Q:VK) (E:XK),eP k (A.deeper (envOfC qual (defScope st) s.heap.objs.size f cdv))->sp vs H Q E ->
   ∃ t,lc (fN dS P w K mg base N qual (defScope st) f cdv A outer s H E).nox (defBody st) t/\t { nx:=λ_ H'=>Q .non H',rt:=Q } (start N vs) H):dJ P w K mg base dS (k+1) f fd ps sp:=by
 obtain⟨oc,od,kV,doc,pm,an,cdv,ct,osl,rfl,lk,hcd⟩:=F.ex;refine rl lk hcd S len λA outer s H vs Q E hr hsp=>?_;have⟨t,h,q⟩:=hbody cdv A outer s H vs Q E hr hsp;exact⟨t,h.nox,q⟩
def le.binds(F:le K x qual st f fd)
  (h:∀ (kV doc pm:Gg) (an:Option Gj) (cdv ct:Gg) (us:List Gg),us.length=ps.length->bindArgs (kG x qual (defArgs st) (defBody st) (defScope st) .none kV doc pm an cdv ct) ⟨us,[]⟩=pure (ps.zip us)):fS K fd ps []:=by
 obtain⟨oc,od,kV,doc,pm,an,cdv,ct,osl,rfl,lk,hcd⟩:=F.ex;exact .all (h kV doc pm an cdv ct)
def Ex{oc:Gg}{od an:Option Gj}{osl:Array (Option Gg)}{kV doc pm cdv ct:Gg}(l:K.lookup f=Ga ⟨oc,od,.func (kG x qual (defArgs st) (defBody st) (defScope st) .none kV doc pm an cdv ct),osl⟩)
  (c:uR K cdv qual=true) (k:jR K (.ref f)=true):le K x qual st f (kG x qual (defArgs st) (defBody st) (defScope st) .none kV doc pm an cdv ct):=⟨⟨oc,od,kV,doc,pm,an,cdv,ct,osl,rfl,l,c⟩,k⟩
def xW {n:Nat}(h:n<=1000):n<sizeLine:=Jl h (by decide)
def mZ {A B:Prop}(h:B):if false=true then A else B:=by
 rwa[Gf jV]
def mP {A B:Prop}(h:A):if true=true then A else B:=by
 rwa[Ge rfl]
section
variable {κ:Type}[DecidableEq κ]
def oo (kvs:List (κ×V))(k:κ):Option V:=(kvs.find? λkv=>decide (kv.1=k)).map (·.2)
def rh (kvs:List (κ×V))(k:κ)(v:V):List (κ×V) :=
 if (kvs.any λkv=>decide (kv.1=k))=true then kvs.map (λkv=>if kv.1=k then(kv.1,v) else kv) else kvs++[(k,v)]
variable {k:κ}{p:κ×V}{r kvs:List (κ×V)}{vs:List (κ×Gg)}
def yW(e:p.1=k):oo (p::r) k=Ga p.2:=by simp[oo,v4,e]
def zL(e:¬p.1=k):oo (p::r) k=oo r k:=by simp[oo,v4,e]
def Ao (kvs:List (κ×V))(k:κ)(v:V):(rh kvs k v).length<=kvs.length+1:=by
 unfold rh;split
 .rw[jk];omega
 .rw[jA,jr,vp];omega
def mw.isSome_eq{u:Option Gg}(r:mw o u):o.isSome=u.isSome:=by
 cases o with
 | none=>cases u with
  | none=>rfl
  | some _=>exact(show False from r).elim
 | some _=>cases u with
  | none=>exact(show False from r).elim
  | some _=>rfl
def KV.val(r:KV kvs vs)(k:κ):mw (oo kvs k) (valueAt vs k):=by
 unfold KV at r;induction r with
 | nil=>exact True.intro
 | @cons p q ps qs h t ih =>
  obtain⟨h1,h2⟩:=h;by_cases e:p.1=k
  .have e':q.1=k:=h1.symm.trans e;have b:valueAt (q::qs) k=Ga q.2:=by simp[valueAt,v4,e']
   rwa[yW e,b]
  .have e':¬q.1=k:=λz=>e (h1.trans z);have b:valueAt (q::qs) k=valueAt qs k:=by simp[valueAt,v4,e']
   rwa[zL e,b]
def KV.any {kvs:List (κ×V)}{vs:List (κ×Gg)}(r:KV kvs vs)(k:κ):(kvs.any λkv=>decide (kv.1=k))=vs.any λkv=>decide (kv.1=k):=by
 unfold KV at r;induction r with
 | nil=>rfl
 | cons h t ih=>rw[vU,vU,ih,h.1]
def KV.repl(r:KV kvs vs)(k:κ)(ry:eL y u) :
  KV (kvs.map λkv=>if kv.1=k then(kv.1,y) else kv) (vs.map λkv=>if kv.1=k then(kv.1,u) else kv):=by
 unfold KV at r ⊢;induction r with
 | nil=>exact .nil
 | @cons p q ps qs h t ih =>
  rw[kh,kh];refine .cons ?_ ih;obtain⟨h1,h2⟩:=h;by_cases e:p.1=k
  .rw[Ge e,Ge (h1.symm.trans e)];exact⟨h1,ry⟩
  .rw[Gf e,Gf (λz=>e (h1.trans z))];exact⟨h1,h2⟩
def KV.put(r:KV kvs vs)(k:κ)(ry:eL y u):KV (rh kvs k y) (stored vs k u):=by
 unfold rh stored;rw[r.any k];by_cases e:(vs.any λkv=>decide (kv.1=k))=true
 .rw[Ge e,Ge e];exact r.repl k ry
 .rw[Gf e,Gf e];exact Paired.snoc r ⟨rfl,ry⟩
def KV.length {kvs:List (κ×V)}{vs:List (κ×Gg)}(r:KV kvs vs):kvs.length=vs.length:=Paired.length r
end
def wZ(r:eL (kV k) u):(gZ P w).is k u=true:=by
 cases k with
 | inl i=>have⟨t,e⟩:=(show ∃ t,u=uO i t from r);subst e;exact Ar P w i t
 | inr x=>have⟨t,e⟩:=(show ∃ t,u=qf x t from r);subst e;exact Aq P w x t
def Ny {u:HO}(ok:HOk P w H h)(e:Rd H a u):gH P w H h a u:=e.ok ok
def wP(ok:HOk P w H h)(e:Rd H a (.dK kvs)):kvs.length<=sizeLine/\(a==sysModules)=false/\∃ vs,KV kvs vs/\h.DictOf (gZ P w) a vs :=
 show gH P w H h a (.dK kvs) from Ny ok e
def NP(ok:HOk P w H h)(e:H a=Ga (.dK kvs)):kvs.length<=sizeLine/\(a==sysModules)=false/\∃ vs,KV kvs vs/\h.DictOf (gZ P w) a vs:=wP ok (.inl e)
def yV (H:Hp)(a:Gj)(y:V)(r:Option V):Prop :=
 ∃ kvs k,Rd H a (.dK kvs)/\y=kV k/\r=oo kvs k
def xE (H:Hp)(a:Gj)(y v:V)(H':Hp):Prop :=
 ∃ kvs k,H a=Ga (.dK kvs)/\y=kV k/\kvs.length<sizeLine/\H'=upd H a (.dK (rh kvs k v))
def xE.k9(e:H a=Ga (.dK kvs))(hl:kvs.length<sizeLine):xE H a (kV k) v (upd H a (.dK (rh kvs k v))):=⟨kvs,k,e,rfl,hl,rfl⟩
def dE.big (I:dE X ω σ H s):sysModules<s.heap.objs.size:=by
 have h:mainGlobals<s.heap.objs.size:=(I.mod.glob.keeps I.bk).lt;exact Ju (by decide) h
def DT(hu:A.units+1<cLine)(I:dE X ω σ H s)(g:yV H a y (Ga v))(ry:eL y u)(h:∀ w' s',dE X ω σ H s'->eL v w'->Q w' s') :
  wpAny (model X.prog X.w) A (getItem (.ref a) u) Q E s:=by
 obtain⟨kvs,k,e,ey,l⟩:=g;subst ey;have⟨z,hd,vs,rel,dd⟩:=wP I.hok e;obtain⟨w',hw,rw'⟩:=mw.some_of (v:=v) (o:=valueAt vs k) (by rw[l];exact rel.val k);exact wpAny_getItem_of (wZ ry) dd.mapOf hw (h w' _ (I.tok _) rw')
def HQ(hu:A.units+1<cLine)(I:dE X ω σ H s)(g:yV H a y o)(ry:eL y u)(h:∀ s',dE X ω σ H s'->Q (.bool (!o.isSome)) s') :
  wpAny (model X.prog X.w) A (compareOp .NotIn u (.ref a)) Q E s:=by
 obtain⟨kvs,k,e,ey,l⟩:=g;subst ey;have⟨z,hd,vs,rel,dd⟩:=wP I.hok e;refine wpAny_notIn_of (wZ ry) hd dd.mapOf ?_;rw[<- (rel.val k).isSome_eq,<- l];exact h _ (I.tok _)
def Bd{t':Nat}{ob:HO}(I:dE X ω σ H s)(mu:Dk (H a))(hs:kZ a s.heap h')(he:∃ q,h'.get? a=Ga q)(new:gH X.prog X.w (upd H a ob) h' a ob) :
  dE X ω σ (upd H a ob) { s with heap:=h',toks:=t' } :=
 I.write (x:=a) (e:=a) mu (.inl rfl) (λb q hb z=>(hs.2 b hb).trans z) he new
def KB{vs:List (fJ×Gg)}(z:kvs.length<=sizeLine)(hd:(a==sysModules)=false)(rel:KV kvs vs)(dd:h'.DictOf (gZ P w) a vs) :
  gH P w H' h' a (.dK kvs):=⟨z,hd,vs,rel,dd⟩
def CD{Q:Unit->Gh->Prop}(hu:A.units+1<cLine)(I:dE X ω σ H s)(g:xE H a y v H')(ry:eL y u)(rv:eL v r)(h:∀ s',dE X ω σ H' s'->Q () s') :
  wpAny (model X.prog X.w) A (setItem (.ref a) u r) Q E s:=by
 obtain⟨kvs,k,e,ey,l,eH⟩:=g;subst ey eH;have⟨z,hd,vs,rel,dd⟩:=NP I.hok e;have hz:vs.length<=sizeLine:=by rwa[<- rel.length]
 have hl:(rh kvs k v).length<=sizeLine:=by have:=Ao kvs k v;omega
 refine wpAny_setItem_pairs (hsz:=hz) (wZ ry) dd λh' dd' hs=>h _ ?_;have he:∃ q,h'.get? a=Ga q:=let ⟨q,_,_,hq,_⟩:=dd';⟨q,hq⟩
 exact Bd I (by rw[e];exact True.intro) hs he (KB hl hd (rel.put k rv) dd')
def Ae (i:Expr):Prop:=∀ ov iv,subscripted i false ov iv=operate [ov,iv] (getItem ov iv)
def Bj {prog:Program}{ψ:Env}{value slice:Expr}{T id:String}
  (hl:typeLookup (.type T) "__getitem__"=pure (Ga (.builtin id))) (hs:Ae slice)
  (h:wpAny (model prog w) A (eval value ψ) (λo s₁=>wpAny (model prog w) A (eval slice ψ) (λi s₂=>s₂.TypeIs o T/\wpAny (model prog w) A (getItem o i) Q E s₂) E s₁) E s) :
  wpAny (model prog w) A (eval (.Subscript value slice pos) ψ) Q E s:=by
 refine Subscript_ (wpAny_mono h (λo s₁ h₁=>wpAny_mono h₁ (λi s₂ h₂=>?_) λ_ _ x=>x) λ_ _ x=>x);obtain⟨hT,h₂⟩:=h₂;unfold subscriptTail;refine dv ?_;rw[getitemInPython_of_ne hT.not_modules];refine dv (wpAny_specialOf hT hl ?_);have fin:wpAny (model prog w) A (subscripted slice false o i) (λr s₃=>wpAny (model prog w) A (letTemporaryGo value o r >>= λ_=>pure r) Q E s₃) E s₂:=by
  rw[hs o i];exact wpAny_operating (wpAny_mono h₂ (λr s₃ h₃=>dv (wpAny_letTemporaryGo (dw h₃))) λ_ _ x=>x)
 first
  | exact dw (dv fin)
  | exact dv (dw (dv fin))
  | exact dv fin
def Ap(I:dE X ω σ H s)(g:yV H a y o):s.TypeIs (.ref a) "dict":=by
 obtain⟨kvs,k,e,_,_⟩:=g;have⟨_,_,vs,_,dd⟩:=wP I.hok e;exact dd.typeIs
def NA (td ty:TE):TE:=λσ H Q=>td σ H λx H1=>ty σ H1 λy H2=>∃ a v,x=.ref a/\yV H2 a y (Ga v)/\Q v H2
def HY (ty td:TE):TE:=λσ H Q=>ty σ H λy H1=>td σ H1 λx H2=>∃ a o,x=.ref a/\yV H2 a y o/\Q (.bl (!o.isSome)) H2
def NS (td ty tv:TE):TS:=λD σ H=>tv σ H λv H1=>td σ H1 λx H2=>ty σ H2 λy H3=>∃ a H4,x=.ref a/\xE H3 a y v H4/\D.nx σ H4
section
variable {X:Cx}{o i e value:Expr}{pos pos' tpos:Pos}{td ty tv:TE}
def Bq (hu:X.A.units+1<cLine)(ho:PE X o td)(hi:PE X i ty)(hs:Ae i):PE X (.Subscript o i pos) (NA td ty):=by
 intro ω s σ H Q I h;refine Bj qm.lookup hs (eV (ho ω s σ H _ I h) λu s1 ⟨x,H1,I1,rx,q1⟩=>eV (hi ω s1 σ H1 _ I1 q1) λiv s2 ⟨y,H2,I2,ry,a,v,ex,g,q2⟩=>?_);subst ex;obtain rfl:u=jH a:=rx;exact⟨Ap I2 g,DT hu I2 g ry λw' s3 I3 rw'=>⟨v,H2,I3,rw',q2⟩⟩
def Dx (hu:X.A.units+1<cLine)(hi:PE X i ty)(ho:PE X o td):PC X .NotIn i o (HY ty td):=by
 intro ω s σ H Q I h;refine eV (hi ω s σ H _ I h) λiv s1 ⟨y,H1,I1,ry,q1⟩=>eV (ho ω s1 σ H1 _ I1 q1) λu s2 ⟨x,H2,I2,rx,a,ov,ex,g,q2⟩=>?_;subst ex;obtain rfl:u=jH a:=rx;exact HQ hu I2 g ry λs3 I3=>⟨.bl (!ov.isSome),H2,I3,rfl,q2⟩
def Au (hu:X.A.units+1<cLine)(ho:PE X o td)(hi:PE X i ty)(hv:PE X value tv)(hs:swapsWith value (Ga (.Subscript o i pos')) pos.line X.env=pure false) :
  PS X (.Assign [.Subscript o i pos'] value pos) (NS td ty tv):=by
 intro ω s σ H D I h;refine wpAny_Assign_Subscript (eV (hv ω s σ H _ I h) λr s1 ⟨v,H1,I1,rv,q1⟩=>eV (ho ω s1 σ H1 _ I1 q1) λu s2 ⟨x,H2,I2,rx,q2⟩=>eV (hi ω s2 σ H2 _ I2 q2) λiv s3 ⟨y,H3,I3,ry,a,H4,ex,g,q3⟩=>?_) hs;subst ex;obtain rfl:u=jH a:=rx;exact CD hu I3 g ry rv λs4 I4=>⟨σ,H4,I4,q3⟩
end
def ER(h:Heap)(hb:sysModules<h.objs.size):gH P w H (h.push { cls:=.type "dict",data:=.dict #[] }) h.objs.size (.dK []) :=
 ⟨ku _,beq_eq_false_iff_ne.mpr (kW (jB hb)),[],.nil,Heap.DictOf.new h⟩
def Iv:TE:=λ_ H Q=>∀ p,H p=Gb->Q (.ref p) (upd H p (.dK []))
def Am:PE X (.Dict [] [] pos) Iv:=λω s σ H Q I h =>
 wpAny_Dict_empty ⟨.ref s.heap.objs.size,_,I.laid (a:=s.heap.objs.size) (o:=.dK []) (t':=s.toks) (λ_ _ q=>jb _ q) (jw _) (ER s.heap I.big),rfl,h _ (I.hok.fresh (jw _))⟩
end L2
set_option autoImplicit false
namespace T3
open PySem PySem.Spec
noncomputable instance decD:DecidableEq PyData:=λa b=>Classical.propDecidable (a=b)
mutual
def eQ:PyData->Nat->Bool
 | .none,_=>true
 | .int _,_=>true
 | .tuple _,0=>false
 | .tuple xs,n+1=>hJ xs n
 | .bool _,_=>false
 | .str _,_=>false
 | .list _,_=>false
 | .dict _,_=>false
def hJ:List PyData->Nat->Bool
 | [],_=>true
 | x::xs,n=>eQ x n&&hJ xs n
end
mutual
def oM:PyData->Int
 | .int i=>hashInt i
 | .tuple xs=>reduceHash (k7 (gC xs))
 | _=>0xFCA86420
def gC:List PyData->List Int
 | []=>[]
 | x::xs=>oM x::gC xs
end
mutual
def oF:PyData->Nat
 | .tuple xs=>hG xs+1
 | _=>1
def hG:List PyData->Nat
 | []=>0
 | x::xs=>oF x+hG xs
end
mutual
def Ec:∀ (d:PyData) (n:Nat),eQ d n=true->d.canLay0=true/\d.depth<=n
 | .none,_,_=>⟨rfl,ku _⟩
 | .int _,_,_=>⟨rfl,ku _⟩
 | .tuple xs,0,h=>by simp[eQ] at h
 | .tuple xs,n+1,h=>by
  rw[eQ] at h;have:=Uq xs n h;exact⟨this.1,vR this.2⟩
 | .bool _,_,h=>by simp[eQ] at h
 | .str _,_,h=>by simp[eQ] at h
 | .list _,_,h=>by simp[eQ] at h
 | .dict _,_,h=>by simp[eQ] at h
def Uq:∀ (xs:List PyData) (n:Nat),hJ xs n=true->ug xs=true/\uH xs<=n
 | [],_,_=>⟨rfl,ku _⟩
 | x::xs,n,h=>by
  rw[hJ,ju] at h;have a:=Ec x n h.1;have b:=Uq xs n h.2;refine⟨?_,?_⟩
  .rw[ug,a.1,b.1];rfl
  .rw[uH];omega
end
mutual
def Wt:∀ (a b:PyData) (n m:Nat),eQ a n=true->eQ b m=true->kQ a b=true->a=b
 | .none,.none,_,_,_,_,_=>rfl
 | .none,.int _,_,_,_,_,h=>by simp[kQ] at h
 | .none,.tuple _,_,_,_,_,h=>by simp[kQ] at h
 | .int _,.none,_,_,_,_,h=>by simp[kQ] at h
 | .int i,.int j,_,_,_,_,h=>by simp only[kQ] at h;rw[beq_iff_eq] at h;rw[h]
 | .int _,.tuple _,_,_,_,_,h=>by simp[kQ] at h
 | .tuple _,.none,_,_,_,_,h=>by simp[kQ] at h
 | .tuple _,.int _,_,_,_,_,h=>by simp[kQ] at h
 | .tuple xs,.tuple ys,0,_,p,_,_=>by simp[eQ] at p
 | .tuple xs,.tuple ys,_+1,0,_,q,_=>by simp[eQ] at q
 | .tuple xs,.tuple ys,n+1,m+1,p,q,h=>by rw[kQ] at h;rw[eQ] at p q;rw[UL xs ys n m p q h]
 | .bool _,_,_,_,p,_,_=>by simp[eQ] at p
 | .str _,_,_,_,p,_,_=>by simp[eQ] at p
 | .list _,_,_,_,p,_,_=>by simp[eQ] at p
 | .dict _,_,_,_,p,_,_=>by simp[eQ] at p
 | .none,.bool _,_,_,_,q,_=>by simp[eQ] at q
 | .none,.str _,_,_,_,q,_=>by simp[eQ] at q
 | .none,.list _,_,_,_,q,_=>by simp[eQ] at q
 | .none,.dict _,_,_,_,q,_=>by simp[eQ] at q
 | .int _,.bool _,_,_,_,q,_=>by simp[eQ] at q
 | .int _,.str _,_,_,_,q,_=>by simp[eQ] at q
 | .int _,.list _,_,_,_,q,_=>by simp[eQ] at q
 | .int _,.dict _,_,_,_,q,_=>by simp[eQ] at q
 | .tuple _,.bool _,_,_,_,q,_=>by simp[eQ] at q
 | .tuple _,.str _,_,_,_,q,_=>by simp[eQ] at q
 | .tuple _,.list _,_,_,_,q,_=>by simp[eQ] at q
 | .tuple _,.dict _,_,_,_,q,_=>by simp[eQ] at q
def UL:∀ (xs ys:List PyData) (n m:Nat),hJ xs n=true->hJ ys m=true->qy xs ys=true->xs=ys
 | [],[],_,_,_,_,_=>rfl
 | [],_::_,_,_,_,_,h=>by simp[qy] at h
 | _::_,[],_,_,_,_,h=>by simp[qy] at h
 | x::xs,y::ys,n,m,p,q,h=>by
  rw[qy,ju] at h;rw[hJ,ju] at p q;rw[Wt x y n m p.1 q.1 h.1,UL xs ys n m p.2 q.2 h.2]
end
mutual
def Ue {h h':Heap}{d0:Gj}{o:Obj}{es:Array DictEntry}{ep:Nat}(ho:h.get? d0=Ga o)(hd:o.data=.dict es ep)(hs:kZ d0 h h'):∀ (d:PyData) (n:Nat) (v:Gg) (as:List Gj),eQ d n=true->Reads h v d as->Reads h' v d as
 | .none,_,_,_,_,.none=>.none
 | .int _,_,_,_,_,.int i t=>.int i t
 | .tuple _,0,_,_,k,_=>by simp[eQ] at k
 | .tuple xs,n+1,_,_,k,.tuple (a:=a) (o:=o') h1 h2 h3 h4=>by
  rw[eQ] at k;have hne:a≠d0:=by
   rintro rfl;have:o'=o:=jM (h1.symm.trans ho);rw[this,hd] at h3;cases h3
  exact .tuple ((hs.2 a hne).trans h1) h2 h3 (Qn ho hd hs xs n _ _ k h4)
 | .bool _,_,_,_,k,_=>by simp[eQ] at k
 | .str _,_,_,_,k,_=>by simp[eQ] at k
 | .list _,_,_,_,k,_=>by simp[eQ] at k
 | .dict _,_,_,_,k,_=>by simp[eQ] at k
def Qn {h h':Heap}{d0:Gj}{o:Obj}{es:Array DictEntry}{ep:Nat}(ho:h.get? d0=Ga o)(hd:o.data=.dict es ep)(hs:kZ d0 h h'):∀ (xs:List PyData) (n:Nat) (vs:List Gg) (as:List Gj),hJ xs n=true->ReadsAll h vs xs as->ReadsAll h' vs xs as
 | [],_,_,_,_,.nil=>.nil
 | x::xs,n,_,_,k,.cons h1 h2=>by
  rw[hJ,ju] at k;exact .cons (Ue ho hd hs x n _ _ k.1 h1) (Qn ho hd hs xs n _ _ k.2 h2)
end
section
variable {prog:Program}{w:World}
def ZA {A:Around}{E:Gg->Gh->Prop}{s:Gh}{Q:Int->Gh->Prop}(h:Q 0xFCA86420 { s with toks:=s.toks+1 }):wpAny (model prog w) A (pyHash .none) Q E s:=by
 have hT:s.TypeIs .none "NoneType":=rfl;unfold pyHash;have hv:[jC].any Value.onHeap=false:=rfl;refine dv ?_;rw[cRoomFor,Gf (by rw[hv];exact jV)];refine dw (dv (wpAny_specialOf hT PySem.F.slot_NoneType_hash.lookup ?_));show wpAny _ _ (if (Ga (uZ "NoneType.__hash__")==Ga jC)=true then _ else _) Q E s;rw[Gf (by rw[beq_builtin_none];exact jV)];refine dv (wpAny_specialOf hT PySem.F.slot_NoneType_hash.lookup ?_);show wpAny _ _ (callSpecialIfBoundUnlessNone? .none "__hash__" _ >>= _) Q E s;refine dv (wpAny_callSpecialIfBoundUnlessNone?_slot hT PySem.F.slot_NoneType_hash (wpAny_call_entry PySem.F.slot_NoneType_hash hT PySem.F.entry_NoneType_hash (show wpAny _ _ (do ret (<- mkInt 0xFCA86420)) _ _ s from wpAny_ret_mkInt ?_) (PySem.F.args_NoneType_hash_1 _)));show wpAny _ _ (if (decide (-(2:Int)^63<=0xFCA86420)&&decide ((0xFCA86420:Int)<2^63))=true then _ else _) Q E _;rw[Ge (by decide)];exact dw h
def xh (prog:Program)(w:World)(d:PyData):Prop:=∀ (A:Around) (E:Gg->Gh->Prop) (s:Gh) (v:Gg) (as:List Gj) (Q:Int->Gh->Prop),A.units+d.depth<cLine->Reads s.heap v d as->Q (oM d) { s with toks:=s.toks+oF d }->wpAny (model prog w) A (pyHash v) Q E s
def SJ:∀ (xs ys:List PyData),gC (xs++ys)=gC xs++gC ys
 | [],ys=>by rw[gC];rfl
 | x::xs,ys=>by rw[kM,gC,gC,SJ xs ys];rfl
def UF:∀ (xs ys:List PyData),hG (xs++ys)=hG xs+hG ys
 | [],ys=>by rw[hG];exact(qK _).symm
 | x::xs,ys=>by rw[kM,hG,hG,UF xs ys,vV]
def SV:∀ {xs:List PyData} {x:PyData},x∈xs->x.depth<=uH xs
 | y::ys,x,h=>by
  rw[uH];rcases jz.mp h with rfl|h
  .omega
  .have:=SV h;omega
variable {xs:List PyData}
def zAE(IH:∀ x∈xs,xh prog w x):xh prog w (.tuple xs):=by
 intro A E s v as Q hu r q;cases r with
 | @tuple a o vs n' _ _ h1 h2 h3 h4 =>
  rw[oM,oF] at q;have hT:s.TypeIs (.ref a) "tuple":=⟨o,h1,h2⟩;have hu':A.units+(uH xs+1)<cLine:=hu;unfold pyHash;unfold pyHashByItsType;refine dv (wpAny_cRoomFor_or (.inr (by omega)) ?_);refine dv (wpAny_specialOf hT PySem.F.slot_tuple_hash.lookup ?_);show wpAny _ _ (if (Ga (uZ "tuple.__hash__")==Ga jC)=true then _ else _) Q E s;rw[Gf (by rw[beq_builtin_none];exact jV)];refine dv (wpAny_specialOf hT PySem.F.slot_tuple_hash.lookup ?_);show wpAny _ _ (callSpecialIfBoundUnlessNone? (.ref a) "__hash__" _ >>= _) Q E s;refine dv (wpAny_callSpecialIfBoundUnlessNone?_slot hT PySem.F.slot_tuple_hash (wpAny_call_entry PySem.F.slot_tuple_hash hT PySem.F.entry_tuple_hash ?_ (PySem.F.args_tuple_hash_1 _)));show wpAny _ _ (vd (.ref a) >>= _) _ _ s;refine dv (wpAny_tupleItemsOf h1 h3 ?_);refine dv ?_;rw[<- Jm];refine wpAny_forIn_list _
   (λrest (b:Array Int) s'=>∃ dn lf bs,xs=dn++lf/\ReadsAll s.heap rest lf bs/\b.toList=gC dn/\s'={ s with toks:=s.toks+hG dn })
   _ ?_ ?_ _ _ ⟨[],xs,_,rfl,h4,rfl,rfl⟩
  .rintro x rest b s' ⟨dn,lf,bs,e,hl,hb,rfl⟩;cases hl with
   | @cons _ _ d ds as1 bs1 r1 r2 =>
    have hm:d∈xs:=by rw[e];exact jU _ jh
    have hd:=SV hm;refine dv (IH d hm A.in1 _ _ x as1 _ (by show A.units+1+d.depth<cLine;omega) r1 ?_);have z:∃ dn' lf' bs',xs=dn'++lf'/\ReadsAll s.heap rest lf' bs'/\(b.push (oM d)).toList=gC dn'/\({ s with toks:=s.toks+hG dn+oF d }:Gh)={ s with toks:=s.toks+hG dn' }:=by
     refine⟨dn++[d],ds,bs1,by rw[e,ub];rfl,r2,?_,?_⟩
     .rw[u7,hb,SJ];rw[gC,gC]
     .rw[UF,hG,hG,Nat.add_zero,vV]
    first
     | exact dw z
     | exact dv (dw (dw z))
  .rintro b s' ⟨dn,lf,bs,e,hl,hb,rfl⟩;cases hl;rw[jJ] at e;subst e;show wpAny _ _ (retInt (k7 b.toList)) _ _ _;rw[hb];refine wpAny_ret_mkInt ?_;show wpAny _ _ (if (decide (-(2:Int)^63<=k7 (gC xs))&&decide (k7 (gC xs)<2^63))=true then _ else _) Q E _;unfold reduceHash at q;by_cases hr:(decide (-(2:Int)^63<=k7 (gC xs))&&decide (k7 (gC xs)<2^63))=true
   .rw[Ge hr] at q ⊢;exact dw (by simpa [vV] using q)
   .rw[Gf hr] at q ⊢;exact dv (wpAny_rule (dw (by simpa [vV] using q)))
mutual
def SG:∀ (d:PyData) (n:Nat),eQ d n=true->xh prog w d
 | .none,_,_=>λA E s v as Q _ r q=>by cases r;exact ZA (by rw[oM,oF] at q;exact q;all_goals exact λ_ z=>by cases z)
 | .int i,_,_=>λA E s v as Q _ r q=>by cases r;exact wpAny_pyHash_int (by rw[oM,oF] at q;exact q;all_goals exact λ_ z=>by cases z)
 | .tuple _,0,k=>by simp[eQ] at k
 | .tuple xs,n+1,k=>by rw[eQ] at k;exact zAE (UJ xs n k)
 | .bool _,_,k=>by simp[eQ] at k
 | .str _,_,k=>by simp[eQ] at k
 | .list _,_,k=>by simp[eQ] at k
 | .dict _,_,k=>by simp[eQ] at k
def UJ:∀ (xs:List PyData) (n:Nat),hJ xs n=true->∀ x∈xs,xh prog w x
 | [],_,_,x,h=>by cases h
 | y::ys,n,k,x,h=>by
  rw[hJ,ju] at k;rcases jz.mp h with e|h
  .rw[e];exact SG y n k.1
  .exact UJ ys n k.2 x h
end
def sV (prog:Program)(w:World)(n:Nat)(d:PyData):Prop:=∀ (A:Around) (E:Gg->Gh->Prop) (s:Gh) (v:Gg) (as:List Gj) (Q:Bool->Gh->Prop),Reads s.heap v d as->Q true s->wpAny (model prog w) A (eqIsQuiet n v) Q E s
def zxG{n:Nat}(IH:∀ x∈xs,sV prog w n x):sV prog w (n+1) (.tuple xs):=by
 intro A E s v as Q r q;cases r with
 | @tuple a o vs n' _ _ h1 h2 h3 h4 =>
  have hT:s.TypeIs (.ref a) "tuple":=⟨o,h1,h2⟩;unfold eqIsQuiet;refine dv (wpAny_specialOf hT PySem.F.slot_tuple_eq.lookup ?_);show wpAny _ _ (isInstance (.ref a) (.type "tuple") >>= _) _ _ s;refine dv (wpAny_isInstance hT isSubtype_tuple_tuple ?_);simp only[Jh,kH,if_false];refine dv (wpAny_seqItems h1 h3 (dv ?_));show wpAny _ _ (forIn vs _ _) _ _ s;rw[<- Jm];refine wpAny_forIn_list _ (λrest r s'=>r.1=Gb/\s'=s/\∃ lf bs,ReadsAll s.heap rest lf bs/\∀ x∈lf,x∈xs) _ ?_ ?_ _ _ ⟨rfl,rfl,xs,_,h4,λ_ z=>z⟩
  .rintro x rest r s' ⟨hr,rfl,lf,bs,hl,hm⟩;cases hl with
   | @cons _ _ d ds as1 bs1 r1 r2 =>
    refine dv (IH d (hm d jh) _ _ _ x as1 _ r1 ?_);simp only[Jh,kH,if_false];exact dw ⟨rfl,rfl,ds,bs1,r2,λy hy=>hm y (jd _ hy)⟩
  .rintro⟨b1,b2⟩ s' ⟨hr,rfl,_⟩;simp only at hr;subst hr;exact dw q
mutual
def VN:∀ (d:PyData) (n:Nat),eQ d n=true->sV prog w n d
 | .none,n,_=>λA E s v as Q r q=>by cases r;rw[eqIsQuiet_byValue n rfl];exact dw q
 | .int i,n,_=>λA E s v as Q r q=>by cases r;rw[eqIsQuiet_byValue n rfl];exact dw q
 | .tuple _,0,k=>by simp[eQ] at k
 | .tuple xs,n+1,k=>by rw[eQ] at k;exact zxG (Vn xs n k)
 | .bool _,_,k=>by simp[eQ] at k
 | .str _,_,k=>by simp[eQ] at k
 | .list _,_,k=>by simp[eQ] at k
 | .dict _,_,k=>by simp[eQ] at k
def Vn:∀ (xs:List PyData) (n:Nat),hJ xs n=true->∀ x∈xs,sV prog w n x
 | [],_,_,x,h=>by cases h
 | y::ys,n,k,x,h=>by
  rw[hJ,ju] at k;rcases jz.mp h with e|h
  .rw[e];exact VN y n k.1
  .exact Vn ys n k.2 x h
end
noncomputable def wf (prog:Program)(w:World):HeapKind prog w PyData where
 is:=λh d a=>eQ d 8=true/\∃ as,Reads h (.ref a) d as
 hash:=oM
 draws:=oF
 room:=λA=>A.units+20<cLine
 inj:=λ{h a x y} hx hy=>SeqAt.Reads.unique x y _ _ _ (Ec x 8 hx.1).1 hx.2.choose_spec hy.2.choose_spec
 keeps:=λ{h h' k a d o es ep} x ho hd hs=>⟨x.1,_,Ue ho hd hs k 8 _ _ x.1 x.2.choose_spec⟩
 pyHash:=λ{A E s k a Q} hu hk q=>SG k 8 hk.1 A E s _ _ Q (by have:=(Ec k 8 hk.1).2;omega) hk.2.choose_spec q
 eqBool:=λ{A E s x y a b Q} hu hx hy q=>by
  have l1:=Ec x 8 hx.1;have l2:=Ec y 8 hy.1;refine SeqAt.eqAt_reads x y A s (.ref a) (.ref b) _ _ hx.2.choose_spec hy.2.choose_spec l1.1 l2.1 (by omega) prog w E Q ?_;have e:kQ x y=decide (x=y):=by
   rw[uI,decide_eq_true_eq];exact⟨λz=>Wt x y 8 8 hx.1 hy.1 z,λz=>by rw[z];exact SeqAt.eqv_refl y l2.1⟩
  rwa[e]
 quiet:=λ{A E s k a Q} hk q=>VN k 8 hk.1 A E s _ _ Q hk.2.choose_spec q
end
def mx (h:Heap)(d:Gj)(es:Array DictEntry)(ep:Nat):Prop:=∃ o,h.get? d=Ga o/\o.ExactDict/\o.data=.dict es ep
variable {d it:Gj}{ep i:Nat}{es:Array DictEntry}{s:Gh}{h h':Heap}{A:Around}{E:Gg->Gh->Prop}{prog:Program}{w:World}{Q:Option Gg->Gh->Prop}
def mx.ty(x:mx s.heap d es ep):s.TypeIs (.ref d) "dict":=let ⟨o,ho,hc,_⟩:=x;⟨o,ho,hc.1⟩
def mx.kept(x:mx h d es ep)(k:∀ o,h.get? d=Ga o->h'.get? d=Ga o):mx h' d es ep:=let ⟨o,ho,r⟩:=x;⟨o,k _ ho,r⟩
def zAF{Q:Gg->Gh->Prop}(hd:(d==sysModules)=false)(hm:mx s.heap d es ep)
  (hQ:Q (.ref s.heap.objs.size) { s with heap:=s.heap.push { cls:=.type "dict_keyiterator",data:=.fields #[.ref d,.int 0 0,.int es.size 0,.int ep 0] } }):wpAny (model prog w) A (pyIter (.ref d)) Q E s:=by
 have hT:=hm.ty;obtain⟨o,ho,hc,hdat⟩:=hm;refine wpAny_pyIter_slot hT PySem.F.slot_dict_iter (wpAny_call_entry PySem.F.slot_dict_iter hT PySem.F.entry_dict_iter ?_ (PySem.F.args_dict_iter_1 _));unfold Builtin.«dict.__iter__» Builtin.Dict.dictSlotNone;refine dv (dv (wpAny_notOrdered_dict hT ?_));show wpAny _ _ (pure (jH d)) _ _ s;refine dw ?_;show wpAny _ _ (qT d >>= _) _ _ s;unfold qT;rw[Gf (by rw[hd];exact jV)];refine dv (dw (dv (wpAny_dictEntries ho hdat (dv (wpAny_dictEpoch ho hdat ?_)))));exact dv (wpAny_newObj_type (dw ⟨_,rfl,"dict_keyiterator",_,⟨_,jm _ rfl,rfl⟩,PySem.F.slot_dict_keyiterator_next.lookup,hQ⟩))
def zAG{e:DictEntry}(hit:s.heap.IsKeyIter it d i es.size ep)(hm:mx s.heap d es ep)(hx:es[i]?=Ga e)
  (hQ:∀ h',h'.IsKeyIter it d (i+1) es.size ep->kZ it s.heap h'->Q (Ga e.key) { s with heap:=h' }):wpAny (model prog w) A (pyNext (.ref it)) Q E s:=by
 have⟨o,ho,hc,hd⟩:=id hit;have⟨od,hod,hcd,hdd⟩:=id hm;unfold pyNext;refine dv (wpAny_attempt (wpAny_callSpecial?_slot (name:=jv "__next__") hit.typeIs PySem.F.slot_dict_keyiterator_next (wpAny_call_entry PySem.F.slot_dict_keyiterator_next hit.typeIs PySem.F.entry_dict_keyiterator_next ?_ (PySem.F.args_dict_keyiterator_next_1 _))));refine dv (dw (dv (dv ?_)))
 first|refine dv (wpAny_typeNameOfWhole_keyiter hit.typeIs (dw ?_))|refine dv (wpAny_typeNameOf_keyiter hit.typeIs (dw ?_))
 refine dv (wpAny_fieldsOf ho hd ?_);simp only[show v6 "dict_keyiterator"=false by decide,kH,if_false];show wpAny _ _ (if (jH d==jC)=true then _ else _) _ _ s;rw[Gf (show ¬((jH d==jC)=true) from jV)];refine dv (dw (dv (wpAny_dictEntries hod hdd ?_)));rw[Gf (by simp)];refine dv (dw (dv (wpAny_dictEpoch hod hdd ?_)));rw[Gf (by simp)];refine dw ?_;simp only[show ¬((i:Int)<0) from by omega,if_false,um,hx];refine dv ?_
 first|refine dv (wpAny_typeNameOfWhole_keyiter hit.typeIs (dw ?_))|refine dv (wpAny_typeNameOf_keyiter hit.typeIs (dw ?_))
 refine dv (wpAny_isOneOf_keyiter hit.typeIs ?_);show wpAny _ _ (setField (.ref it) 1 (rawInt ((i:Int)+1)) >>= _) _ _ s;refine dv (wpAny_setField ho hd (by simp) ?_);have hit':(s.heap.update it (kf (·.setIfInBounds 1 (rawInt ((i:Int)+1))))).IsKeyIter it d (i+1) es.size ep :=
  ⟨_,jI _ ho (kA (j8 hd _)),(vH ..).trans hc,by rw[j8 hd];simp[rawInt]⟩
 refine dv (wpAny_holding (dv (wpAny_isOneOf_keyiter (s:={ s with heap:=s.heap.update it (kf (·.setIfInBounds 1 (rawInt ((i:Int)+1)))) }) hit'.typeIs ?_)));show wpAny _ _ (pure e.key) _ _ _;exact dw (dw ⟨_,rfl,dw (hQ _ hit' (ko ..))⟩)
def zAH(hh:A.handled=Gb)(hit:s.heap.IsKeyIter it d i es.size ep)(hm:mx s.heap d es ep)(hx:es.size<=i)
  (hQ:∀ h',Heap.ExtBut it s.heap h'->Q Gb { s with heap:=h' }):wpAny (model prog w) A (pyNext (.ref it)) Q E s:=by
 have⟨o,ho,hc,hd⟩:=id hit;have⟨od,hod,hcd,hdd⟩:=id hm;unfold pyNext;refine dv (wpAny_attempt (wpAny_callSpecial?_slot (name:=jv "__next__") hit.typeIs PySem.F.slot_dict_keyiterator_next (wpAny_call_entry PySem.F.slot_dict_keyiterator_next hit.typeIs PySem.F.entry_dict_keyiterator_next ?_ (PySem.F.args_dict_keyiterator_next_1 _))));refine dv (dw (dv (dv ?_)))
 first|refine dv (wpAny_typeNameOfWhole_keyiter hit.typeIs (dw ?_))|refine dv (wpAny_typeNameOf_keyiter hit.typeIs (dw ?_))
 refine dv (wpAny_fieldsOf ho hd ?_);simp only[show v6 "dict_keyiterator"=false by decide,kH,if_false];show wpAny _ _ (if (jH d==jC)=true then _ else _) _ _ s;rw[Gf (show ¬((jH d==jC)=true) from jV)];refine dv (dw (dv (wpAny_dictEntries hod hdd ?_)));rw[Gf (by simp)];refine dv (dw (dv (wpAny_dictEpoch hod hdd ?_)));rw[Gf (by simp)];refine dw ?_;simp only[show ¬((i:Int)<0) from by omega,if_false,um,ux hx];refine dv ?_
 first|refine dv (wpAny_typeNameOfWhole_keyiter hit.typeIs (dw ?_))|refine dv (wpAny_typeNameOf_keyiter hit.typeIs (dw ?_))
 show wpAny _ _ (setField (.ref it) 0 .none >>= _) _ _ s;refine dv (wpAny_setField ho hd (by simp) ?_);show wpAny _ _ (newExc (.type "StopIteration") [] >>= _) _ _ _;refine dv ?_;simp only[newExc,newTuple];refine dv (wpAny_newObj_type (dv (m:=firstArgMember _ _) (wpAny_of_eq (a:=jC) (by first|rfl|(simp only[firstArgMember];rfl)) (wpAny_newObj_type ?_ (by size_fits)))) (by size_fits));simp only[raiseNew];refine dv (wpAny_handled ?_);rw[show A.in1.handled=Gb from hh];refine dv (dw (wpAny_throw ?_));refine(dv (wpAny_isInstance (T:="StopIteration") (b:=true) ⟨_,jm _ rfl,rfl⟩ isSubtype_stop ?_));exact dw (hQ _ (((ko ..).extBut.push _).push _))
def zxH (hh:A.handled=Gb)(I d:Gj)(hne:d≠I)(es:Array DictEntry)(ep:Nat) :
  Walks prog w A I [I,d] [I] es.size (λi v=>∃ e,es[i]?=Ga e/\v=e.key) (λi h=>h.IsKeyIter I d i es.size ep/\mx h d es ep) where
 sub:=λb hb=>by simp at hb;simp[hb]
 frame:=λ_ _ _ st hk=>⟨st.1.at λo e=>hk I (by simp) o e,st.2.kept λo e=>hk d (by simp) o e⟩
 item:=λi s Q E hi st hQ=>by
  have hx:es[i]?=Ga es[i]:=kE hi;refine zAG st.1 st.2 hx λh' hit' hs'=>?_;exact hQ _ h' s.toks ⟨_,hx,rfl⟩ ⟨hit',st.2.kept λo eo=>(hs'.2 d hne).trans eo⟩ λb o hb eo=>hs'.extBut b o (λh=>hb (by simp[h])) eo
 done:=λs Q E st hQ=>zAH hh st.1 st.2 (jw _) λh' he'=>hQ h' s.toks λb o hb eo=>he' b o (λh=>hb (by simp[h])) eo
 self:=λ_ _ _ _ st hQ=>wpAny_pyIter_keyiter st.1 hQ
open PySem PySem.Spec PyProof.Rows L2
abbrev St:=L2.St
abbrev D:=PySem.PyData
def fA (H:Hp)(l:List Gg):Prop:=TriplesOk l/\∀ pos cv,codeAmong pos l=Ga cv->∃ c o vs,∃ v:Str×Tok,cv=.ref c/\H c=Ga (.frz o (.own c))/\o.data=.fields vs/\vs[1]?=Ga (.str v.1 v.2)
def Gr (H:Hp)(o:HO)(H':Hp)(x:Option HO):Prop:=match o with
 | .tbl ps=>∃ qs,x=Ga (.tbl qs)/\(fA H ps.toList->fA H' qs.toList)
 | o=>x=Ga o
variable {H H' H2 H1 H0 F F1 F' G H₀:Hp}{o ob o':HO}{x:Option HO}{K:ja}{a C D0 c0 Pt L:Gj}{xs ys:List V}{l vs its:List Gg}{u:Option V}{σ:St}{v:V}{d:D}{ds rs ks:List D}{X:Cx}{e b c tg iter elt:Expr}{t':TT}{α:Type}{pos p p2 pos' px py spos lpos:Pos}{es rest ifs:List Expr}{r r':R2}{op op':CmpOp}{g':Int->Int->D}{Q:Gg->Gh->Prop}{ω:List (Gj×Obj)}{te:TE}{T:String}{st:Stmt}{k j n:Nat}{body:List Stmt}{scope:Scope}{R:Result->Gh->Prop}{cl:List (Str×Gj)}{fp as cs fs:List Gj}{J:It}{Qv:Gj->Hp->Prop}{RR:Gg->Gj->Result->Gh->Prop}{fr nb N ps:List Str}{ix:List Nat}{s2 s₀:Gh}{tn:Nat->Heap->Prop}{y qual q msg:Str}{P:Program}{base h1 h0 h2:Heap}{fd:Gi}{mg:Str->Option Gg}{fm:List D->Option D}{k':D->D->Option D}{cdv cd cls:Gg}{is ns:List Int}{m:Int}{outer:List Env}{params:Arguments}{φ:D->Option D}{oy oe:Obj}{M:Model}{sl:Array (Option Gg)}
def Gr.some(g:Gr H o H' x):∃ u,x=Ga u:=by
 cases o<;>first|exact⟨_,g⟩|exact⟨_,g.choose_spec.1⟩
def Gr.of(e:x=Option.some o)(g:∀ l,fA H l->fA H' l):Gr H o H' x:=by
 cases o<;>first|exact e|exact⟨_,e,g _⟩
def Gr.to(a:Gr H o H' x)(g:∀ l,fA H' l->fA H2 l):Gr H o H2 x:=by
 cases o<;>first|exact a|exact⟨a.choose,a.choose_spec.1,λz=>g _ (a.choose_spec.2 z)⟩
def dA (H H':Hp):Prop:=∀ b o,H b=Ga o->Gr H o H' (H' b)
def dA.refl (H:Hp):dA H H:=λ_ _ h=>.of h λ_ z=>z
def dA.trans(a:dA H H1)(b:dA H1 H2):dA H H2:=λc o h=>by
 have g:=a c o h;cases o<;>first
  | exact b c _ g
  | (obtain⟨qs,e,k⟩:=g
     have⟨rs,e2,k2⟩:=b c _ e;exact⟨rs,e2,λz=>k2 (k z)⟩)
def dA.free(e:dA H H'){l:Gj}(h:H' l=Option.none):H l=Option.none:=by
 cases q:H l with
 | none=>rfl
 | some o =>
  have⟨u,z⟩:=(e l o q).some;rw[z] at h;cases h
def dA.seq(e:dA H H')(h:fQ K H a xs):fQ K H' a xs:=by
 rcases h with (h|⟨o,h⟩)|h
 .exact .inl (.inl (e _ _ h))
 .exact .inl (.inr ⟨o,e _ _ h⟩)
 .exact .inr h
def fA.updG(m:∀ o u,H a≠Ga (.frz o u))(g:fA H l):fA (upd H a ob) l :=
 ⟨g.1,λpos cv e=>by
  have⟨c,o,vs,v,e1,e2,e3⟩:=g.2 pos cv e;exact⟨c,o,vs,v,e1,by rwa[dG (λz=>by subst z;exact m _ _ e2)],e3⟩⟩
def fA.sub(m:∀ c o,H c=Ga o->H' c=Ga o)(g:fA H l):fA H' l :=
 ⟨g.1,λpos cv e=>by
  have⟨c,o,vs,v,e1,e2,e3⟩:=g.2 pos cv e;exact⟨c,o,vs,v,e1,m _ _ e2,e3⟩⟩
def dA.of {H H':Hp}(m:∀ c o,H c=Ga o->H' c=Ga o):dA H H':=λb o h=>.of (m b o h) λ_ z=>z.sub m
def Gr.from(a:Gr H o H' x)(g:∀ l,fA H1 l->fA H l):Gr H1 o H' x:=by
 cases o<;>first|exact a|exact⟨a.choose,a.choose_spec.1,λz=>a.choose_spec.2 (g _ z)⟩
def dA.put(s:dA H0 H)(n:H0 a=Gb)(m:∀ o u,H a≠Ga (.frz o u)):dA H0 (upd H a ob):=λb o h=>by
 rw[dG (fP h n)];exact(s b o h).to λ_=>fA.updG m
def dA.new(n:H a=Gb):dA H (upd H a ob):=(dA.refl H).put n λo u z=>by rw[n] at z;cases z
def Ow:HO->Prop
 | .lst _=>True
 | .ext _=>True
 | .dK _=>True
 | _=>False
def dA.ow(s:dA H H')(h:H a=Ga ob)(o:Ow ob):H' a=Ga ob:=by
 have g:=s a ob h;cases ob<;>first|exact g|exact o.elim
def Ow.nf(o:Ow ob)(h:H a=Ga ob):∀ x u,H a≠Ga (.frz x u):=λx u z=>by
 rw[h] at z;cases z;exact o
def Pl:HO->Prop
 | .lst _=>True
 | .tup _=>True
 | .ext _=>True
 | .dK _=>True
 | _=>False
def Ow.pl(o:Ow ob):Pl ob:=by cases ob<;>first|exact o|trivial
def fA.un(o:Pl ob)(g:fA (upd F a ob) l):fA F l :=
 ⟨g.1,λpos cv e=>by
  have⟨c,x,vs,v,e1,e2,e3⟩:=g.2 pos cv e;have ne:c≠a:=λz=>by subst z;rw[dH] at e2;cases e2;exact o
  rw[dG ne] at e2;exact⟨c,x,vs,v,e1,e2,e3⟩⟩
def dA.upL(s:dA F H)(ha:H a=Ga ob)(p:Pl ob):dA (upd F a ob) H:=λb o h=>by
 by_cases hb:b=a
 .subst hb;rw[dH] at h;cases h;cases ob<;>first|exact ha|exact p.elim
 .rw[dG hb] at h;have g:=s b o h;cases o<;>first|exact g|exact⟨g.choose,g.choose_spec.1,λz=>g.choose_spec.2 (z.un p)⟩
def dA.up2(s:dA F H)(nF:F a=Gb)(nH:H a=Gb)(p:Pl ob):dA (upd F a ob) (upd H a ob) :=
 (s.put nF λo u z=>by rw[nH] at z;cases z).upL dH p
def Pl.nf(o:Pl ob)(h:H a=Ga ob):∀ x u,H a≠Ga (.frz x u):=λx u z=>by
 rw[h] at z;cases z;exact o
def dA.pl(s:dA H H')(h:H a=Ga ob)(o:Pl ob):H' a=Ga ob:=by
 have g:=s a ob h;cases ob<;>first|exact g|exact o.elim
def dA.swp(s:dA (upd H0 a o) H)(p:Pl o)(p':Pl o'):dA (upd H0 a o') (upd H a o'):=λb u h=>by
 have ha:=s.pl dH p;by_cases hb:b=a
 .subst hb;rw[dH] at h;cases h;rw[dH];cases o'<;>first|exact rfl|exact p'.elim
 .rw[dG hb] at h ⊢;have g:=s b u (by rwa[dG hb]);cases u<;>first
   | exact g
   | (obtain⟨qs,e,k⟩:=g
      refine⟨qs,e,λz=>(k ⟨z.1,λpos cv e=>?_⟩).updG (p.nf ha)⟩;have⟨c,x,vs,v,e1,e2,e3⟩:=z.2 pos cv e;have ne:c≠a:=λw=>by subst w;rw[dH] at e2;cases e2;exact p'
      rw[dG ne] at e2;exact⟨c,x,vs,v,e1,by rwa[dG ne],e3⟩)
def re (ks:List D)(as:List Gj):List DictEntry:=(ks.zip as).map λp=>{ key:=.ref p.2,hash:=oM p.1,val:=.bool true }
def lG (a:Gj)(ks:List D)(as:List Gj)(ep:Nat):Heap->Prop:=λh=>∃ o es,h.get? a=Ga o/\o.ExactDict/\o.data=.dict es ep/\es.toList=re ks as
structure nU (ks:List D):Prop where
 key:∀ k∈ks,eQ k 8=true
 tup:∀ k∈ks,∃ xs,k=.tuple xs
 nd:ks.Nodup
 len:ks.length<=1000000
abbrev AC (ks:List D):D:=JL (ks.map λk=>(k,kP true))
inductive WV:List (D×Gj×V)->List (D×Gj×Gg)->Prop where
 | nil:WV [] []
 | cons {k:D} {b:Gj} {v:V} {u:Gg} {ws:List (D×Gj×V)} {l:List (D×Gj×Gg)} (r:eL v u) (t:WV ws l):WV ((k,b,v)::ws) ((k,b,u)::l)
structure ajZ (kvs:List (D×D)):Prop where
 key:∀ k∈kvs.map (·.1),eQ k 8=true
 nd:(kvs.map (·.1)).Nodup
 len:kvs.length<=1000000
def pC (kvs:List (Str×D)):D:=JL ((vf,vf)::(vf,vf)::kvs.map λp=>(jL p.1,p.2))
mutual
inductive eU (K:ja)(H:Hp):D->V->Prop where
 | non:eU K H .none .non
 | bl (b:Bool):eU K H (.bool b) (.bl b)
 | int (i:Int):eU K H (.int i) (.int i)
 | str (x:Str):eU K H (.str x) (.str x)
 | tup {a:Gj} {xs:List V} {ds:List D} (h:hU K H a xs) (r:dM K H ds xs):eU K H (.tuple ds) (.ref a)
 | lst {a:Gj} {xs:List V} {ds:List D} (h:fQ K H a xs) (r:dM K H ds xs):eU K H (.list ds) (.ref a)
 | dic {a:Gj} {ks:List D} {as:List Gj} {ep:Nat} (hs:(a==sysModules)=false) (h:H a=Ga (.ext (lG a ks as ep))) (ok:nU ks) (r:dM K H ks (as.map V.ref)):eU K H (.dict (ks.map λk=>(k,kP true))) (.ref a)
 | dcs {a:Gj} {kvs:List (Str×D)} {ws:List (fJ×V)} (h:Rd H a (.dK ws)) (r:fv K H kvs ws):eU K H (.dict ((vf,vf)::(vf,vf)::kvs.map λp=>(jL p.1,p.2))) (.ref a)
inductive dM (K:ja)(H:Hp):List D->List V->Prop where
 | nil:dM K H [] []
 | cons {d:D} {v:V} {ds:List D} {vs:List V} (h:eU K H d v) (t:dM K H ds vs):dM K H (d::ds) (v::vs)
inductive fv (K:ja)(H:Hp):List (Str×D)->List (fJ×V)->Prop where
 | nil:fv K H [] []
 | cons {k:Str} {d:D} {v:V} {l:List (Str×D)} {m:List (fJ×V)} (h:eU K H d v) (t:fv K H l m):fv K H ((k,d)::l) ((Sum.inr k,v)::m)
end
def iu(e:dA H H')(h:hU K H a xs):hU K H' a xs:=by
 rcases h with (h|⟨o,h⟩)|h
 .exact .inl (.inl (e _ _ h))
 .exact .inl (.inr ⟨o,e _ _ h⟩)
 .exact .inr h
def Rd.mono{ws:List (fJ×V)}(e:dA H H')(h:Rd H a (.dK ws)):Rd H' a (.dK ws):=by
 rcases h with h|⟨o,h⟩
 .exact .inl (e _ _ h)
 .exact .inr ⟨o,e _ _ h⟩
mutual
def eU.mono {K:ja}{H H':Hp}(e:dA H H'):∀ {d:D} {v:V},eU K H d v->eU K H' d v
 | _,_,.non=>.non
 | _,_,.bl b=>.bl b
 | _,_,.int i=>.int i
 | _,_,.str x=>.str x
 | _,_,.tup h r=>.tup (iu e h) (dM.mono e r)
 | _,_,.lst h r=>.lst (e.seq h) (dM.mono e r)
 | _,_,.dic hs h ok r=>.dic hs (e _ _ h) ok (dM.mono e r)
 | _,_,.dcs h r=>.dcs (Rd.mono e h) (fv.mono e r)
def dM.mono {K:ja}{H H':Hp}(e:dA H H'):∀ {ds:List D} {vs:List V},dM K H ds vs->dM K H' ds vs
 | _,_,.nil=>.nil
 | _,_,.cons h t=>.cons (eU.mono e h) (dM.mono e t)
def fv.mono {K:ja}{H H':Hp}(e:dA H H'):∀ {l:List (Str×D)} {m:List (fJ×V)},fv K H l m->fv K H' l m
 | _,_,.nil=>.nil
 | _,_,.cons h t=>.cons (eU.mono e h) (fv.mono e t)
end
def dM.length {K:ja}{H:Hp}:∀ {ds:List D} {vs:List V},dM K H ds vs->ds.length=vs.length
 | _,_,.nil=>rfl
 | _,_,.cons _ t=>congrArg Jv t.length
def dM.get {K:ja}{H:Hp}:∀ {ds:List D} {vs:List V} {i:Nat} {d:D},dM K H ds vs->ds[i]?=Ga d->∃ v,vs[i]?=Ga v/\eU K H d v
 | _,_,_,_,.nil,e=>by simp at e
 | _,_,0,_,.cons h _,e=>by simp at e;subst e;exact⟨_,rfl,h⟩
 | _,_,i+1,d,.cons _ t,e=>by
  obtain⟨v,h1,h2⟩:=dM.get (i:=i) (d:=d) t (by simpa using e);exact⟨v,by simpa using h1,h2⟩
def dM.append {K:ja}{H:Hp}:∀ {ds es:List D} {vs ws:List V},dM K H ds vs->dM K H es ws->dM K H (ds++es) (vs++ws)
 | _,_,_,_,.nil,q=>q
 | _,_,_,_,.cons h t,q=>.cons h (t.append q)
def dM.take {K:ja}{H:Hp}:∀ {ds:List D} {vs:List V} (n:Nat),dM K H ds vs->dM K H (ds.take n) (vs.take n)
 | _,_,0,_=>.nil
 | _,_,_+1,.nil=>.nil
 | _,_,n+1,.cons h t=>.cons h (t.take n)
def dM.drop {K:ja}{H:Hp}:∀ {ds:List D} {vs:List V} (n:Nat),dM K H ds vs->dM K H (ds.drop n) (vs.drop n)
 | _,_,0,r=>r
 | _,_,_+1,.nil=>.nil
 | _,_,n+1,.cons _ t=>t.drop n
def dM.reverse {K:ja}{H:Hp}:∀ {ds:List D} {vs:List V},dM K H ds vs->dM K H ds.reverse vs.reverse
 | _,_,.nil=>.nil
 | _,_,.cons h t=>by
  rw[Jw,Jw];exact t.reverse.append (.cons h .nil)
def dM.ints {K:ja}{H:Hp}:∀ (ns:List Int),dM K H (ns.map jO) (ns.map V.int)
 | []=>.nil
 | n::ns=>.cons (.int n) (dM.ints ns)
def Fz (H H':Hp):Prop:=∀ b x,H b=Ga (.frz x (.own b))->H' b=Ga (.frz x (.own b))
def dA.fz(s:dA H H'):Fz H H':=λ_ _ h=>s _ _ h
def Fz.upd(m:∀ o u,H a≠Ga (.frz o u)):Fz H (upd H a ob):=λb x h=>by
 rwa[dG (λz=>by subst z;exact m _ _ h)]
structure dZ where
 C:Gj->Hp->Hp->Prop
 mono:∀ f F F' H H',dA F F'->Fz H H'->C f F H->C f F' H'
inductive Sl where
 | no|val (d:D)|own (ds:List D)|dic (ks:List D)|tab (P:Gj)|fn (c:dZ)|dks (kvs:List (Str×D))|dsk (C p r:Gj) (kvs:List (Str×D))
 deriving Inhabited
abbrev En:=List Sl
def ic:Sl->Bool
 | .own _=>true
 | .dic _=>true
 | .dks _=>true
 | _=>false
def eN (F F' H:Hp):Prop:=∀ b o,F' b=Ga o->F b=Gb->H b=Gb
def eN.refl (F H:Hp):eN F F H:=λb o e n=>by rw[e] at n;cases n
def eN.trans {F2:Hp}(a:eN F F1 H)(b:eN F1 F2 H1)(s:dA H H1):eN F F2 H:=λc o e n=>by
 cases q:F1 c with
 | none=>exact s.free (b c o e q)
 | some u=>exact a c u q n
def lL (K:ja)(H0 F H:Hp):Sl->Option V->Prop
 | .no,_=>True
 | .val d,u=>∃ v,u=Ga v/\eU K F d v
 | .own ds,u=>∃ a xs,u=Ga (.ref a)/\H a=Ga (.lst xs)/\F a=Gb/\H0 a=Gb/\dM K F ds xs
 | .dic ks,u=>∃ a as ep,u=Ga (.ref a)/\H a=Ga (.ext (lG a ks as ep))/\F a=Gb/\H0 a=Gb/\dM K F ks (as.map V.ref)/\(a==sysModules)=false/\nU ks
 | .tab P,_=>∃ ps,H0 P=Ga (.tbl ps)/\fA H0 ps.toList
 | .fn c,u=>∃ f,u=Ga (.ref f)/\c.C f F H
 | .dks kvs,u=>∃ a ws,u=Ga (.ref a)/\H a=Ga (.dK ws)/\F a=Gb/\H0 a=Gb/\fv K F kvs ws
 | .dsk C p r kvs,u=>u=Ga (.ref p)/\∃ dx ws,H0 p=Ga (.ins C dx [("runs",.ref r)])/\H0 r=Ga (.dK ws)/\fv K F kvs ws
structure RS (K:ja)(H0 F H:Hp)(ψ:En)(σ:St):Prop where
 h0:dA H0 H
 fh:dA F H
 sl:∀ (i:Nat) (s:Sl),ψ[i]?=Ga s->∃ u,σ[i]?=Ga u/\lL K H0 F H s u
 ap:∀ (i j:Nat) (a:Gj) (s t:Sl),ic s=true->ic t=true->ψ[i]?=Ga s->ψ[j]?=Ga t->σ[i]?=Ga (Ga (.ref a))->σ[j]?=Ga (Ga (.ref a))->i=j
def lL.at {s:Sl}(r:lL K H0 F H s u)(o:ic s=true):∃ a ob,u=Ga (.ref a)/\H a=Ga ob/\F a=Gb/\H0 a=Gb/\Ow ob:=by
 cases s with
 | no=>cases o
 | val d=>cases o
 | own ds=>obtain⟨a,xs,e,h,f,g,_⟩:=r;exact⟨a,_,e,h,f,g,trivial⟩
 | dic ks=>obtain⟨a,as,ep,e,h,f,g,_⟩:=r;exact⟨a,_,e,h,f,g,trivial⟩
 | tab P=>cases o
 | fn c=>cases o
 | dks kvs=>obtain⟨a,ws,e,h,f,g,_⟩:=r;exact⟨a,_,e,h,f,g,trivial⟩
 | dsk C p q kvs=>cases o
def lL.to {s:Sl}(r:lL K H0 F H s u)(f:dA F F')(zz:Fz H H')(k:∀ a ob,ic s=true->u=Ga (.ref a)->H a=Ga ob->F a=Gb->Ow ob->H' a=Ga ob/\F' a=Gb):lL K H0 F' H' s u:=by
 cases s with
 | no=>trivial
 | val d=>obtain⟨v,e2,q⟩:=r;exact⟨v,e2,q.mono f⟩
 | own ds =>
  obtain⟨a,xs,e2,ha,fa,h0a,q⟩:=r;have⟨k1,k2⟩:=k a _ rfl e2 ha fa trivial;exact⟨a,xs,e2,k1,k2,h0a,q.mono f⟩
 | dic ks =>
  obtain⟨a,as,ep,e2,ha,fa,h0a,q,r2⟩:=r;have⟨k1,k2⟩:=k a _ rfl e2 ha fa trivial;exact⟨a,as,ep,e2,k1,k2,h0a,q.mono f,r2⟩
 | tab P=>exact r
 | fn c=>obtain⟨g,e,q⟩:=r;exact⟨g,e,c.mono _ _ _ _ _ f zz q⟩
 | dks kvs =>
  obtain⟨a,ws,e2,ha,fa,h0a,q⟩:=r;have⟨k1,k2⟩:=k a _ rfl e2 ha fa trivial;exact⟨a,ws,e2,k1,k2,h0a,q.mono f⟩
 | dsk C p r' kvs =>
  obtain⟨e2,dx,ws,h1,h2,q⟩:=r;exact⟨e2,dx,ws,h1,h2,q.mono f⟩
variable {ψ:En}{s0 s1:Sl}{x:Str}{u:Gg}
def RS.ne_free (r:RS K H0 F H ψ σ)(n:H a=Gb):∀ (j:Nat) (s:Sl),ic s=true->ψ[j]?=Ga s->σ[j]?≠Ga (Ga (.ref a)):=λj s o e z=>by
 have⟨u,e1,q⟩:=r.sl j s e;have⟨b,ob,e2,hb,_⟩:=q.at o;rw[z] at e1;cases e1;cases e2;rw[n] at hb;cases hb
def RS.grow (r:RS K H0 F H ψ σ)(g:dA H H')(f:dA F F')(fh:dA F' H')(n:eN F F' H):RS K H0 F' H' ψ σ:=by
 refine⟨r.h0.trans g,fh,λi s e=>?_,r.ap⟩;have⟨u,e1,q⟩:=r.sl i s e;refine⟨u,e1,q.to f g.fz λa ob _ _ ha fa ow=>⟨g.ow ha ow,?_⟩⟩;cases z:F' a with
 | none=>rfl
 | some o=>have:=n a o z fa;rw[ha] at this;cases this
def RS.later (r:RS K H0 F H ψ σ)(g:dA H H'):RS K H0 F H' ψ σ:=r.grow g (.refl _) (r.fh.trans g) (.refl _ _)
def RS.put (r:RS K H0 F H ψ σ)(hi:i<σ.length)(q:eU K F d v):RS K H0 F H (ψ.set i (.val d)) (σ.set i (Ga v)):=by
 refine⟨r.h0,r.fh,λj s e=>?_,λj k a s t o1 o2 e1 e2 e3 e4=>?_⟩
 .by_cases h:i=j
  .subst h;refine⟨Ga v,by rw[jx hi],?_⟩;by_cases hl:i<ψ.length
   .rw[jx hl] at e;cases e;exact⟨v,rfl,q⟩
   .rw[kR (by simpa using hl)] at e;cases e
  .rw[jq h] at e ⊢;exact r.sl j s e
 .have nj:∀ (j:Nat) (s:Sl),ic s=true->(ψ.set i (.val d))[j]?=Ga s->i≠j:=λj s o e z=>by
   subst z;by_cases hl:i<ψ.length
   .rw[jx hl] at e;cases e;cases o
   .rw[kR (by simpa using hl)] at e;cases e
  have n1:=nj j s o1 e1;have n2:=nj k t o2 e2;rw[jq n1] at e1 e3;rw[jq n2] at e2 e4;exact r.ap j k a s t o1 o2 e1 e2 e3 e4
def RS.putG (r:RS K H0 F H ψ σ)(hi:i<σ.length)(q:lL K H0 F H s0 (Ga (.ref a)))
  (ne:∀ (j:Nat) (s:Sl),ic s=true->j≠i->ψ[j]?=Ga s->σ[j]?≠Ga (Ga (.ref a))):RS K H0 F H (ψ.set i s0) (σ.set i (Ga (.ref a))):=by
 refine⟨r.h0,r.fh,λj s e=>?_,λj k b s t o1 o2 e1 e2 e3 e4=>?_⟩
 .by_cases h:i=j
  .subst h;refine⟨Ga (.ref a),by rw[jx hi],?_⟩;by_cases hl:i<ψ.length
   .rw[jx hl] at e;cases e;exact q
   .rw[kR (by simpa using hl)] at e;cases e
  .rw[jq h] at e ⊢;exact r.sl j s e
 .by_cases hj:i=j
  .by_cases hk:i=k
   .exact hj.symm.trans hk
   .subst hj;rw[jx hi] at e3;rw[jq hk] at e2 e4;cases e3;exact absurd e4 (ne k t o2 (kW hk) e2)
  .by_cases hk:i=k
   .subst hk;rw[jx hi] at e4;rw[jq hj] at e1 e3;cases e4;exact absurd e3 (ne j s o1 (kW hj) e1)
   .rw[jq hj] at e1 e3;rw[jq hk] at e2 e4;exact r.ap j k b s t o1 o2 e1 e2 e3 e4
def RS.putO (r:RS K H0 F H ψ σ)(hi:i<σ.length)(ha:H a=Ga (.lst xs))(fa:F a=Gb)(h0a:H0 a=Gb)(q:dM K F ds xs)
  (ne:∀ (j:Nat) (s:Sl),ic s=true->j≠i->ψ[j]?=Ga s->σ[j]?≠Ga (Ga (.ref a))):RS K H0 F H (ψ.set i (.own ds)) (σ.set i (Ga (.ref a))) :=
 r.putG hi ⟨a,xs,rfl,ha,fa,h0a,q⟩ ne
def RS.chgG (r:RS K H0 F H ψ σ)(e:ψ[i]?=Ga s0)(o0:ic s0=true)(u:σ[i]?=Ga (Ga (.ref a)))(q:lL K H0 F (upd H a ob) s1 (Ga (.ref a))) :
  RS K H0 F (upd H a ob) (ψ.set i s1) σ:=by
 have⟨u',e',q'⟩:=r.sl i _ e;have⟨a',ob',z,ha,fa,h0a,ow0⟩:=q'.at o0;rw[u] at e';cases e';cases z;have hl:i<ψ.length:=(je.mp e).1;refine⟨r.h0.put h0a (ow0.nf ha),r.fh.put fa (ow0.nf ha),λj s ej=>?_,λj k b s t o1 o2 e1 e2 e3 e4=>?_⟩
 .by_cases h:i=j
  .subst h;rw[jx hl] at ej;cases ej;exact⟨_,u,q⟩
  .rw[jq h] at ej;have⟨w,e2,q2⟩:=r.sl j s ej;refine⟨w,e2,q2.to (.refl _) (Fz.upd (ow0.nf ha)) λb ob2 ow z1 hb fb _=>⟨?_,fb⟩⟩;subst z1;rwa[dG (λz=>by subst z;exact h (r.ap i j b _ _ o0 ow e ej u e2))]
 .have f1:∀ (j:Nat) (s:Sl),ic s=true->(ψ.set i s1)[j]?=Ga s->∃ s',ic s'=true/\ψ[j]?=Ga s':=λj s o h=>by
   by_cases hj:i=j
   .subst hj;exact⟨_,o0,e⟩
   .rw[jq hj] at h;exact⟨_,o,h⟩
  have⟨_,o1,e1⟩:=f1 j _ o1 e1;have⟨_,o2,e2⟩:=f1 k _ o2 e2;exact r.ap j k b _ _ o1 o2 e1 e2 e3 e4
def RS.chg (r:RS K H0 F H ψ σ){es:List D}(e:ψ[i]?=Ga (.own ds))(u:σ[i]?=Ga (Ga (.ref a)))(q:dM K F es ys) :
  RS K H0 F (upd H a (.lst ys)) (ψ.set i (.own es)) σ:=by
 have⟨u',e',a',xs,z,ha,fa,h0a,_⟩:=r.sl i _ e;rw[u] at e';cases e';cases z;exact r.chgG e rfl u ⟨a,ys,rfl,dH,fa,h0a,q⟩
def ia:Sl->Sl
 | .own ds=>.val (.list ds)
 | .dic ks=>.val (AC ks)
 | .dks kvs=>.val (pC kvs)
 | s=>s
def zAI (s:Sl):ic (ia s)=false:=by cases s<;>rfl
def frz (ψ:En):En:=ψ.map ia
def RS.frz {K:ja}{H0 F H:Hp}{ψ:En}{σ:St}(r:RS K H0 F H ψ σ):RS K H0 H H (T3.frz ψ) σ:=by
 refine⟨r.h0,.refl _,λi s e=>?_,λi j a s t o1 o2 e1=>?_⟩
 .unfold T3.frz at e;rw[jE] at e;cases z:ψ[i]? with
  | none=>rw[z] at e;cases e
  | some s' =>
   rw[z] at e;have⟨u,e1,q⟩:=r.sl i s' z;refine⟨u,e1,?_⟩;cases s' with
   | no=>cases e;trivial
   | val d=>cases e;obtain⟨v,e2,q⟩:=q;exact⟨v,e2,q.mono r.fh⟩
   | own ds =>
    cases e;obtain⟨a,xs,e2,ha,fa,h0a,q⟩:=q;exact⟨_,e2,.lst (fQ.of ha) (q.mono r.fh)⟩
   | dic ks =>
    cases e;obtain⟨a,as,ep,e2,ha,fa,h0a,q,sm,ok⟩:=q;exact⟨_,e2,.dic sm ha ok (q.mono r.fh)⟩
   | tab P=>cases e;exact q
   | fn c=>cases e;obtain⟨g,e2,q⟩:=q;exact⟨g,e2,c.mono _ _ _ _ _ r.fh (λ_ _ h=>h) q⟩
   | dks kvs =>
    cases e;obtain⟨a,ws,e2,ha,fa,h0a,q⟩:=q;exact⟨_,e2,.dcs (.inl ha) (q.mono r.fh)⟩
   | dsk C p r' kvs =>
    cases e;obtain⟨e2,dx,ws,h1,h2,q⟩:=q;exact⟨e2,dx,ws,h1,h2,q.mono r.fh⟩
 .exfalso;unfold T3.frz at e1;rw[jE] at e1;cases z:ψ[i]? with
  | none=>rw[z] at e1;cases e1
  | some s'=>rw[z] at e1;cases e1;rw[zAI] at o1;cases o1
def frzAt (i:Nat)(ψ:En):En:=match ψ[i]? with
 | some (.own ds)=>ψ.set i (.val (.list ds))
 | some (.dic ks)=>ψ.set i (.val (AC ks))
 | some (.dks kvs)=>ψ.set i (.val (pC kvs))
 | _=>ψ
def RS.frzG(r:RS K H0 F H ψ σ)(os:ic s1=false)(e:ψ[i]?=Ga s0)(o0:ic s0=true)(e1:σ[i]?=Ga (Ga (.ref a)))(ha:H a=Ga ob)(ow0:Ow ob)(fa:F a=Gb)(h0a:H0 a=Gb)
  (q:∀ F',dA F F'->F' a=Ga ob->lL K H0 F' H s1 (Ga (.ref a))):F a=Gb/\H a=Ga ob/\Ow ob/\dA F (upd F a ob)/\eN F (upd F a ob) H0/\RS K H0 (upd F a ob) H (ψ.set i s1) σ:=by
 have hi:i<σ.length:=(je.mp e1).1;have hl:i<ψ.length:=(je.mp e).1;have sF:dA F (upd F a ob):=dA.new fa;refine⟨fa,ha,ow0,sF,λb o h n=>?_,⟨r.h0,λb o h=>?_,λj s ej=>?_,λj k b s t o1 o2 x1 x2 x3 x4=>?_⟩⟩
 .by_cases hb:b=a
  .subst hb;exact h0a
  .rw[dG hb,n] at h;cases h
 .by_cases hb:b=a
  .subst hb;rw[dH] at h;cases h;cases ob<;>first|exact ha|exact ow0.elim
  .rw[dG hb] at h;have g:=r.fh b o h;cases o<;>first|exact g|exact⟨g.choose,g.choose_spec.1,λz=>g.choose_spec.2 (z.un ow0.pl)⟩
 .by_cases h:i=j
  .subst h;rw[jx hl] at ej;cases ej;exact⟨_,e1,q _ sF dH⟩
  .rw[jq h] at ej;have⟨w,z1,q2⟩:=r.sl j s ej;refine⟨w,z1,q2.to sF (λ_ _ h=>h) λb ob2 ow z2 hb fb _=>⟨hb,?_⟩⟩;subst z2;rwa[dG (λz=>by subst z;exact h (r.ap i j b _ _ o0 ow e ej e1 z1))]
 .have f1:∀ (j:Nat) (s:Sl),ic s=true->(ψ.set i s1)[j]?=Ga s->ψ[j]?=Ga s:=λj s o h=>by
   by_cases hj:i=j
   .subst hj;rw[jx hl] at h;cases h;rw[os] at o;cases o
   .rw[jq hj] at h;exact h
  exact r.ap j k b _ _ o1 o2 (f1 j _ o1 x1) (f1 k _ o2 x2) x3 x4
def RS.frzAt2(r:RS K H0 F H ψ σ)(i:Nat):T3.frzAt i ψ=ψ\/∃ a ob,F a=Gb/\H a=Ga ob/\Ow ob/\dA F (upd F a ob)/\eN F (upd F a ob) H0/\RS K H0 (upd F a ob) H (T3.frzAt i ψ) σ:=by
 unfold T3.frzAt;split
 .rename_i ds e;have⟨u,e1,a,xs,e2,ha,fa,h0a,q⟩:=r.sl i _ e;subst e2;exact .inr ⟨_,_,r.frzG rfl e rfl e1 ha trivial fa h0a λF' f h=>⟨_,rfl,.lst (fQ.of h) (q.mono f)⟩⟩
 .rename_i ks e;have⟨u,e1,a,as,ep,e2,ha,fa,h0a,q,sm,ok⟩:=r.sl i _ e;subst e2;exact .inr ⟨_,_,r.frzG rfl e rfl e1 ha trivial fa h0a λF' f h=>⟨_,rfl,.dic sm h ok (q.mono f)⟩⟩
 .rename_i kvs e;have⟨u,e1,a,ws,e2,ha,fa,h0a,q⟩:=r.sl i _ e;subst e2;exact .inr ⟨_,_,r.frzG rfl e rfl e1 ha trivial fa h0a λF' f h=>⟨_,rfl,.dcs (.inl h) (q.mono f)⟩⟩
 .exact .inl rfl
def RS.frzAt {K:ja}{H0 F H:Hp}{ψ:En}{σ:St}(r:RS K H0 F H ψ σ)(i:Nat):∃ F',dA F F'/\eN F F' H0/\RS K H0 F' H (T3.frzAt i ψ) σ:=by
 rcases r.frzAt2 i with e|⟨a,ob,_,_,_,f,n,q⟩
 .rw[e];exact⟨F,.refl _,.refl _ _,r⟩
 .exact⟨_,f,n,q⟩
abbrev FV:=En->Option D
abbrev FL:=En->Option (List D)
abbrev FB:=En->Option Bool
def tV (K:ja)(f:FV):TE:=λσ H Q=>∃ H0 F ψ d,RS K H0 F H ψ σ/\f ψ=Ga d/\∀ v H' F',dA H H'->dA F F'->dA F' H'->eN F F' H->eU K F' d v->Q v H'
def tO (K:ja)(f:FL):TE:=λσ H Q=>∃ H0 F ψ ds,RS K H0 F H ψ σ/\f ψ=Ga ds /\
 ∀ a xs H' F',dA H H'->dA F F'->dA F' H'->eN F F' H->H a=Gb->F' a=Gb->H' a=Ga (.lst xs)->dM K F' ds xs->Q (.ref a) H'
def tT (K:ja)(f:FB):TT:=λσ H Q=>∃ H0 F ψ b,RS K H0 F H ψ σ/\f ψ=Ga b/\∀ H',dA H H'->Q b H'
def tL (K:ja)(f:FL):TA:=λσ H Q=>∃ H0 F ψ ds,RS K H0 F H ψ σ/\f ψ=Ga ds/\∀ vs H' F',dA H H'->dA F F'->dA F' H'->eN F F' H->dM K F' ds vs->Q vs H'
abbrev PV (X:Cx)(e:Expr)(f:FV):Prop:=PE X e (tV X.K f)
abbrev PO (X:Cx)(e:Expr)(f:FL):Prop:=PE X e (tO X.K f)
abbrev PB (X:Cx)(e:Expr)(f:FB):Prop:=PT X e (tT X.K f)
abbrev iT (X:Cx)(e:Expr)(f:FB):Prop:=PW X e (tT X.K f)
structure PL (X:Cx)(es:List Expr)(f:FL):Prop where
 pa:PA X es (tL X.K f)
 len:∀ ψ ds,f ψ=Ga ds->ds.length=es.length
def fG{t t':TE}(h:PE X e t)(m:∀ σ H Q,t' σ H Q->t σ H Q):PE X e t':=λω s σ H Q I q=>h ω s σ H Q I (m σ H Q q)
def tJ{t:TT}(h:PT X e t)(m:∀ σ H Q,t' σ H Q->t σ H Q):PT X e t':=λω s σ H Q I q=>h ω s σ H Q I (m σ H Q q)
def zCH{t:TT}(h:PW X e t)(m:∀ σ H Q,t' σ H Q->t σ H Q):PW X e t':=λwh ω s σ H Q I q=>h wh ω s σ H Q I (m σ H Q q)
def Fy{e:List Expr}{t t':TA}(h:PA X e t)(m:∀ σ H Q,t' σ H Q->t σ H Q):PA X e t':=λp ω s σ H Q I q=>h p ω s σ H Q I (m σ H Q q)
def yp{e:List Stmt}{t t':TS}(h:lc X e t)(m:∀ D σ H,t' D σ H->t D σ H):lc X e t':=λω s σ H D I q=>h ω s σ H D I (m D σ H q)
def iR{e:Stmt}{t t':TS}(h:PS X e t)(m:∀ D σ H,t' D σ H->t D σ H):PS X e t':=λω s σ H D I q=>h ω s σ H D I (m D σ H q)
def dz {β:Type}{o:Option α}{f:α->Option β}{b:β}(h:o.bind f=Ga b):∃ a,o=Ga a/\f a=Ga b:=by
 cases o with
 | none=>cases h
 | some a=>exact⟨a,rfl,h⟩
def PO.v9{f:FL}(h:PO X e f):PV X e (λψ=>(f ψ).bind λds=>Ga (.list ds)):=by
 refine fG h λσ H Q=>?_;rintro⟨H0,F,ψ,d,r,e,q⟩;have⟨ds,z,e⟩:=dz e;cases e
 .refine⟨H0,F,ψ,ds,r,z,λa xs H' F' g f1 fh n ha fa ha' rr=>?_⟩;have sF:dA F' (upd F' a (.lst xs)):=dA.new fa;refine q (.ref a) H' (upd F' a (.lst xs)) g (f1.trans sF) (λb o h=>?_) (λb o h nb=>?_) (.lst (fQ.of dH) (rr.mono sF))
  .exact dA.upL fh ha' trivial b o h
  .by_cases hb:b=a
   .subst hb;exact ha
   .rw[dG hb] at h;exact n b o h nb
noncomputable def gv (i:Nat):FV:=λψ=>match ψ[i]? with
 | some (.val d)=>Ga d
 | _=>Gb
def dy (i:Nat)(hN:X.N[i]?=Ga x:=by rfl)(hv:lK X.env.scope x:=by ac_rfl)(hd:Nd x:=by decide)
  (hcd:(x==("__classdict__":Str))=false:=by decide):PV X (.Name x pos) (gv i):=by
 refine fG (gz hN hv hd hcd) λσ H Q=>?_;rintro⟨H0,F,ψ,d,r,e,q⟩;unfold gv at e;cases z:ψ[i]? with
 | none=>rw[z] at e;cases e
 | some s =>
  rw[z] at e;cases s with
  | val d' =>
   cases e;have⟨u,e1,v,e2,h⟩:=r.sl i _ z;subst e2;exact⟨v,e1,q v H F (.refl _) (.refl _) r.fh (.refl _ _) h⟩
  | no=>cases e
  | own _=>cases e
  | dic _=>cases e
  | tab _=>cases e
  | fn _=>cases e
  | dks _=>cases e
  | dsk _ _ _ _=>cases e
def AM(h:PE X e (tC v))(r:∀ K F,eU K F d v):PV X e (λ_=>Ga d):=by
 refine fG h λσ H Q=>?_;rintro⟨H0,F,ψ,d',rs,e,q⟩;cases e;exact q v H F (.refl _) (.refl _) rs.fh (.refl _ _) (r _ _)
def dR {i j}:PV X (.Constant (.int i) j pos) (λ_=>Ga (.int i)):=AM Kp λ_ _=>.int i
def lH {b j}:PV X (.Constant (.bool b) j pos) (λ_=>Ga (.bool b)):=AM HF λ_ _=>.bl b
def pI {j}:PV X (.Constant .none j pos) (λ_=>Ga .none):=AM MU λ_ _=>.non
def dQ {x:String}{j}:PV X (.Constant (.str x) j pos) (λ_=>Ga (.str x)):=AM sJ λ_ _=>.str _
def dF:PL X [] (λ_=>Ga []):=by
 refine⟨Fy fY λσ H Q=>?_,λψ ds e=>by cases e;rfl⟩;rintro⟨H0,F,ψ,ds,r,e,q⟩;cases e;exact q [] H F (.refl _) (.refl _) r.fh (.refl _ _) .nil
variable {f fa fb fe:FV}{g fi:FL}{a:Expr}{fc:FB}
def dB(ha:PV X e f)(hr:PL X es g)(hs:Sa X e es:=by rfl) :
  PL X (e::es) (λψ=>(f ψ).bind λd=>(g ψ).bind λds=>Ga (d::ds)):=by
 refine⟨Fy (eY ha hr.pa hs) λσ H Q=>?_,λψ ds e=>?_⟩
 .rintro⟨H0,F,ψ,ds,r,e,q⟩;have⟨d,e1,e⟩:=dz e;have⟨ds',e2,e⟩:=dz e;cases e;refine⟨H0,F,ψ,d,r,e1,λv H1 F1 g1 f1 fh1 n1 rv=>⟨H0,F1,ψ,ds',r.grow g1 f1 fh1 n1,e2,λvs H2 F2 g2 f2 fh2 n2 rvs=>?_⟩⟩;exact q (v::vs) H2 F2 (g1.trans g2) (f1.trans f2) fh2 (n1.trans n2 g1) (.cons (rv.mono f2) rvs)
 .obtain⟨d,e1,e⟩:=dz e;have⟨ds',e2,e⟩:=dz e;cases e;exact congrArg Jv (hr.len ψ _ e2)
def lX{x1}(h:PL X es g)(hz:es.length<=1000:=by decide):PV X (.Tuple es x1 pos) (λψ=>(g ψ).bind λds=>Ga (.tuple ds)):=by
 refine fG (Eu h.pa) λσ H Q=>?_;rintro⟨H0,F,ψ,d,r,e,q⟩;have⟨ds,e1,e⟩:=dz e;cases e;refine⟨H0,F,ψ,ds,r,e1,λvs H1 F1 g1 f1 fh1 n1 rv=>⟨?_,λp hp=>?_⟩⟩
 .rw[<- rv.length,h.len ψ ds e1];exact uJ (xW hz)
 .have fp:F1 p=Gb:=fh1.free hp;have s1:dA F1 (upd F1 p (.tup vs)):=dA.new fp;have s2:dA H1 (upd H1 p (.tup vs)):=dA.new hp;refine q (.ref p) (upd H1 p (.tup vs)) (upd F1 p (.tup vs)) (g1.trans s2) (f1.trans s1) (λb o h=>?_) (λb o h nb=>?_) (.tup (hU.of dH) (rv.mono s1))
  .exact dA.up2 (ob:=.tup vs) fh1 fp hp trivial b o h
  .by_cases hb:b=p
   .subst hb;exact g1.free hp
   .rw[dG hb] at h;exact n1 b o h nb
def gD(h:PL X es g)(hz:es.length<=1000:=by decide):PO X (.List es pos) g:=by
 refine fG (My h.pa) λσ H Q=>?_;rintro⟨H0,F,ψ,ds,r,e1,q⟩;refine⟨H0,F,ψ,ds,r,e1,λvs H1 F1 g1 f1 fh1 n1 rv=>⟨?_,λp hp=>?_⟩⟩
 .rw[<- rv.length,h.len ψ ds e1];exact uJ (xW hz)
 .have s2:dA H1 (upd H1 p (.lst vs)):=dA.new hp;exact q p vs (upd H1 p (.lst vs)) F1 (g1.trans s2) f1 (fh1.trans s2) n1 (g1.free hp) (fh1.free hp) dH rv
def nX (K:ja)(r:R2)(g:D->D->Option D):Prop:=∀ (F H:Hp) (x y:V) (a b d:D) (Q:VK),dA F H->eU K F a x->eU K F b y->g a b=Ga d ->
 (∀ v H' F',dA H H'->dA F F'->dA F' H'->eN F F' H->eU K F' d v->Q v H')->r x y H Q
variable {g:D->D->Option D}
def CM(hr:nX K r g){Q:VK}(h:tV K (λψ=>(fa ψ).bind λa=>(fb ψ).bind λb=>g a b) σ H Q):Dl r (tV K fa) (tV K fb) σ H Q:=by
 obtain⟨H0,F,ψ,d,rs,e,q⟩:=h;have⟨a,e1,e⟩:=dz e;have⟨b,e2,e⟩:=dz e;refine⟨H0,F,ψ,a,rs,e1,λv H1 F1 g1 f1 fh1 n1 rv=>⟨H0,F1,ψ,b,rs.grow g1 f1 fh1 n1,e2,λu H2 F2 g2 f2 fh2 n2 ru=>?_⟩⟩;refine hr F2 H2 v u a b d Q fh2 (rv.mono f2) ru e λw H3 F3 g3 f3 fh3 n3 rw3=>?_;exact q w H3 F3 ((g1.trans g2).trans g3) ((f1.trans f2).trans f3) fh3 ((n1.trans n2 g1).trans n3 (g1.trans g2)) rw3
def sK {op:Operator}(ho:gj X (binaryOp op) r)(hr:nX X.K r g)(ha:PV X a fa)(hb:PV X b fb) :
  PV X (.BinOp a op b pos) (λψ=>(fa ψ).bind λx=>(fb ψ).bind λy=>g x y):=fG (Nz ho ha hb) λ_ _ _ h=>CM hr h
def yq(ho:gj X (compareOp op) r)(hr:nX X.K r g)(ha:PV X a fa)(hb:PV X b fb)(hm:behindInMarks op b=false:=by first|exact zD _|rfl|with_unfolding_all rfl) :
  PV X (.Compare a [op] [b] pos) (λψ=>(fa ψ).bind λx=>(fb ψ).bind λy=>g x y):=fG (Bs ho ha hb hm) λ_ _ _ h=>CM hr h
def gI:D->Option Bool
 | .bool b=>Ga b
 | _=>Gb
def zr{b:Bool}(h:gI d=Ga b):d=.bool b:=by cases d<;>cases h;rfl
def Wz{Q:Bool->Hp->Prop}(h:tT K (λψ=>(f ψ).bind gI) σ H Q):tV K f σ H (λx H'=>∃ k,x=.bl k/\Q k H'):=by
 obtain⟨H0,F,ψ,b,rs,e,q⟩:=h;have⟨d,e1,e2⟩:=dz e;cases zr e2;refine⟨H0,F,ψ,_,rs,e1,λv H1 F1 g1 f1 fh1 n1 rv=>?_⟩;cases rv;exact⟨b,rfl,q H1 g1⟩
def xi(ho:gj X (compareOp op) r)(hr:nX X.K r g)(ha:PV X a fa)(hb:PV X b fb)(hm:behindInMarks op b=false:=by first|exact zD _|rfl|with_unfolding_all rfl) :
  PB X (.Compare a [op] [b] pos) (λψ=>((fa ψ).bind λx=>(fb ψ).bind λy=>g x y).bind gI):=by
 refine tJ (AY ho ha hb hm) λσ H Q h=>?_;exact CM hr (Wz h)
def DG:D->Option Bool
 | .none=>Ga false
 | .bool b=>Ga b
 | .int i=>Ga (i !=0)
 | .tuple xs=>Ga (!xs.isEmpty)
 | .list xs=>Ga (!xs.isEmpty)
 | _=>Gb
def dM.isEmpty {K:ja}{H:Hp}{ds:List D}{vs:List V}(r:dM K H ds vs):ds.isEmpty=vs.isEmpty:=by cases r<;>rfl
def zGP{b:Bool}(e:DG d=Ga b)(r:eU K F d v)(s:dA F H):EC K v H b:=by
 cases r with
 | non=>cases e;rfl
 | bl c=>cases e;rfl
 | int i=>cases e;rfl
 | str x=>cases e
 | tup h r=>cases e;exact .inr (.inl ⟨_,iu s h,by rw[r.isEmpty]⟩)
 | lst h r=>cases e;exact .inl ⟨_,s.seq h,by rw[r.isEmpty]⟩
 | dic hs h ok r=>cases e
 | dcs h r=>cases e
def gL(h:PV X e f)(he:∀ whole,isTrue e X.env whole=(do let v <- whole;standAt e.pos;holding [v] (truthy v)):=by intro _;rfl):PB X e (λψ=>(f ψ).bind DG):=by
 refine tJ (yY h he) λσ H Q=>?_;rintro⟨H0,F,ψ,b,rs,e,q⟩;have⟨d,e1,e2⟩:=dz e;exact⟨H0,F,ψ,d,rs,e1,λv H1 F1 g1 f1 fh1 n1 rv=>⟨b,zGP e2 rv fh1,q H1 g1⟩⟩
variable {f:FB}{r:List V->Hp->VK->Prop}
def gX(h:PB X e f):PB X (.UnaryOp .Not e pos) (λψ=>(f ψ).bind λc=>Ga (!c)):=by
 refine tJ (Em h) λσ H Q=>?_;rintro⟨H0,F,ψ,b,rs,e,q⟩;have⟨c,z,e⟩:=dz e;cases e;exact⟨H0,F,ψ,c,rs,z,q⟩
def lP(h:PB X a f):iT X (.BoolOp .Or [a] pos) f:=DE h
def iy{g:FB}(ha:PB X a f)(hb:iT X (.BoolOp .Or (b::rest) pos) g):iT X (.BoolOp .Or (a::b::rest) pos) (λψ=>(f ψ).bind λc=>if c then Ga true else g ψ):=by
 refine zCH (FZ ha hb) λσ H Q=>?_;rintro⟨H0,F,ψ,b,rs,e,q⟩;have⟨c,e1,e2⟩:=dz e;refine⟨H0,F,ψ,c,rs,e1,λH1 g1=>?_⟩;cases c with
 | false=>exact mZ ⟨H0,F,ψ,b,rs.later g1,e2,λH2 g2=>q H2 (g1.trans g2)⟩
 | true=>cases e2;exact mP (q H1 g1)
def iT.b9(h:iT X e f):PB X e f:=PW.pt h
variable {f:FV}
def rz {op}(h:PV X a f):PV X (.BoolOp op [a] pos) f:=Lm h
def wz{g:FV}(ha:PV X a f)(hb:PV X (.BoolOp .And (b::rest) pos) g):PV X (.BoolOp .And (a::b::rest) pos) (λψ=>((f ψ).bind gI).bind λc=>if c then g ψ else Ga (.bool false)):=by
 refine fG (Iz ha hb) λσ H Q=>?_;rintro⟨H0,F,ψ,d,rs,e,q⟩;have⟨c,e1,e2⟩:=dz e;have⟨d',e3,e4⟩:=dz e1;cases zr e4;refine⟨H0,F,ψ,_,rs,e3,λv H1 F1 g1 f1 fh1 n1 rv=>?_⟩;cases rv;refine⟨c,rfl,?_⟩;cases c with
 | true=>exact mP ⟨H0,F1,ψ,d,rs.grow g1 f1 fh1 n1,e2,λw H2 F2 g2 f2 fh2 n2 rw2=>q w H2 F2 (g1.trans g2) (f1.trans f2) fh2 (n1.trans n2 g1) rw2⟩
 | false=>cases e2;exact mZ (q (.bl false) H1 F1 g1 f1 fh1 n1 (.bl false))
def ED{g:FV}(ha:PV X a f)(hb:PV X (.BoolOp .Or (b::rest) pos) g):PV X (.BoolOp .Or (a::b::rest) pos) (λψ=>((f ψ).bind gI).bind λc=>if c then Ga (.bool true) else g ψ):=by
 refine fG (NW ha hb) λσ H Q=>?_;rintro⟨H0,F,ψ,d,rs,e,q⟩;have⟨c,e1,e2⟩:=dz e;have⟨d',e3,e4⟩:=dz e1;cases zr e4;refine⟨H0,F,ψ,_,rs,e3,λv H1 F1 g1 f1 fh1 n1 rv=>?_⟩;cases rv;refine⟨c,rfl,?_⟩;cases c with
 | false=>exact mZ ⟨H0,F1,ψ,d,rs.grow g1 f1 fh1 n1,e2,λw H2 F2 g2 f2 fh2 n2 rw2=>q w H2 F2 (g1.trans g2) (f1.trans f2) fh2 (n1.trans n2 g1) rw2⟩
 | true=>cases e2;exact mP (q (.bl true) H1 F1 g1 f1 fh1 n1 (.bl true))
def Nk(ha:PV X a f):PV X (.UnaryOp .Not a pos) (λψ=>((f ψ).bind gI).bind λc=>Ga (.bool (!c))):=by
 refine fG (IK ha) λσ H Q=>?_;rintro⟨H0,F,ψ,d,rs,e,q⟩;have⟨c,e1,e2⟩:=dz e;have⟨d',e3,e4⟩:=dz e1;cases zr e4;cases e2;refine⟨H0,F,ψ,_,rs,e3,λv H1 F1 g1 f1 fh1 n1 rv=>?_⟩;cases rv;exact⟨c,rfl,q (.bl (!c)) H1 F1 g1 f1 fh1 n1 (.bl _)⟩
def oC{g:FV}(hc:PB X c fc)(ha:PV X a f)(hb:PV X b g):PV X (.IfExp c a b pos) (λψ=>(fc ψ).bind λk=>if k then f ψ else g ψ):=by
 refine fG (Fs hc ha hb) λσ H Q=>?_;rintro⟨H0,F,ψ,d,rs,e,q⟩;have⟨k,e1,e2⟩:=dz e;refine⟨H0,F,ψ,k,rs,e1,λH1 g1=>?_⟩;cases k with
 | true=>exact mP ⟨H0,F,ψ,d,rs.later g1,e2,λw H2 F2 g2 f2 fh2 n2 rw2=>q w H2 F2 (g1.trans g2) f2 fh2 (λb o h nb=>g1.free (n2 b o h nb)) rw2⟩
 | false=>exact mZ ⟨H0,F,ψ,d,rs.later g1,e2,λw H2 F2 g2 f2 fh2 n2 rw2=>q w H2 F2 (g1.trans g2) f2 fh2 (λb o h nb=>g1.free (n2 b o h nb)) rw2⟩
section
variable {X:Cx}{ω:List (Gj×Obj)}{σ:St}{F H:Hp}{s:Gh}
def Sv:∀ ks:List D,(ks.map λk=>(k,kP true)).map (·.1)=ks
 | []=>rfl
 | k::ks=>congrArg (k::·) (Sv ks)
mutual
def ml:D->Bool
 | .dict _=>false
 | .list xs=>mj xs
 | .tuple xs=>mj xs
 | _=>true
def mj:List D->Bool
 | []=>true
 | x::xs=>ml x&&mj xs
end
mutual
def zT:∀ {d:D},d.canLay0=true->ml d=true
 | .none,_=>by rw[ml]<;>(intros;contradiction)
 | .bool _,_=>by rw[ml]<;>(intros;contradiction)
 | .int _,_=>by rw[ml]<;>(intros;contradiction)
 | .str _,_=>by rw[ml]<;>(intros;contradiction)
 | .list xs,h=>by rw[qX] at h;rw[ml];exact Da h
 | .tuple xs,h=>by rw[qX] at h;rw[ml];exact Da h
 | .dict _,h=>by rw[qX] at h;cases h
def Da:∀ {ds:List D},ug ds=true->mj ds=true
 | [],_=>by rw[mj]
 | x::xs,h=>by
  rw[ug,ju] at h;rw[mj,zT h.1,Da h.2];rfl
end
mutual
def Lk:∀ {d:D} {n:Nat},eQ d n=true->ml d=true
 | .none,_,_=>by rw[ml]<;>(intros;contradiction)
 | .int _,_,_=>by rw[ml]<;>(intros;contradiction)
 | .tuple xs,0,h=>by rw[eQ] at h;cases h
 | .tuple xs,n+1,h=>by rw[eQ] at h;rw[ml];exact Ts h
 | .bool _,_,h=>by rw[eQ] at h;cases h
 | .str _,_,h=>by rw[eQ] at h;cases h
 | .list _,_,h=>by rw[eQ] at h;cases h
 | .dict _,_,h=>by rw[eQ] at h;cases h
def Ts:∀ {ds:List D} {n:Nat},hJ ds n=true->mj ds=true
 | [],_,_=>by rw[mj]
 | x::xs,n,h=>by
  rw[hJ,ju] at h;rw[mj,Lk h.1,Ts h.2];rfl
end
mutual
def eU.reads (I:dE X ω σ H s)(g:dA F H):∀ {d:D} {v:V},eU X.K F d v->ml d=true->∀ {u:Gg},eL v u->∃ as,Reads s.heap u d as
 | _,_,.non,_,u,r=>by cases r;exact⟨_,.none⟩
 | _,_,.bl b,_,u,r=>by cases r;exact⟨_,.bool b⟩
 | _,_,.int i,_,u,r=>by obtain⟨t,rfl⟩:=r;exact⟨_,.int i t⟩
 | _,_,.str x,_,u,r=>by obtain⟨t,rfl⟩:=r;exact⟨_,.str x t⟩
 | _,_,.tup h q,pl,u,r=>by
  cases r;rw[ml] at pl;have⟨its,rv,⟨o,e,c,n,d⟩,_⟩:=I.tuple (iu g h);have⟨as,ra⟩:=dM.reads I g q pl rv;exact⟨_,.tuple e c d (by simpa using ra)⟩
 | _,_,.lst h q,pl,u,r=>by
  cases r;rw[ml] at pl;have⟨its,rv,⟨o,n,e,c,_,d⟩,_⟩:=I.list (g.seq h);have⟨as,ra⟩:=dM.reads I g q pl rv;exact⟨_,.list e c d (by simpa using ra)⟩
 | _,_,.dic _ _ _ _,pl,u,r=>by rw[ml] at pl;cases pl
 | _,_,.dcs _ _,pl,u,r=>by rw[ml] at pl;cases pl
def dM.reads (I:dE X ω σ H s)(g:dA F H):∀ {ds:List D} {vs:List V},dM X.K F ds vs->mj ds=true->∀ {us:List Gg},eC vs us->∃ as,ReadsAll s.heap us ds as
 | _,_,.nil,_,us,r=>by cases r;exact⟨_,.nil⟩
 | _,_,.cons h t,pl,us,r=>by
  rw[mj,ju] at pl;cases r with
  | cons r1 r2 =>
   have⟨as,a⟩:=eU.reads I g h pl.1 r1;have⟨bs,b⟩:=dM.reads I g t pl.2 r2;exact⟨_,.cons a b⟩
end
end
def xr (a b:D):Bool:=a.canLay0&&b.canLay0&&decide (min a.depth b.depth<=100)
def eF (a b:D):Option D:=if xr a b then Ga (.bool (kQ a b)) else Gb
def gf (a b:D):Option D:=if xr a b then Ga (.bool (!PyData.eqv a b)) else Gb
def pU (K:ja)(g:D->D->Option D):R2:=λx y H Q=>∃ F a b d,dA F H/\eU K F a x/\eU K F b y/\g a b=Ga d/\∀ k,d=.bool k->Q (.bl k) H
def Ph {a b:D}(h:xr a b=true):a.canLay0=true/\b.canLay0=true/\min a.depth b.depth<=100:=by
 unfold xr at h;simp only[ju,decide_eq_true_eq] at h;exact⟨h.1.1,h.1.2,h.2⟩
def Of(hu:X.A.units+100<cLine):gj X (compareOp .Eq) (pU X.K eF):=by
 intro ω s σ H x y v u Q I rx ry h;obtain⟨F,a,b,d,g,ra,rb,e,q⟩:=h;unfold eF at e;split at e
 .rename_i ok;have⟨h1,h2,h3⟩:=Ph ok;have⟨as,ha⟩:=ra.reads I g (zT h1) rx;have⟨bs,hb⟩:=rb.reads I g (zT h2) ry;refine SeqAt.compareEq_reads ha hb h1 h2 (by omega) ⟨.bl _,H,I,rfl,q _ (jM e).symm⟩
 .cases e
def Mu(hu:X.A.units+100<cLine):gj X (compareOp .NotEq) (pU X.K gf):=by
 intro ω s σ H x y v u Q I rx ry h;obtain⟨F,a,b,d,g,ra,rb,e,q⟩:=h;unfold gf at e;split at e
 .rename_i ok;have⟨h1,h2,h3⟩:=Ph ok;have⟨as,ha⟩:=ra.reads I g (zT h1) rx;have⟨bs,hb⟩:=rb.reads I g (zT h2) ry;refine SeqAt.compareNe_reads ha hb h1 h2 (by omega) ⟨.bl _,H,I,rfl,q _ (jM e).symm⟩
 .cases e
def tD(hg:∀ a b d,g a b=Ga d->∃ k,d=.bool k):nX K (pU K g) g:=by
 intro F H x y a b d Q s ra rb e q;refine⟨F,a,b,d,s,ra,rb,e,λk ek=>?_⟩;subst ek;exact q (.bl k) H F (.refl _) (.refl _) s (.refl _ _) (.bl k)
def RP:∀ a b d,eF a b=Ga d->∃ k,d=.bool k:=λa b d h=>by unfold eF at h;split at h<;>cases h;exact⟨_,rfl⟩
def Se:∀ a b d,gf a b=Ga d->∃ k,d=.bool k:=λa b d h=>by unfold gf at h;split at h<;>cases h;exact⟨_,rfl⟩
def dI (C:Int->Int->Bool)(g:Int->Int->D):D->D->Option D
 | .int i,.int j=>if C i j then Ga (g i j) else Gb
 | _,_=>Gb
variable {g:Int->Int->V}{rest:List Stmt}
def Cw{C:Int->Int->Prop}{C':Int->Int->Bool}(hC:∀ i j,C' i j=true->C i j)(hg:∀ i j F,eU K F (g' i j) (g i j)):nX K (rI C g) (dI C' g'):=by
 intro F H x y a b d Q s ra rb e q;cases ra<;>cases rb<;>first|(cases e;done)|skip
 rename_i i j;unfold dI at e;dsimp only at e;split at e
 .rename_i c;cases e;exact⟨i,j,rfl,rfl,hC i j c,q _ H F (.refl _) (.refl _) s (.refl _ _) (hg i j F)⟩
 .cases e
def tY (g:Int->Int->D):D->D->Option D
 | .int i,.int j=>Ga (g i j)
 | _,_=>Gb
def il(hg:∀ i j F,eU K F (g' i j) (g i j)):nX K (sj g) (tY g'):=by
 intro F H x y a b d Q s ra rb e q;cases ra<;>cases rb<;>first|(cases e;done)|skip
 rename_i i j;cases e;exact⟨i,j,rfl,rfl,q _ H F (.refl _) (.refl _) s (.refl _ _) (hg i j F)⟩
def xI:D->D->Option D:=tY λi j=>.int (i-j)
def IR (i j:Int):Bool:=(decide (-(2^64)<i)&&decide (i<2^64))||(decide (-(2^64)<j)&&decide (j<2^64))
def Km:D->D->Option D:=dI IR λi j=>.int (i*j)
def ph:D->D->Option D:=dI (λ_ j=>decide (0<j)&&decide (j<1073741824)) λi j=>.int (i/j)
def gG:D->D->Option D:=dI (λ_ j=>decide (0<j)) λi j=>.int (i%j)
def ir:D->D->Option D:=dI (λi j=>decide (0<=j)&&decide (j<=1000000)&&decide (i.natAbs<2^64)) λi j=>.int (i^j.toNat)
def KH:D->D->Option D:=tY λi j=>.int (JU i j)
def OE:D->D->Option D:=tY λi j=>.int (JY i j)
def pH:D->D->Option D:=tY λi j=>.bool (decide (i<j))
def mf:D->D->Option D:=tY λi j=>.bool (decide (i<=j))
def AA:D->D->Option D:=tY λi j=>.bool (decide (j<i))
def PZ:D->D->Option D:=tY λi j=>.bool (decide (j<=i))
def eB:D->D->Option D
 | .int i,.int j=>Ga (.int (i+j))
 | .tuple xs,.tuple ys=>if xs.length+ys.length<=sizeLine then Ga (.tuple (xs++ys)) else Gb
 | .list xs,.list ys=>if xs.length+ys.length<=sizeLine then Ga (.list (xs++ys)) else Gb
 | .str x,.str y=>if x.length+y.length<=sizeLine then Ga (.str (x++y)) else Gb
 | _,_=>Gb
def zAJ{a b:Gj}(I:dE X ω σ H s)(ha:hU X.K H a [])(hb:hU X.K H b ys)(h:Q (.ref b) s) :
  wX X (binaryOp .Add (.ref a) (.ref b)) Q X.xe s:=by
 have⟨its,r1,p1,_⟩:=I.tuple ha;have⟨its2,r2,p2,_⟩:=I.tuple hb;cases r1;have⟨⟨cls,dd,data,sl⟩,ho,hc,n,hd⟩:=id p1;have⟨⟨cls2,dd2,data2,sl2⟩,ho2,hc2,n2,hd2⟩:=id p2;simp only at hc hd hc2 hd2;subst hc hd hc2 hd2;exact concat_meets ⟨_,ho,rfl⟩ ⟨_,ho2,rfl⟩ noFill_tuple_add seq_tuple_add vG vA (vk _ _)
   (tuple_addW0 a b #[] its2.toArray n n2 dd dd2 sl sl2 (by rfl)) ⟨ho,ho2,h⟩
def FU (K:ja):R2:=λx y H Q=>∃ F a b d,dA F H/\eU K F a x/\eU K F b y/\eB a b=Ga d/\∀ v H' F',dA H H'->dA F F'->dA F' H'->eN F F' H->eU K F' d v->Q v H'
def pW{p:Gj}(g:dA F H)(hp:H p=Gb)(pl:Pl o:=by trivial):dA H (upd H p o)/\dA F (upd F p o)/\dA (upd F p o) (upd H p o)/\eN F (upd F p o) H:=by
 have fp:F p=Gb:=g.free hp;refine⟨dA.new hp,dA.new fp,dA.up2 g fp hp pl,λb u h nb=>?_⟩
 .by_cases hb:b=p
  .subst hb;exact hp
  .rw[dG hb,nb] at h;cases h
def zCJ:gj X (binaryOp .Add) (FU X.K):=by
 intro ω s σ H x y v u Q I rx ry h;obtain⟨F,a,b,d,g,ra,rb,e,q⟩:=h;cases ra with
 | int i =>
  cases rb<;>first|(cases e;done)|skip
  cases e;exact LF ω s σ H _ _ v u Q I rx ry ⟨i,_,rfl,rfl,q _ H F (.refl _) (.refl _) g (.refl _ _) (.int _)⟩
 | str i =>
  cases rb<;>first|(cases e;done)|skip
  unfold eB at e;dsimp only at e;split at e
  .rename_i c;cases e;exact Cd ω s σ H _ _ v u Q I rx ry ⟨i,_,rfl,rfl,c,q _ H F (.refl _) (.refl _) g (.refl _ _) (.str _)⟩
  .cases e
 | @tup p xs ds h1 q1 =>
  cases rb<;>first|(cases e;done)|skip
  rename_i p2 xs2 ds2 h2 q2;unfold eB at e;dsimp only at e;split at e
  .rename_i c;cases e;by_cases hx:xs=[]
   .subst hx;cases q1;cases rx;cases ry;exact zAJ I (iu g h1) (iu g h2) ⟨.ref p2,H,I,rfl,q _ H F (.refl _) (.refl _) g (.refl _ _) (.tup h2 q2)⟩
   .refine Ib ω s σ H _ _ v u Q I rx ry ⟨p,p2,xs,xs2,rfl,rfl,iu g h1,iu g h2,hx,by rwa[<- q1.length,<- q2.length],λz=>?_,λz l hl=>?_⟩
    .subst z;cases q2;exact q _ H F (.refl _) (.refl _) g (.refl _ _) (by rw[jJ];exact .tup h1 q1)
    .obtain⟨s1,s2,s3,s4⟩:=pW (o:=.tup (xs++xs2)) g hl;exact q _ _ _ s1 s2 s3 s4 (.tup (hU.of dH) ((q1.append q2).mono s2))
  .cases e
 | @lst p xs ds h1 q1 =>
  cases rb<;>first|(cases e;done)|skip
  rename_i p2 xs2 ds2 h2 q2;unfold eB at e;dsimp only at e;split at e
  .rename_i c;cases e;cases rx;cases ry;have⟨its,r,pl,hz⟩:=I.list (g.seq h1);have⟨its2,r2,pl2,hz2⟩:=I.list (g.seq h2);obtain⟨o,n,e1,c1,d1,k1⟩:=pl;obtain⟨o2,n2,e2,c2,d2,k2⟩:=pl2;have l1:=q1.length;have l2:=q2.length;have l3:=r.length;have l4:=r2.length;obtain⟨oc,od,oda,osl⟩:=o;obtain⟨oc2,od2,oda2,osl2⟩:=o2;simp only at c1 d1 k1 c2 d2 k2;subst c1 d1 k1 c2 d2 k2;refine concat_meets ⟨_,e1,rfl⟩ ⟨_,e2,rfl⟩ noFill_list_add seq_list_add PySem.F.slot_list_add PySem.F.entry_list_add (PySem.F.args_list_add_2 _ _)
    (list_addW p p2 its.toArray its2.toArray n n2 _ _ _ _ (by rw[ji,ji];omega)) ⟨e1,e2,?_⟩
   have ea:its.toArray++its2.toArray=(its++its2).toArray:=by simp
   rw[ea];have⟨s1,s2,s3,s4⟩:=pW (o:=.lst (xs++xs2)) g I.fresh;exact⟨.ref _,_,I.lnew (t':=s.toks) (r.append r2) (by rw[jA];omega),rfl,q _ _ _ s1 s2 s3 s4 (.lst (fQ.of dH) ((q1.append q2).mono s2))⟩
  .cases e
 | non=>cases e
 | bl k=>cases e
 | dic hs h ok r=>cases e
 | dcs h r=>cases e
def Zx:nX K (FU K) eB:=λF H x y a b d Q s ra rb e q=>⟨F,a,b,d,s,ra,rb,e,q⟩
variable {g:FV}
def fK (ha:PV X a f)(hb:PV X b g):PV X (.BinOp a .Add b pos) (λψ=>(f ψ).bind λx=>(g ψ).bind λy=>eB x y):=sK zCJ Zx ha hb
def Ew (ha:PV X a f)(hb:PV X b g):PV X (.BinOp a .Sub b pos) (λψ=>(f ψ).bind λx=>(g ψ).bind λy=>xI x y):=sK Lh (il λ_ _ _=>.int _) ha hb
def zGQ (ha:PV X a f)(hb:PV X b g):PV X (.BinOp a .Mult b pos) (λψ=>(f ψ).bind λx=>(g ψ).bind λy=>Km x y) :=
 sK MA (Cw (λi j h=>by simpa [IR,BP] using h) λ_ _ _=>.int _) ha hb
def Wl (ha:PV X a f)(hb:PV X b g):PV X (.BinOp a .FloorDiv b pos) (λψ=>(f ψ).bind λx=>(g ψ).bind λy=>ph x y) :=
 sK Ia (Cw (λi j h=>by simpa [Mm] using h) λ_ _ _=>.int _) ha hb
def sC (ha:PV X a f)(hb:PV X b g):PV X (.BinOp a .Mod b pos) (λψ=>(f ψ).bind λx=>(g ψ).bind λy=>gG x y) :=
 sK Ig (Cw (λi j h=>by simpa using h) λ_ _ _=>.int _) ha hb
def DC (ha:PV X a f)(hb:PV X b g):PV X (.BinOp a .Pow b pos) (λψ=>(f ψ).bind λx=>(g ψ).bind λy=>ir x y) :=
 sK Kz (Cw (λi j h=>by simpa [Nb,and_assoc] using h) λ_ _ _=>.int _) ha hb
def YI (ha:PV X a f)(hb:PV X b g):PV X (.BinOp a .BitAnd b pos) (λψ=>(f ψ).bind λx=>(g ψ).bind λy=>KH x y):=sK La (il λ_ _ _=>.int _) ha hb
def zGR (ha:PV X a f)(hb:PV X b g):PV X (.BinOp a .BitOr b pos) (λψ=>(f ψ).bind λx=>(g ψ).bind λy=>OE x y):=sK NO (il λ_ _ _=>.int _) ha hb
def Lr (ha:PV X a f)(hb:PV X b g):PV X (.Compare a [.Lt] [b] pos) (λψ=>(f ψ).bind λx=>(g ψ).bind λy=>pH x y):=yq pT (il λ_ _ _=>.bl _) ha hb
def WK (ha:PV X a f)(hb:PV X b g):PV X (.Compare a [.LtE] [b] pos) (λψ=>(f ψ).bind λx=>(g ψ).bind λy=>mf x y):=yq ii (il λ_ _ _=>.bl _) ha hb
def WL (ha:PV X a f)(hb:PV X b g):PV X (.Compare a [.Gt] [b] pos) (λψ=>(f ψ).bind λx=>(g ψ).bind λy=>AA x y):=yq GV (il λ_ _ _=>.bl _) ha hb
def XF (ha:PV X a f)(hb:PV X b g):PV X (.Compare a [.GtE] [b] pos) (λψ=>(f ψ).bind λx=>(g ψ).bind λy=>PZ x y):=yq NH (il λ_ _ _=>.bl _) ha hb
def on (hu:X.A.units+100<cLine)(ha:PV X a f)(hb:PV X b g):PV X (.Compare a [.Eq] [b] pos) (λψ=>(f ψ).bind λx=>(g ψ).bind λy=>eF x y):=yq (Of hu) (tD RP) ha hb
def Xb (hu:X.A.units+100<cLine)(ha:PV X a f)(hb:PV X b g):PV X (.Compare a [.NotEq] [b] pos) (λψ=>(f ψ).bind λx=>(g ψ).bind λy=>gf x y):=yq (Mu hu) (tD Se) ha hb
def Nf (ha:PV X a f)(hb:PV X b g):PB X (.Compare a [.Lt] [b] pos) (λψ=>((f ψ).bind λx=>(g ψ).bind λy=>pH x y).bind gI):=xi pT (il λ_ _ _=>.bl _) ha hb
def Xx (ha:PV X a f)(hb:PV X b g):PB X (.Compare a [.LtE] [b] pos) (λψ=>((f ψ).bind λx=>(g ψ).bind λy=>mf x y).bind gI):=xi ii (il λ_ _ _=>.bl _) ha hb
def EK (ha:PV X a f)(hb:PV X b g):PB X (.Compare a [.Gt] [b] pos) (λψ=>((f ψ).bind λx=>(g ψ).bind λy=>AA x y).bind gI):=xi GV (il λ_ _ _=>.bl _) ha hb
def fE (hu:X.A.units+100<cLine)(ha:PV X a f)(hb:PV X b g):PB X (.Compare a [.Eq] [b] pos) (λψ=>((f ψ).bind λx=>(g ψ).bind λy=>eF x y).bind gI):=xi (Of hu) (tD RP) ha hb
def mR (hu:X.A.units+100<cLine)(ha:PV X a f)(hb:PV X b g):PB X (.Compare a [.NotEq] [b] pos) (λψ=>((f ψ).bind λx=>(g ψ).bind λy=>gf x y).bind gI):=xi (Mu hu) (tD Se) ha hb
def tSh (K:ja)(f:FL):TE:=λσ H Q=>∃ H0 F ψ ds,RS K H0 F H ψ σ/\f ψ=Ga ds /\
 ∀ a xs H' F',dA H H'->dA F F'->dA F' H'->eN F F' H->fQ K H' a xs->dM K F' ds xs->Q (.ref a) H'
abbrev rq (X:Cx)(e:Expr)(f:FL):Prop:=PE X e (tSh X.K f)
def An:D->Option (List D)
 | .list xs=>Ga xs
 | _=>Gb
def AJ:D->Option (List D)
 | .tuple xs=>Ga xs
 | _=>Gb
def Pd{xs:List D}(h:An d=Ga xs):d=.list xs:=by cases d<;>cases h;rfl
def zAK{xs:List D}(h:AJ d=Ga xs):d=.tuple xs:=by cases d<;>cases h;rfl
def gl (i:Nat):FL:=λψ=>match ψ[i]? with
 | some (.own ds)=>Ga ds
 | some (.val (.list ds))=>Ga ds
 | _=>Gb
def PV.sh(h:PV X e f):rq X e (λψ=>(f ψ).bind An):=by
 refine fG h λσ H Q=>?_;rintro⟨H0,F,ψ,ds,r,e,q⟩;have⟨d,e1,e2⟩:=dz e;cases Pd e2;refine⟨H0,F,ψ,_,r,e1,λv H' F' g f1 fh n rv=>?_⟩;cases rv with
 | lst h1 h2=>exact q _ _ H' F' g f1 fh n (fh.seq h1) h2
def PO.sh{f:FL}(h:PO X e f):rq X e f:=by
 refine fG h λσ H Q=>?_;rintro⟨H0,F,ψ,ds,r,e,q⟩;exact⟨H0,F,ψ,ds,r,e,λa xs H' F' g f1 fh n ha fa ha' rr=>q a xs H' F' g f1 fh n (fQ.of ha') rr⟩
def Kf (i:Nat)(hN:X.N[i]?=Ga x:=by rfl)(hv:lK X.env.scope x:=by ac_rfl)(hd:Nd x:=by decide)
  (hcd:(x==("__classdict__":Str))=false:=by decide):rq X (.Name x pos) (gl i):=by
 refine fG (gz hN hv hd hcd) λσ H Q=>?_;rintro⟨H0,F,ψ,ds,r,e,q⟩;unfold gl at e;split at e
 .rename_i ds' z;cases e;have⟨u,e1,a,xs,e2,ha,fa,h0a,rr⟩:=r.sl i _ z;subst e2;exact⟨.ref a,e1,q a xs H F (.refl _) (.refl _) r.fh (.refl _ _) (fQ.of ha) rr⟩
 .rename_i ds' z;cases e;have⟨u,e1,v,e2,h⟩:=r.sl i _ z;subst e2;cases h with
  | lst h1 h2=>exact⟨_,e1,q _ _ H F (.refl _) (.refl _) r.fh (.refl _ _) (r.fh.seq h1) h2⟩
 .cases e
def gy:D->D->Option D
 | .list xs,.int i=>atI xs i
 | .tuple xs,.int i=>atI xs i
 | _,_=>Gb
def dM.at{vs:List V}(r:dM K F ds vs){i:Int}(h:atI ds i=Ga d):∃ v,atI vs i=Ga v/\eU K F d v:=by
 unfold atI at h ⊢;rw[<- r.length];have⟨j,e1,e2⟩:=dz h;have⟨v,e3,e4⟩:=r.get e2;exact⟨v,by rwa[e1],e4⟩
def Re:nX K (On K) gy:=by
 intro F H x y a b d Q s ra rb e q;cases ra<;>first|(cases e;done)|skip
 .rename_i p xs ds h1 h2;cases rb<;>first|(cases e;done)|skip
  rename_i i;have⟨v,e1,e2⟩:=h2.at e;exact .inr (.inl ⟨p,xs,i,v,rfl,rfl,iu s h1,e1,q v H F (.refl _) (.refl _) s (.refl _ _) e2⟩)
 .rename_i p xs ds h1 h2;cases rb<;>first|(cases e;done)|skip
  rename_i i;have⟨v,e1,e2⟩:=h2.at e;exact .inl ⟨p,xs,i,v,rfl,rfl,s.seq h1,e1,q v H F (.refl _) (.refl _) s (.refl _ _) e2⟩
def fC(ha:PV X a f)(hb:PV X b g)(hs:sW b:=by exact λ_ _=>rfl):PV X (.Subscript a b pos) (λψ=>(f ψ).bind λx=>(g ψ).bind λy=>gy x y) :=
 fG (BI CW ha hb hs) λ_ _ _ h=>CM Re h
def EW (xs:List D):D->Option D
 | .int i=>atI xs i
 | _=>Gb
def Sg{f:FL}(ha:rq X a f)(hb:PV X b g)(hs:sW b:=by exact λ_ _=>rfl):PV X (.Subscript a b pos) (λψ=>(f ψ).bind λx=>(g ψ).bind λy=>EW x y):=by
 refine fG (BI Av ha hb hs) λσ H Q=>?_;rintro⟨H0,F,ψ,d,r,e,q⟩;have⟨ds,e1,e⟩:=dz e;have⟨b,e2,e⟩:=dz e;refine⟨H0,F,ψ,ds,r,e1,λp xs H1 F1 g1 f1 fh1 n1 hl rr=>⟨H0,F1,ψ,b,r.grow g1 f1 fh1 n1,e2,λu H2 F2 g2 f2 fh2 n2 ru=>?_⟩⟩;cases ru<;>first|(cases e;done)|skip
 rename_i i;have⟨v,e3,e4⟩:=rr.at e;exact⟨p,xs,i,v,rfl,rfl,g2.seq hl,e3,q v H2 F2 (g1.trans g2) (f1.trans f2) fh2 (n1.trans n2 g1) (e4.mono f2)⟩
def xQ{id:String}(hc:gk X (.builtin id) r)(hg:Gl X x)(hm:X.mg x=Gb)(hv:bootBuiltins x=Ga (.builtin id))(ha:PE X e te)
  (hn:x≠"__name__":=by decide) (hdb:Nd x:=by decide) (hs:Sb X e:=by rfl):PE X (.Call (.Name x p) [e] [] pos) (λσ H Q=>te σ H λv H1=>r [v] H1 Q) :=
 fG (oa hc hg hm hv (eY ha fY hs) hn hdb hs (by rfl)) λσ H Q h=>h
def Bt{id:String}(hc:gk X (.type id) r)(hg:Gl X x)(hm:X.mg x=Gb)(hv:bootBuiltins x=Ga (.type id))(ha:PE X e te)
  (hn:x≠"__name__":=by decide) (hdb:Nd x:=by decide) (hs:Sb X e:=by rfl):PE X (.Call (.Name x p) [e] [] pos) (λσ H Q=>te σ H λv H1=>r [v] H1 Q) :=
 fG (CU hc hg hm hv (eY ha fY hs) hn hdb hs (by rfl)) λσ H Q h=>h
def lN:D->Option D
 | .list xs=>Ga (.int xs.length)
 | .tuple xs=>Ga (.int xs.length)
 | _=>Gb
def oS(hg:Gl X "len")(hm:X.mg "len"=Gb)(ha:PV X e f)(hs:Sb X e:=by rfl):PV X (.Call (.Name "len" p) [e] [] pos) (λψ=>(f ψ).bind lN):=by
 refine fG (xQ og hg hm qY ha (hs:=hs)) λσ H Q=>?_;rintro⟨H0,F,ψ,d,r,e,q⟩;have⟨d',e1,e⟩:=dz e;refine⟨H0,F,ψ,d',r,e1,λv H1 F1 g1 f1 fh1 n1 rv=>?_⟩;cases rv<;>first|(cases e;done)|skip
 .rename_i p xs ds h1 h2;cases e;exact⟨p,xs,rfl,.inr (iu fh1 h1),q _ H1 F1 g1 f1 fh1 n1 (by rw[h2.length];exact .int _)⟩
 .rename_i p xs ds h1 h2;cases e;exact⟨p,xs,rfl,.inl (fh1.seq h1),q _ H1 F1 g1 f1 fh1 n1 (by rw[h2.length];exact .int _)⟩
def yC{f:FL}(hg:Gl X "tuple")(hm:X.mg "tuple"=Gb)(ha:rq X e f)(hs:Sb X e:=by rfl):PV X (.Call (.Name "tuple" p) [e] [] pos) (λψ=>(f ψ).bind λxs=>Ga (.tuple xs)):=by
 refine fG (Bt yI hg hm boot_tuple ha (hs:=hs)) λσ H Q=>?_;rintro⟨H0,F,ψ,d,r,e,q⟩;have⟨ds,e1,e⟩:=dz e;cases e;refine⟨H0,F,ψ,ds,r,e1,λp xs H1 F1 g1 f1 fh1 n1 hl rr=>⟨p,xs,rfl,.inl ⟨hl,λl hl'=>?_⟩⟩⟩;have⟨s1,s2,s3,s4⟩:=pW (o:=.tup xs) fh1 hl';exact q _ _ _ (g1.trans s1) (f1.trans s2) s3 (n1.trans s4 g1) (.tup (hU.of dH) (rr.mono s2))
def Hs:D->String
 | .none=>"NoneType"|.bool _=>"bool"|.int _=>"int"|.str _=>"str"|.list _=>"list"|.tuple _=>"tuple"|.dict _=>"dict"
def Ho (T:String)(d:D):Bool:=Hs d==T||(T=="int"&&Hs d=="bool")
def GH:List String:=["int","bool","str","list","tuple"]
def zCL(hT:T∈GH)(d:D):jy K (.type (Hs d)) (.type T)=Ga (Ho T d):=by
 simp only[GH,jz,jQ,or_false] at hT;rcases hT with rfl|rfl|rfl|rfl|rfl<;>cases d<;>ext
def zGS(I:dE X ω σ H s)(g:dA F H)(r:eU X.K F d v)(ru:eL v u):∃ P,PySem.W.KitX X.K u (.type (Hs d)) P/\P s.heap:=by
 cases r with
 | non=>cases ru;exact⟨_,PySem.W.kitx_none,True.intro⟩
 | bl b=>cases ru;exact⟨_,PySem.W.kitx_bool,True.intro⟩
 | int i=>obtain⟨t,rfl⟩:=ru;exact⟨_,PySem.W.kitx_int,True.intro⟩
 | str x=>obtain⟨t,rfl⟩:=ru;exact⟨_,PySem.W.kitx_str,True.intro⟩
 | tup h q=>cases ru;have⟨its,rv,⟨o,e,c,n,d⟩,_⟩:=I.tuple (iu g h);exact⟨_,PySem.W.kitx_tuple,⟨o,e,c⟩⟩
 | lst h q=>cases ru;have⟨its,rv,⟨o,n,e,c,_,d⟩,_⟩:=I.list (g.seq h);exact⟨_,PySem.W.kitx_list,⟨o,e,c⟩⟩
 | dic sm h ok q=>cases ru;have⟨⟨o,es,e,c,d,k⟩,_,_⟩:=(show gH X.prog X.w H s.heap _ (.ext _) from I.hok _ _ (g _ _ h));exact⟨_,Jx,⟨o,e,c.1⟩⟩
 | dcs h q=>cases ru;have⟨_,_,vs,_,o,es,ep,e,c,_⟩:=wP I.hok (Rd.mono g h);exact⟨_,Jx,⟨o,e,c.1⟩⟩
def YD(r:eL v u):u≠.builtin "__main__.__loader__#opaque":=by
 intro z;subst z;cases v<;>first|(cases r;done)|(obtain⟨t,q⟩:=r;cases q)
def zxO(hT:T∈GH):gk X (.builtin "isinstance") (λxs H Q=>∃ F d x,xs=[x,.ty T]/\dA F H/\eU X.K F d x/\Q (.bl (Ho T d)) H):=by
 intro ω s σ H xs us Q I r h;obtain⟨F,d,x,rfl,g,rx,q⟩:=h;obtain⟨u,w',rfl,r1,r2⟩:=yJ r;cases r2;have⟨P,Z,z⟩:=zGS I g rx r1;exact JO Z I.kIn z (zCL hT d) (YD r1) λtk=>⟨.bl _,H,I.tok tk,rfl,q⟩
def Tq(hg:Gl X x)(hm:X.mg x=Gb)(hv:bootBuiltins x=Ga (.type T))(hn:x≠"__name__":=by decide)(hd:Nd x:=by decide):PE X (.Name x pos) (tC (.ty T)) :=
 λ_ _ _ H _ I h=>oA I hg hm hv ⟨.ty T,H,I,rfl,h⟩ hn hd
def yo(hT:T∈GH)(hg:Gl X "isinstance")(hm:X.mg "isinstance"=Gb)(hg2:Gl X x)(hm2:X.mg x=Gb)(hv:bootBuiltins x=Ga (.type T))(ha:PV X e f)
  (hn:x≠"__name__":=by decide) (hd:Nd x:=by decide)
  (hs:starEach [e,.Name x p2] X.env=(false,eval e X.env)::starEach [.Name x p2] X.env:=by rfl) (hs2:starEach [.Name x p2] X.env=[(false,eval (.Name x p2) X.env)]:=by rfl) :
  PV X (.Call (.Name "isinstance" p) [e,.Name x p2] [] pos) (λψ=>(f ψ).bind λd=>Ga (.bool (Ho T d))):=by
 refine fG (oa (zxO hT) hg hm boot_isinstance (eY ha (eY (Tq (pos:=p2) hg2 hm2 hv hn hd) fY hs2) hs) (by decide) (by decide) hs (by unfold Sc;rw[hs2];rfl)) λσ H Q=>?_;rintro⟨H0,F,ψ,d,r,e,q⟩;have⟨d',e1,e⟩:=dz e;cases e;refine⟨H0,F,ψ,d',r,e1,λv H1 F1 g1 f1 fh1 n1 rv=>?_⟩;exact⟨F1,d',v,rfl,fh1,rv,q _ H1 F1 g1 f1 fh1 n1 (.bl _)⟩
inductive gY where
 | nx (ψ:En)|rt (d:D)|ro (ds:List D)|bk (ψ:En)|ct (ψ:En)|rc (d:D) (ψ:En)
abbrev FS:=En->Option gY
def Ak (K:ja)(H0 F:Hp)(E:sR):gY->Prop
 | .nx ψ=>∀ σ' H' F',dA F F'->eN F F' H0->RS K H0 F' H' ψ σ'->E.nx σ' H'
 | .bk ψ=>∀ σ' H' F',dA F F'->eN F F' H0->RS K H0 F' H' ψ σ'->E.bk σ' H'
 | .ct ψ=>∀ σ' H' F',dA F F'->eN F F' H0->RS K H0 F' H' ψ σ'->E.ct σ' H'
 | .rt d=>∀ v H' F',dA H0 H'->dA F F'->dA F' H'->eN F F' H0->eU K F' d v->E.rt v H'
 | .ro ds=>∀ a xs H' F',dA H0 H'->dA F F'->dA F' H'->eN F F' H0->H0 a=Gb->F' a=Gb->H' a=Ga (.lst xs)->dM K F' ds xs->E.rt (.ref a) H'
 | .rc d ψ=>∀ v σ' H' F',dA F F'->eN F F' H0->RS K H0 F' H' ψ σ'->eU K F' d v->E.rt v H'
def eN.up {F2:Hp}(a:eN F F1 H0)(b:eN F1 F2 H0):eN F F2 H0:=a.trans b (.refl _)
def eN.dn(a:eN F F1 H)(s:dA H0 H):eN F F1 H0:=λb o h n=>s.free (a b o h n)
def Ak.mono{E:sR}{o:gY}(f:dA F F1)(n:eN F F1 H0)(p:Ak K H0 F E o):Ak K H0 F1 E o:=by
 cases o with
 | nx ψ=>exact λσ' H' F' f2 n2 r=>p σ' H' F' (f.trans f2) (n.up n2) r
 | bk ψ=>exact λσ' H' F' f2 n2 r=>p σ' H' F' (f.trans f2) (n.up n2) r
 | ct ψ=>exact λσ' H' F' f2 n2 r=>p σ' H' F' (f.trans f2) (n.up n2) r
 | rt d=>exact λv H' F' g f2 fh n2 r=>p v H' F' g (f.trans f2) fh (n.up n2) r
 | ro ds=>exact λa xs H' F' g f2 fh n2 h1 h2 h3 r=>p a xs H' F' g (f.trans f2) fh (n.up n2) h1 h2 h3 r
 | rc d ψ=>exact λv σ' H' F' f2 n2 r q=>p v σ' H' F' (f.trans f2) (n.up n2) r q
def Nc (K:ja)(g:FS):TS:=λE σ H=>∃ H0 F ψ o,RS K H0 F H ψ σ/\g ψ=Ga o/\Ak K H0 F E o
abbrev im (X:Cx)(st:Stmt)(g:FS):Prop:=PS X st (Nc X.K g)
abbrev fT (X:Cx)(st:List Stmt)(g:FS):Prop:=lc X st (Nc X.K g)
noncomputable def mT (o:Option gY)(k:FS):Option gY:=o.bind λo=>match o with
 | .nx ψ=>k ψ
 | o=>Ga o
def fy:fT X [] (λψ=>Ga (.nx ψ)):=by
 refine yp HR λE σ H=>?_;rintro⟨H0,F,ψ,o,r,e,p⟩;cases e;exact p σ H F (.refl _) (.refl _ _) r
variable {g:FS}{a:Gj}{r:R2}
def dW{k:FS}(h1:im X st g)(h2:fT X rest k):fT X (st::rest) (λψ=>mT (g ψ) k):=by
 refine yp (oq h1 h2) λE σ H=>?_;rintro⟨H0,F,ψ,o,r,e,p⟩;have⟨o1,e1,e2⟩:=dz e;refine⟨H0,F,ψ,o1,r,e1,?_⟩;cases o1 with
 | nx env1=>exact λσ' H' F' f n r'=>⟨H0,F',env1,o,r',e2,p.mono f n⟩
 | rt d=>cases e2;exact p
 | ro d=>cases e2;exact p
 | rc a d=>cases e2;exact p
 | bk d=>cases e2;exact p
 | ct d=>cases e2;exact p
def dP(h1:im X st g):fT X [st] g:=xC h1
def VB (i:Nat)(h:im X st g):im X st (λψ=>g (frzAt i ψ)):=by
 refine iR h λE σ H=>?_;rintro⟨H0,F,ψ,o,r,e,p⟩;have⟨F',f,n,r'⟩:=r.frzAt i;exact⟨H0,F',_,o,r',e,p.mono f n⟩
def eA(h:PV X e f):im X (.Return (Ga e) pos) (λψ=>(f ψ).bind λd=>Ga (.rt d)):=by
 refine iR (rR h) λE σ H=>?_;rintro⟨H0,F,ψ,o,r,e,p⟩;have⟨d,e1,e⟩:=dz e;cases e;exact⟨H0,F,ψ,d,r,e1,λv H' F' g f1 fh n rv=>p v H' F' (r.h0.trans g) f1 fh (n.dn r.h0) rv⟩
def Lb{f:FL}(h:PO X e f):im X (.Return (Ga e) pos) (λψ=>(f ψ).bind λd=>Ga (.ro d)):=by
 refine iR (rR h) λE σ H=>?_;rintro⟨H0,F,ψ,o,r,e,p⟩;have⟨d,e1,e⟩:=dz e;cases e;exact⟨H0,F,ψ,d,r,e1,λa xs H' F' g f1 fh n ha fa ha' rr=>p a xs H' F' (r.h0.trans g) f1 fh (n.dn r.h0) (r.h0.free ha) fa ha' rr⟩
def go (i:Nat):FL:=λψ=>match ψ[i]? with
 | some (.own ds)=>Ga ds
 | _=>Gb
def RO (i:Nat)(hN:X.N[i]?=Ga x:=by rfl)(hv:lK X.env.scope x:=by ac_rfl)(hd:Nd x:=by decide)
  (hcd:(x==("__classdict__":Str))=false:=by decide):im X (.Return (Ga (.Name x p)) pos) (λψ=>(go i ψ).bind λd=>Ga (.ro d)):=by
 refine iR (rR (gz hN hv hd hcd)) λE σ H=>?_;rintro⟨H0,F,ψ,o,r,e,p⟩;have⟨ds,e1,e⟩:=dz e;cases e;unfold go at e1;split at e1
 .rename_i ds' z;cases e1;have⟨u,e1,a,xs,e2,ha,fa,h0a,rr⟩:=r.sl i _ z;subst e2;exact⟨.ref a,e1,p a xs H F r.h0 (.refl _) r.fh (.refl _ _) h0a fa ha rr⟩
 .cases e1
def eO{a b:List Stmt}{k:FS}(hc:PB X c fc)(ha:fT X a g)(hb:fT X b k):im X (.If c a b pos) (λψ=>(fc (frz ψ)).bind λt=>if t then g ψ else k ψ):=by
 refine iR (xf hc ha hb) λE σ H=>?_;rintro⟨H0,F,ψ,o,r,e,p⟩;have⟨t,e1,e⟩:=dz e;refine⟨H0,H,frz ψ,t,r.frz,e1,λH' g'=>?_⟩;cases t with
 | true=>exact mP ⟨H0,F,ψ,o,r.later g',e,p⟩
 | false=>exact mZ ⟨H0,F,ψ,o,r.later g',e,p⟩
def eR (i:Nat)(h:PV X e f)(hN:X.N.Nodup)(hi:X.N[i]?=Ga x:=by rfl)(hx:rE X.env.scope x:=by ac_rfl)
  (hs:swapsWith e (Ga (.Name x pos')) pos.line X.env=pure false:=by rfl) (hf:Sd X x:=by ac_rfl) :
  im X (.Assign [.Name x pos'] e pos) (λψ=>(f ψ).bind λd=>Ga (.nx (ψ.set i (.val d)))):=by
 intro ω s σ H D I hw;refine pG hN hi hx h hs hf ω s σ H D I ?_;obtain⟨H0,F,ψ,o,r,e,p⟩:=hw;have⟨d,e1,e⟩:=dz e;cases e;have hl:i<σ.length:=by rw[I.len];exact(je.mp hi).1
 exact⟨H0,F,ψ,d,r,e1,λv H' F' g f1 fh n rv=>p _ H' F' f1 (n.dn r.h0) ((r.grow g f1 fh n).put hl rv)⟩
def LY (i:Nat){f:FL}(h:PO X e f)(hN:X.N.Nodup)(hi:X.N[i]?=Ga x:=by rfl)(hx:rE X.env.scope x:=by ac_rfl)
  (hs:swapsWith e (Ga (.Name x pos')) pos.line X.env=pure false:=by rfl) (hf:Sd X x:=by ac_rfl) :
  im X (.Assign [.Name x pos'] e pos) (λψ=>(f ψ).bind λd=>Ga (.nx (ψ.set i (.own d)))):=by
 intro ω s σ H D I hw;refine pG hN hi hx h hs hf ω s σ H D I ?_;obtain⟨H0,F,ψ,o,r,e,p⟩:=hw;have⟨d,e1,e⟩:=dz e;cases e;have hl:i<σ.length:=by rw[I.len];exact(je.mp hi).1
 refine⟨H0,F,ψ,d,r,e1,λa xs H' F' g f1 fh n ha fa ha' rr=>p _ H' F' f1 (n.dn r.h0) ((r.grow g f1 fh n).putO hl ha' fa (r.h0.free ha) rr ?_)⟩;exact λj s o _ ej=>r.ne_free ha j s o ej
def PD (i:Nat){p3:Pos}(h:PV X e f)(hN:X.N[i]?=Ga x:=by rfl)(hv:lK X.env.scope x:=by ac_rfl)
  (hst:Sb X e:=by rfl) (hline:(p2.endLine==p3.line)=true:=by rfl)
  (hd:Nd x:=by decide) (hcd:(x==("__classdict__":Str))=false:=by decide)
  (hs:swapsWith (.Call (.Attribute (.Name x p) "append" p2) [e] [] p3) Gb pos.line X.env=pure false:=by rfl) :
  im X (.Expr (.Call (.Attribute (.Name x p) "append" p2) [e] [] p3) pos) (λψ=>(go i ψ).bind λds=>(f ψ).bind λd=>if ds.length<1000000 then Ga (.nx (ψ.set i (.own (ds++[d])))) else Gb):=by
 refine iR (AW (pQ vB PySem.F.slot_list_append PySem.F.type_list_append xU (gz (pos:=p) hN hv hd hcd) (eY h fY hst) rfl (by rw[hst];rfl) hline hst rfl) hs) λE σ H=>?_;rintro⟨H0,F,ψ,o,r,e,p⟩;have⟨ds,e1,e⟩:=dz e;have⟨d,e2,e⟩:=dz e;split at e;rotate_left
 .cases e
 rename_i hz;cases e;unfold go at e1;split at e1;rotate_left
 .cases e1
 rename_i ds' z;cases e1;have⟨u,e3,a,xs,e4,ha,fa,h0a,rr⟩:=r.sl i _ z;subst e4;refine⟨.ref a,e3,.inl ⟨rfl,xs,fQ.of ha⟩,H0,F,ψ,d,r,e2,λv H' F' g f1 fh n rv=>?_⟩;have r2:=r.grow g f1 fh n;have⟨u2,e5,a2,xs2,e6,ha2,fa2,h0a2,lv⟩:=r2.sl i _ z;rw[e3] at e5;cases e5;cases e6;have ex:xs2=xs:=by have:=g a _ ha;rw[ha2] at this;cases this;rfl
 subst ex;refine⟨a,xs2,v,rfl,rfl,ha2,?_,?_⟩
 .rw[<- lv.length];exact jf hz (by rw[sizeLine_eq];decide)
 .exact p σ _ F' f1 (n.dn r.h0) (r2.chg z e3 (lv.append (.cons rv .nil)))
abbrev FT:=D->En->Option En
def tG (K:ja)(t:FT):TG:=λv σ H Q=>∃ H0 F ψ d env',RS K H0 F H ψ σ/\eU K F d v/\t d ψ=Ga env'/\∀ σ',RS K H0 F H env' σ'->Q σ' H
abbrev sQ (X:Cx)(tg:Expr)(t:FT):Prop:=PG X tg (tG X.K t)
def tGs (K:ja)(t:List D->En->Option En):ww:=λvs σ H Q=>∃ H0 F ψ ds env',RS K H0 F H ψ σ/\dM K F ds vs/\t ds ψ=Ga env'/\∀ σ',RS K H0 F H env' σ'->Q σ' H
abbrev Ac (X:Cx)(tg:List Expr)(t:List D->En->Option En):Prop:=yT X tg (tGs X.K t)
def zCM{t t':TG}(h:PG X tg t)(m:∀ v σ H Q,t' v σ H Q->t v σ H Q):PG X tg t':=λω s σ H v u Q I r q=>h ω s σ H v u Q I r (m _ _ _ _ q)
def Os {tg:List Expr}{t t':ww}(h:yT X tg t)(m:∀ v σ H Q,t' v σ H Q->t v σ H Q):yT X tg t':=λω s σ H v u Q I r q=>h ω s σ H v u Q I r (m _ _ _ _ q)
def FQ (i:Nat)(hN:X.N.Nodup)(hi:X.N[i]?=Ga x:=by rfl)(hx:rE X.env.scope x:=by ac_rfl)(hf:Sd X x:=by ac_rfl) :
  sQ X (.Name x pos) (λd ψ=>Ga (ψ.set i (.val d))):=by
 intro ω s σ H v u Q I r hw;refine HM hN hi hx hf ω s σ H v u Q I r ?_;obtain⟨H0,F,ψ,d,env',rs,rv,e,q⟩:=hw;cases e;have hl:i<σ.length:=by rw[I.len];exact(je.mp hi).1
 exact q _ (rs.put hl rv)
def zEs:Ac X [] (λds ψ=>match ds with|[]=>Ga ψ|_=>Gb):=by
 refine Os HS λvs σ H Q=>?_;rintro⟨H0,F,ψ,ds,env',rs,rv,e,q⟩;cases rv with
 | nil=>cases e;exact⟨rfl,q σ rs⟩
 | cons _ _=>cases e
variable {t:FT}
def zCN{u:List D->En->Option En}(h1:sQ X e t)(h2:Ac X es u)(hs:(assignEach (e::es) X.env).map (·.2)=assign e X.env::(assignEach es X.env).map (·.2):=by rfl) :
  Ac X (e::es) (λds ψ=>match ds with|d::r=>(t d ψ).bind λenv1=>u r env1|[]=>Gb):=by
 refine Os (Ff h1 h2 hs) λvs σ H Q=>?_;rintro⟨H0,F,ψ,ds,env',rs,rv,e,q⟩;cases rv with
 | nil=>cases e
 | @cons d v ds vs h t =>
  have⟨env1,e1,e2⟩:=dz e;exact⟨v,vs,rfl,H0,F,ψ,d,env1,rs,h,e1,λσ1 r1=>⟨H0,F,env1,ds,env',r1,t,e2,q⟩⟩
def zGT{t:List D->En->Option En}(hc:X.calm=true)(h:Ac X es t)(hl:∀ ds ψ env',t ds ψ=Ga env'->ds.length=es.length)
  (hn:(assignEach es X.env).length=es.length:=by rfl) (hst:(assignEach es X.env).findIdx? (·.1)=Gb:=by rfl):sQ X (.Tuple es k pos) (λd ψ=>(AJ d).bind λds=>t ds ψ):=by
 refine zCM (LU hc h hn hst) λv σ H Q=>?_;rintro⟨H0,F,ψ,d,env',rs,rv,e,q⟩;have⟨ds,e1,e2⟩:=dz e;cases zAK e1;cases rv with
 | @tup a xs _ h1 rr=>exact⟨a,xs,rfl,iu rs.fh h1,by rw[<- rr.length];exact hl _ _ _ e2,H0,F,ψ,ds,env',rs,rr,e2,q⟩
def zGU(he:PV X e f)(hg:sQ X tg t)(hs:swapsWithSole [tg] e pos.line X.env=pure false:=by rfl)(hw:swappedStores [tg] e X.env=pure Gb:=by rfl)
  (h1:(assignEach [tg] X.env).map (·.2)=[assign tg X.env]:=by rfl):im X (.Assign [tg] e pos) (λψ=>(f ψ).bind λd=>(t d ψ).bind λenv1=>Ga (.nx env1)):=by
 refine iR (Dp he hg hs hw h1) λE σ H=>?_;rintro⟨H0,F,ψ,o,r,e,p⟩;have⟨d,e1,e⟩:=dz e;have⟨env1,e2,e⟩:=dz e;cases e;exact⟨H0,F,ψ,d,r,e1,λv H' F' g f1 fh n rv=>⟨H0,F',ψ,d,env1,r.grow g f1 fh n,rv,e2,λσ' r'=>p σ' H' F' f1 (n.dn r.h0) r'⟩⟩
def gB (t:FT)(body:FS):List D->FS
 | [],ψ=>Ga (.nx ψ)
 | x::r,ψ=>(t x ψ).bind λe1=>(body e1).bind λo=>match o with
  | .nx e=>gB t body r e
  | .ct e=>gB t body r e
  | .bk e=>Ga (.nx e)
  | .rt d=>Ga (.rt d)
  | .ro ds=>Ga (.ro ds)
  | .rc d e=>Ga (.rc d e)
def lh (K:ja)(J:It)(F:Hp)(items:List D):Prop:=∀ (H:Hp),dA F H->∀ i,(items.length<=i->J.stop i H) /\
 ∀ d,items[i]?=Ga d->J.go i H/\∀ x H',J.yld i H x H'->dA H H'/\∃ F',dA F F'/\dA F' H'/\eN F F' H/\eU K F' d x
def tI (K:ja)(f:FL):TI:=λσ H R=>∃ H0 F ψ ds,RS K H0 F H ψ σ/\f ψ=Ga ds/\∀ J H' F',dA H H'->dA F F'->dA F' H'->eN F F' H->(∀ F2,dA F' F2->lh K J F2 ds)->R J H'
abbrev rY (X:Cx)(tg iter:Expr)(f:FL):Prop:=PI X tg iter (tI X.K f)
def Iy {it:Expr}{t t':TI}(h:PI X tg it t)(m:∀ σ H Q,t' σ H Q->t σ H Q):PI X tg it t':=λω s σ H Q I q=>h ω s σ H Q I (m σ H Q q)
def rD{f:FL}(hp:PassesOwn (model X.prog X.w) X.A X.env X.xe)(hc:X.calm=true)(hi:rY X tg iter f)(hg:sQ X tg t)(hb:fT X body g)
  (hs:∀ x,foldedSetIterable iter X.env x=pure x:=by intro _;rfl):im X (.For tg iter body [] pos) (λψ=>(f ψ).bind λds=>gB t g ds ψ):=by
 refine iR (zo hp hc hi hg hb hs) λE σ H=>?_;rintro⟨H0,F,ψ,o,r,e,p⟩;have⟨ds,e1,e⟩:=dz e;refine⟨H0,F,ψ,ds,r,e1,λJ H1 F1 g1 f1 fh1 n1 Y=>?_⟩;have p1:=p.mono f1 (n1.dn r.h0);have r1:=r.grow g1 f1 fh1 n1;refine⟨λi m σ H=>i+m=ds.length/\∃ F2 ψ,RS X.K H0 F2 H ψ σ/\dA F1 F2/\eN F1 F2 H0/\gB t g (ds.drop i) ψ=Ga o,⟨ds.length,by omega,F1,ψ,r1,.refl _,.refl _ _,e⟩,?_⟩;rintro i m σ' H' ⟨hm,F2,env2,r2,f2,n2,e2⟩;have p2:=p1.mono f2 n2;have⟨yd,yg⟩:=Y F2 f2 H' r2.fh i;by_cases hlt:i<ds.length
 .obtain⟨go,yy⟩:=yg ds[i] (by simp[hlt]);rw[uj hlt] at e2;unfold gB at e2;have⟨e3,x1,x2⟩:=dz e2;have⟨o1,x3,x4⟩:=dz x2;refine .inr ⟨go,λσ3 H3=>i+1+(m-1)=ds.length/\∃ F3 ψ,RS X.K H0 F3 H3 ψ σ3/\dA F1 F3/\eN F1 F3 H0/\gB t g (ds.drop (i+1)) ψ=Ga o,λσ3 H3 h3=>⟨m-1,by omega,h3⟩,λx Hx yl=>?_⟩;have⟨gx,F4,f4,fh4,n4,rx⟩:=yy x Hx yl;have r4:=r2.grow gx f4 fh4 n4;refine⟨H0,F4,env2,ds[i],e3,r4,rx,x1,λσ5 r5=>⟨H0,F4,e3,o1,r5,x3,?_⟩⟩;have p4:=p2.mono f4 (n4.dn r2.h0);cases o1 with
  | nx e5=>exact λσ6 H6 F6 f6 n6 r6=>⟨by omega,F6,e5,r6,f2.trans (f4.trans f6),n2.up ((n4.dn r2.h0).up n6),x4⟩
  | ct e5=>exact λσ6 H6 F6 f6 n6 r6=>⟨by omega,F6,e5,r6,f2.trans (f4.trans f6),n2.up ((n4.dn r2.h0).up n6),x4⟩
  | bk e5=>cases x4;exact p4
  | rt d=>cases x4;exact p4
  | ro d=>cases x4;exact p4
  | rc a d=>cases x4;exact p4
 .rw[uy (by omega)] at e2;cases e2;exact .inl ⟨yd (by omega),p2 σ' H' F2 (.refl _) (.refl _ _) r2⟩
def toS:D->Option (List D)
 | .list xs=>Ga xs
 | .tuple xs=>Ga xs
 | _=>Gb
def zt4(h:fQ K F a xs)(r:dM K F ds xs):lh K (Ip K a) F ds:=by
 intro H g i;refine⟨λhi=>⟨xs,g.seq h,by rwa[<- r.length]⟩,λd hd=>?_⟩;have⟨v,e1,e2⟩:=r.get hd;refine⟨⟨xs,v,g.seq h,e1⟩,λx H' y=>?_⟩;obtain⟨rfl,y⟩:=y;have:=y xs (g.seq h);rw[e1] at this;cases this;exact⟨.refl _,F,.refl _,g,.refl _ _,e2⟩
def zwB(h:hU K F a xs)(r:dM K F ds xs):lh K (Kg K a) F ds:=by
 intro H g i;refine⟨λhi=>⟨xs,iu g h,by rwa[<- r.length]⟩,λd hd=>?_⟩;have⟨v,e1,e2⟩:=r.get hd;refine⟨⟨xs,v,iu g h,e1⟩,λx H' y=>?_⟩;obtain⟨rfl,y⟩:=y;have:=y xs (iu g h);rw[e1] at this;cases this;exact⟨.refl _,F,.refl _,g,.refl _ _,e2⟩
theorem Fw {ψ:Env}:∀ (names:List (Str×NameKind)) (cs:List (Str×Gj)),(∀ y∈names,y.2=.free->∃ c,ψ.cells.lookup y.1=Ga c)->(∀ x c,cs.lookup x=Ga c->ψ.cells.lookup x=Ga c) ->
  ∃ cl,(forIn names cs λ(y:Str×NameKind) (r:List (Str×Gj))=>(if (y.2==.free)=true then(do let a <- cellOf ψ y.1;pure (ForInStep.yield ((y.1,a)::r))) else pure (ForInStep.yield r):Sem (ForInStep (List (Str×Gj)))))=(pure cl:Sem (List (Str×Gj))) /\
   (∀ x c,cl.lookup x=Ga c->ψ.cells.lookup x=Ga c)/\(∀ x,(x,jZ)∈names->∃ c,cl.lookup x=Ga c)/\∀ x c,cs.lookup x=Ga c->∃ c',cl.lookup x=Ga c'
 | [],cs,_,h2=>⟨cs,rfl,h2,λx hx=>by simp at hx,λx c h=>⟨c,h⟩⟩
 | (n,k)::r,cs,h1,h2=>by
  have h1':∀ y∈r,y.2=.free->∃ c,ψ.cells.lookup y.1=Ga c:=λy hy=>h1 y (jd _ hy);by_cases hk:k=.free
  .obtain⟨c,hc⟩:=h1 (n,k) jh hk;have h2':∀ x c',((n,c)::cs).lookup x=Ga c'->ψ.cells.lookup x=Ga c':=λx c' h=>by
    rw[kg] at h;cases hx:x==n with
    | true=>rw[hx] at h;cases h;rwa[beq_iff_eq.mp hx]
    | false=>rw[hx] at h;exact h2 x c' h
   have⟨cl,e,a,b,d⟩:=Fw r ((n,c)::cs) h1' h2';refine⟨cl,?_,a,λx hx=>?_,λx c' h=>?_⟩
   .rw[v7];have hb:(k==jZ)=true:=by simp[hk]
    simp only[hb,if_true];have hcell:cellOf ψ n=pure c:=by unfold cellOf;rw[hc]
    rwa[hcell]
   .rcases jz.mp hx with z|z
    .cases z;exact d n c (by simp[kg])
    .exact b x z
   .cases hx:x==n with
    | true=>exact d x c (by rw[kg,hx])
    | false=>exact d x c' (by rwa[kg,hx])
  .obtain⟨cl,e,a,b,d⟩:=Fw r cs h1' h2;refine⟨cl,?_,a,λx hx=>?_,d⟩
   .rw[v7];have hb:(k==jZ)=false:=by simpa using hk
    simp only[hb,kH,if_false];exact e
   .rcases jz.mp hx with z|z
    .cases z;exact absurd rfl hk
    .exact b x z
def VT{ψ:Env}:closureFor scope ψ=(forIn scope.names [] λ(y:Str×NameKind) (r:List (Str×Gj))=>(if (y.2==.free)=true then(do let a <- cellOf ψ y.1;pure (ForInStep.yield ((y.1,a)::r))) else pure (ForInStep.yield r):Sem (ForInStep (List (Str×Gj))))) >>= pure:=by
 unfold closureFor;rfl
theorem PH {ψ:Env}:∀ {names:List (Str×NameKind)} {x:Str},names.lookup x=Ga .free ->
  (names.map λ(n,k)=>if (k==jZ&&ψ.scope.kind==.function&&ψ.kindOf n==Ga .cell) then(n,vn) else(n,k)).lookup x=Ga .cell \/
  (names.map λ(n,k)=>if (k==jZ&&ψ.scope.kind==.function&&ψ.kindOf n==Ga .cell) then(n,vn) else(n,k)).lookup x=Ga .free
 | [],_,h=>by simp at h
 | (n,k)::r,x,h=>by
  have ih:=@PH ψ r x;show uK x ((if (k==jZ&&ψ.scope.kind==.function&&ψ.kindOf n==Ga .cell)=true then(n,vn) else(n,k))::_)=_\/uK x ((if (k==jZ&&ψ.scope.kind==.function&&ψ.kindOf n==Ga .cell)=true then(n,vn) else(n,k))::_)=_;cases hx:x==n with
  | true =>
   simp only[kg,hx] at h;cases h;by_cases hc:(jZ==jZ&&ψ.scope.kind==.function&&ψ.kindOf n==Ga .cell)=true
   .rw[Ge hc];simp[kg,hx]
   .rw[Gf hc];simp[kg,hx]
  | false =>
   simp only[kg,hx] at h;by_cases hc:(k==jZ&&ψ.scope.kind==.function&&ψ.kindOf n==Ga .cell)=true
   .rw[Ge hc];simp only[kg,hx];exact ih h
   .rw[Gf hc];simp only[kg,hx];exact ih h
structure mV (N:List Str)(osc:Scope)(scope:Scope)(x:Str)(fr:List Str)(ix:List Nat):Prop where
 kind:scope.kind=.function
 nocell:∀ y∈scope.names,y.2≠.cell
 locs:∀ y∈scope.names,y.2=.local->scope.names.lookup y.1=Ga .local
 tgt:scope.names.lookup x=Ga .local
 outs:∀ y∈scope.names,y.2=.free->osc.names.lookup y.1=Ga .cell\/osc.names.lookup y.1=Ga .free
 free:∀ y∈fr,scope.names.lookup y=Ga .free
 len:fr.length=ix.length
 at_:∀ (j i:Nat) (y:Str),ix[j]?=Ga i->fr[j]?=Ga y->N[i]?=Ga y
 apart:ix.Nodup
def prj (ix:List Nat)(σ:St):St:=Gb::ix.map λi=>(σ[i]?).join
def gP (X:Cx)(scope:Scope)(cl:List (Str×Gj))(C:Gj)(N':List Str)(s:Gh)(H:Hp)(fp:List Gj)(ω:List (Gj×Obj)):Cx :=
 { X with N:=N',s₀:=s,H₀:=H,env:=compEnvC scope cl C X.env,outer:=X.stack,ex:=fp,fn:=λ_=>false,pn:=X.pn++ω,xe:=λ_ _=>False }
def se (k:Nat)(ix:List Nat)(σ:St):St:=uQ k Gb++ix.map λi=>(σ[i]?).join
def wO (J:It)(g:TG)(tc:TT)(te:TE)(D0:Gj)(σ:St)(H:Hp)(Qv:Hp->Prop):Prop:=∃ W:Nat->Nat->St->Hp->Prop,(∃ m,W 0 m σ H)/\∀ i m σ H,W i m σ H ->
 (J.stop i H/\Qv H)\/(J.go i H/\∃ N:St->Hp->Prop,(∀ σ' H',N σ' H'->∃ m',m'<m/\W (i+1) m' σ' H') /\
  ∀ x H',J.yld i H x H'->g x σ H' λσ2 H2=>tc σ2 H2 λb H3=>if b=true then te σ2 H3 λy H4=>∃ ys,H4 D0=Ga (.lst ys)/\ys.length<sizeLine/\N σ2 (upd H4 D0 (.lst (ys++[y]))) else N σ2 H3)
def IJ (X:Cx):List Expr->TT->Prop
 | [],t=>t=λ_ H Q=>Q true H
 | [c],t=>PT X c t
 | _,_=>False
def Eg {target:Expr}{it acc:Gg}{ψ:Env}(I:Nat->Gh->Prop)
  (turn:∀ n s,I n s->wpAny (model prog w) A (pyNext it) (λr s1=>match r with
   | none=>R (.ok .next) s1
   | some v=>wpAny (model prog w) A (letOwnedTupleGo target it v) (λ_ s2=>wpAny (model prog w) A (assign target ψ v) (λ_ s3 =>
     wpAny (model prog w) A (forIn ifs true λc r=>if r=true then do let ok <- isTrue c ψ (eval c ψ);pure (ForInStep.yield ok) else pure (ForInStep.yield r)) (λok s4 =>
      if ok=true then wpAny (model prog w) A (eval elt ψ) (λx s5 =>
       wpAny (model prog w) A (call (.builtin "list.append") [acc,x]) (λ_ s6=>∃ m,m<n/\I m s6) (notedBy (model prog w) A ψ λe s'=>R (.error e) s') s5) (notedBy (model prog w) A ψ λe s'=>R (.error e) s') s4
      else ∃ m,m<n/\I m s4) (notedBy (model prog w) A ψ λe s'=>R (.error e) s') s3) (notedBy (model prog w) A ψ λe s'=>R (.error e) s') s2) (notedBy (model prog w) A ψ λe s'=>R (.error e) s') s1) (notedBy (model prog w) A ψ λe s'=>R (.error e) s') s)
  (n:Nat) (h:I n s):codeAny (model prog w) A (.compLoop (.ListComp elt [⟨target,iter,ifs,0⟩] scope pos) 0 it acc ψ) R s:=by
 refine codeAny_loop rfl I (λn s hI=>?_) n h;show wpAny _ A ((compTurn (.ListComp elt [⟨target,iter,ifs,0⟩] scope pos) 0 it acc ψ).onRaise (λx=>do noteFrame x ψ;theTreesLotGoes x)) _ _ s;refine wpAny_noted ?_;rw[compTurn_list];refine dv (wpAny_standAt (dv (wpAny_mono (turn n s hI) (λr s1 h1=>?_) λ_ _ z=>z)));cases r with
 | none=>exact dw h1
 | some v =>
  refine dv (wpAny_mono h1 (λ_ s2 h2=>dv (wpAny_mono h2 (λ_ s3 h3=>dv (wpAny_mono h3 (λok s4 h4=>?_) λ_ _ z=>z)) λ_ _ z=>z)) λ_ _ z=>z);cases ok with
  | false=>exact dw ⟨rfl,h4⟩
  | true=>exact dv (dv (wpAny_mono h4 (λx s5 h5=>dv (wpAny_mono h5 (λ_ s6 h6=>dw (dw ⟨rfl,h6⟩)) λ_ _ z=>z)) λ_ _ z=>z))
def gh (X:Cx)(scope:Scope)(cl:List (Str×Gj))(C:Gj)(N':List Str)(s:Gh)(H:Hp)(fp:List Gj)(ω:List (Gj×Obj))(xe:Gg->Gh->Prop):Cx:={ gP X scope cl C N' s H fp ω with xe:=xe }
def zEt {xe:Gg->Gh->Prop}{N':List Str}{s':Gh}{pn pp:List (Gj×Obj)}{σ':St}(I:dE (gP X scope cl C N' s H fp pn) pp σ' H' s'):dE (gh X scope cl C N' s H fp pn xe) pp σ' H' s':=by
 obtain⟨ok,a1,a2,a3,a4,a5,a6,a7,a8,a9,a10⟩:=I;obtain⟨b1,b2,b3,b4,b5,b6,b7,b8,b9,b10,b11,b12,b13,b14,b15,b16,b17,b18⟩:=ok;exact⟨⟨b1,b2,b3,b4,b5,b6,b7,b8,b9,b10,b11,b12,b13,b14,b15,b16,b17,b18⟩,a1,a2,a3,a4,a5,a6,a7,a8,a9,a10⟩
variable {g:TG}
def Wq {xe:Gj->Gh->Hp->Gg->Gh->Prop}(S:mV X.N X.env.scope scope x fr ix)(hl1:∀ x c,cl.lookup x=Ga c->X.env.cells.lookup x=Ga c)(hl2:∀ x,(x,jZ)∈scope.names->∃ c,cl.lookup x=Ga c)
 (I:dE X ω σ H2 s2) (T:wc X.prog X.w X.K tg J fp it tn) (st:tn 0 s2.heap) (hf:∀ b∈fp,pP X ω H2 b) (hc:X.calm=true)
 {tc:TT}
  (hblk:∀ C s H,PG (gh X scope cl C (nb++fr) s H fp ω (xe C s H)) tg g/\IJ (gh X scope cl C (nb++fr) s H fp ω (xe C s H)) ifs tc/\PE (gh X scope cl C (nb++fr) s H fp ω (xe C s H)) elt te)
  (hW:∀ D0,H2 D0=Gb->wO J g tc te D0 (se nb.length ix σ) (upd H2 D0 (.lst [])) (Qv D0))

  (hxe:∀ D0 C s3 H3,s2.heap.objs.size<=C->(∀ pp σ' H' s',dE (gP X scope cl C (nb++fr) s3 H3 fp ω) pp σ' H' s'->dE X ω σ H' s'/\(∃ m,s'.heap.Ns C m))->∀ e s',xe C s3 H3 e s'->notedBy (model X.prog X.w) X.A (compEnvC scope cl C X.env) (λe s'=>RR (.ref D0) C (.error e) s') e s')
  (hRR:∀ D0 C s' H',dE X ω σ H' s'->s2.heap.objs.size<=C->(∃ m,s'.heap.Ns C m)->H' C=Gb->Qv D0 H'->RR (.ref D0) C (.ok .next) s') :
  wX X (newList []) (λacc s3=>wX X (newFunctionEnv scope X.env.globals cl [] X.env.qual Gb .none (Ga X.env)) (λcenv s4 =>
   codeAny (model X.prog X.w) X.A (.compStart (.ListComp elt [⟨tg,iter,ifs,0⟩] scope pos) 0 (.ref it) acc { cenv with scope:=relabel scope X.env }) (RR acc cenv.locals) s4) E s3) E s2:=by
 have hD0:H2 s2.heap.objs.size=Gb:=I.fresh;have⟨W,⟨m0,w0⟩,turn⟩:=hW s2.heap.objs.size hD0;have I3:=I.lnew (t':=s2.toks) (ys:=[]) (its:=[]) .nil (ku _);refine wpAny_newList (wpAny_newFunctionEnv S.nocell (by intro y hy;simp at hy) (λh1 hns hsb=>?_) S.kind);dsimp only at hns hsb ⊢;generalize hHp:s2.heap.push { cls:=.type "list",dict:=Gb,data:=.seq ([]:List Gg).toArray }=P2 at hns hsb I3 ⊢;have hC:P2.objs.size=s2.heap.objs.size+1:=by rw[<- hHp,vb]
 have keep:∀ b o,P2.get? b=Ga o->h1.get? b=Ga o:=λb o e=>hsb.extBut b o (jB (jg e)) (jb _ e);have neC:∀ b o,P2.get? b=Ga o->b≠P2.objs.size:=λb o e=>jB (jg e);have keep2:∀ b o,s2.heap.get? b=Ga o->P2.get? b=Ga o:=λb o e=>by rw[<- hHp];exact jb _ e
 have fpo:∀ b∈fp,∃ o,s2.heap.get? b=Ga o/\∀ v,o.data≠.cell v:=λb hb=>T.obj 0 _ st b hb;have fpC:∀ b∈fp,b≠P2.objs.size:=λb hb=>by have⟨o,e,_⟩:=fpo b hb;exact neC b o (keep2 b o e)
 have fpD:∀ b∈fp,b≠s2.heap.objs.size:=λb hb=>by have⟨o,e,_⟩:=fpo b hb;exact jB (jg e)
 have fpS:∀ b∈fp,b∉gE X.stack:=λb hb z=>by
  have⟨_,f1,f2,_⟩:=hf b hb;rcases jz.mp (I.stkSub b z) with q|q
  .exact f1 q
  .exact f2 q
 have cellK:∀ x c,cl.lookup x=Ga c->∃ v,P2.IsCell c v:=λx c e=>by
  have⟨v,o,ho,hd⟩:=I.cell x c (hl1 x c e);exact⟨v,o,keep2 c o ho,hd⟩
 have okB:(gh X scope cl P2.objs.size (nb++fr) { s2 with heap:=P2 } (upd H2 s2.heap.objs.size (.lst [])) fp ω (xe P2.objs.size { s2 with heap:=P2 } (upd H2 s2.heap.objs.size (.lst [])))).Ok:=by
  refine⟨I.ok.mod,by show(relabel scope X.env).kind=_;exact S.kind,I.ok.glob,I.ok.blt,jw _,λy z c e1 e2=>?_,λy hy=>?_,λy c hfn _=>?_,I.ok.hd,I.ok.frames,.inl rfl,λb hb=>⟨fpC b hb,λy c e=>?_⟩,λb o e=>?_,?_,λb o e hb=>?_,fpS,I3.stack,I3.stkFree⟩
  .exact I.ok.inj y z c (hl1 y c e1) (hl1 z c e2)
  .
   have hy':(relabel scope X.env).names.lookup y=Ga .cell\/(relabel scope X.env).names.lookup y=Ga .free:=hy;have mem:(y,jZ)∈scope.names:=by
    have hfind:∀ (names:List (Str×NameKind)),(∀ z∈names,z.2≠.cell)->((names.map λ(n,k)=>if (k==jZ&&X.env.scope.kind==.function&&X.env.kindOf n==Ga .cell) then(n,vn) else(n,k)).lookup y=Ga .cell \/
      (names.map λ(n,k)=>if (k==jZ&&X.env.scope.kind==.function&&X.env.kindOf n==Ga .cell) then(n,vn) else(n,k)).lookup y=Ga .free)->(y,jZ)∈names:=by
     intro names;induction names with
     | nil=>intro _ h;simp at h
     | cons p r ih =>
      obtain⟨n,k⟩:=p;intro hn h;have ih':=ih (λz hz=>hn z (jd _ hz));have hk:k≠.cell:=hn (n,k) jh;rw[kh] at h;dsimp only at h;by_cases hcnd:(k==jZ&&X.env.scope.kind==.function&&X.env.kindOf n==Ga .cell)=true
      .rw[Ge hcnd] at h;have hkf:k=.free:=by simp only[ju,beq_iff_eq] at hcnd;exact hcnd.1.1
       cases hx:y==n with
       | true=>rw[beq_iff_eq.mp hx,hkf];exact jh
       | false =>
        rw[kg,hx] at h;exact jd _ (ih' h)
      .rw[Gf hcnd] at h;cases hx:y==n with
       | true =>
        rw[kg,hx] at h;rcases h with h|h
        .exact absurd (jM h) hk
        .rw[beq_iff_eq.mp hx,<- jM h];exact jh
       | false =>
        rw[kg,hx] at h;exact jd _ (ih' h)
    exact hfind scope.names S.nocell hy'
   exact hl2 y mem
  .cases hfn
  .obtain⟨_,_,_,_,f4,_⟩:=hf b hb;exact f4 y c (hl1 y c e)
  .obtain⟨e1,e2⟩:=I3.bs b o e;exact⟨e1,e2⟩
  .exact jX I.ok.bsz I3.sz
  .obtain⟨_,_,_,f3,_⟩:=hf b hb;rcases f3 with z|z
   .exact I.ok.noex b o e z
   .exact absurd (jf (jg e) (jX I.ok.bsz z)) (ka _)
 have i4:dE (gh X scope cl P2.objs.size (nb++fr) { s2 with heap:=P2 } (upd H2 s2.heap.objs.size (.lst [])) fp ω (xe P2.objs.size { s2 with heap:=P2 } (upd H2 s2.heap.objs.size (.lst [])))) [] (se nb.length ix σ) (upd H2 s2.heap.objs.size (.lst [])) { s2 with heap:=h1,toks:=s2.toks+([]:List (Str×Gg)).length }:=by
  refine⟨okB,rfl,I.bare,Un.kept keep,⟨_,hns,λi y v e1 e2 e3=>?_⟩,λy c e=>?_,?_,λy c e=>?_,λp hp=>?_,I3.hok.kept keep,?_⟩
  .by_cases hk:i<nb.length
   .rw[se,kn (by rwa[uc]),kC,Ge hk] at e2;cases e2
   .have e1':fr[i-nb.length]?=Ga y:=by rwa[<- ki (by omega)]
    have hj:i-nb.length<ix.length:=by rw[<- S.len];exact(je.mp e1').1
    have eix:ix[i-nb.length]?=Ga ix[i-nb.length]:=jn hj;have e2'':σ[ix[i-nb.length]]?=Ga (Ga v):=by
     rw[se,ki (by rw[uc];omega),uc,jE,eix] at e2;have e2':(σ[ix[i-nb.length]]?).join=Ga v:=jM e2;cases z:σ[ix[i-nb.length]]? with
     | none=>rw[z] at e2';cases e2'
     | some w=>rw[z] at e2';cases e2';rfl
    have hN:=S.at_ _ ix[i-nb.length] y eix e1';have hfree:=S.free y (jW e1');have hmem:(y,jZ)∈scope.names:=kO hfree;have hout:=S.outs _ hmem rfl;have⟨m,hn,hl⟩:=I.loc;have⟨u,ru,lk⟩:=hl ix[i-nb.length] y v hN e2'' (hout.elim (λz=>.inr (.inl z)) λz=>.inr (.inr z));refine⟨u,ru,.inr ?_⟩;rcases lk with ⟨k,_⟩|⟨k,c,ec,hcell⟩
    .exfalso;have k':X.env.scope.names.lookup y=Ga .local:=k;rcases hout with z|z
     .rw[z] at k';cases k'
     .rw[z] at k';cases k'
    .obtain⟨c',ec'⟩:=hl2 y hmem;have:c'=c:=by have:=hl1 y c' ec';rw[ec] at this;cases this;rfl
     subst this;obtain⟨o,ho,hd⟩:=hcell;exact⟨PH (ψ:=X.env) hfree,c',ec',o,keep _ o (keep2 _ o ho),hd⟩
  .obtain⟨v,o,ho,hd⟩:=cellK y c e;exact⟨v,o,keep _ o ho,hd⟩
  .show upd H2 s2.heap.objs.size (.lst []) P2.objs.size=Gb;exact I3.hok.fresh (jw _)
  .exact I3.freeC y c (hl1 y c e)
  .have hp':p∈X.pn++ω:=by simpa [gh,gP] using hp
   have⟨e,n,ne,nf,d⟩:=I3.pin p hp';refine⟨keep _ _ e,n,neC _ _ e,λz=>?_,d⟩;rcases jz.mp (I.stkSub _ z) with q|q
   .exact ne q
   .exact nf q
  .simp[se,gh,gP,S.len]
 have⟨hg,hif,he⟩:=hblk P2.objs.size { s2 with heap:=P2 } (upd H2 s2.heap.objs.size (.lst []));generalize hX':gh X scope cl P2.objs.size (nb++fr) { s2 with heap:=P2 } (upd H2 s2.heap.objs.size (.lst [])) fp ω (xe P2.objs.size { s2 with heap:=P2 } (upd H2 s2.heap.objs.size (.lst [])))=X' at okB i4 hg hif he;have xA:X'.A=X.A:=by rw[<- hX'];rfl
 have xP:X'.prog=X.prog:=by rw[<- hX'];rfl
 have xw:X'.w=X.w:=by rw[<- hX'];rfl
 have xK:X'.K=X.K:=by rw[<- hX'];rfl
 have xc:X'.calm=true:=by rwa[<- hX']
 have xe':X'.env=compEnvC scope cl P2.objs.size X.env:=by rw[<- hX'];rfl
 have back:∀ {pp:List (Gj×Obj)} {σ':St} {H':Hp} {s':Gh},dE X' pp σ' H' s'->dE X ω σ H' s'/\∃ m,s'.heap.Ns P2.objs.size m:=λ{pp σ' H' s'} I6=>by
  have base6:Un (gE X.stack) fp (upd H2 s2.heap.objs.size (.lst [])) H' P2 s'.heap:=by have:=I6.base;rw[<- hX'] at this;exact this
  have os6:s'.os=s2.os:=by have:=I6.os;rw[<- hX'] at this;exact this
  have hok6:HOk X.prog X.w H' s'.heap:=by have:=I6.hok;rw[xP,xw] at this;exact this
  refine⟨dE.call' (s:={ s2 with heap:=P2,toks:=s2.toks }) I3 os6 base6 hok6 I6.bare λb hb=>?_,?_⟩
  .obtain⟨_,f1,_,f3,f4,f5⟩:=hf b hb;exact⟨f3,f1,f4,f5⟩
  .obtain⟨m,hm,_⟩:=I6.loc;rw[xe'] at hm;exact⟨m,hm⟩
 have xx:∀ v s,X'.xe v s->notedBy (model X.prog X.w) X.A (compEnvC scope cl P2.objs.size X.env) (λe s'=>RR (.ref s2.heap.objs.size) P2.objs.size (.error e) s') v s:=by
  have q:=hxe s2.heap.objs.size P2.objs.size { s2 with heap:=P2 } (upd H2 s2.heap.objs.size (.lst [])) (by rw[hC];exact qq _) (λpp σ' H' s' I=>back (by rw[<- hX'];exact zEt I));rwa[<- hX']
 have stat:∀ {H':Hp},(∀ b∈fp,H' b=Gb)->∀ b∈fp,pP X' [] H' b:=λhn b hb=>by
  have⟨_,f1,f2,f3,f4,f5⟩:=hf b hb;refine⟨hn b hb,?_,?_,?_,?_,?_⟩
  .rw[xe'];exact fpC b hb
  .rw[<- hX'];exact fpS b hb
  .rw[<- hX'];exact .inl hb
  .rw[<- hX'];exact λy c e=>f4 y c (hl1 y c e)
  .rw[<- hX'];intro p hp;exact f5 p (by simpa [gh,gP] using hp)
 have st1:tn 0 h1:=T.keep 0 _ _ st λb hb o e=>keep b o (keep2 b o e);have fr0:∀ b∈fp,upd H2 s2.heap.objs.size (.lst []) b=Gb:=λb hb=>by rw[dG (fpD b hb)];exact(hf b hb).1
 have loop:∀ s4:Gh,s4={ s2 with heap:=h1,toks:=s2.toks+([]:List (Str×Gg)).length } ->
   codeAny (model X.prog X.w) X.A (.compLoop (.ListComp elt [⟨tg,iter,ifs,0⟩] scope pos) 0 (.ref it) (.ref s2.heap.objs.size) (compEnvC scope cl P2.objs.size X.env)) (RR (.ref s2.heap.objs.size) P2.objs.size) s4:=by
  rintro s4 rfl;refine Eg (λn s'=>∃ i σ' H',dE X' [] σ' H' s'/\tn i s'.heap/\(∀ b∈fp,H' b=Gb)/\W i n σ' H') ?_ m0 ⟨0,_,_,i4,st1,fr0,w0⟩;rintro n s5 ⟨i,σ5,H5,I5,st5,fr5,w5⟩;rcases turn i n σ5 H5 w5 with ⟨stop,qn⟩|⟨go,N,hN,step⟩
  .have dn:=T.done X' xP xw xK xc i [] s5 σ5 H5 (λ_ _=>False) I5 (stat fr5) st5 stop;rw[xA] at dn;refine wpAny_mono dn (λr s6 ⟨hr,I6⟩=>?_) λ_ _ z=>z.elim;subst hr;have⟨I7,hns7⟩:=back I6;refine hRR _ _ s6 H5 I7 (by rw[hC];exact qq _) hns7 ?_ qn
   .have:=I6.free;rw[xe'] at this;exact this
  .have itm:=T.item X' xP xw xK xc i [] s5 σ5 H5 (λ_ _=>False) I5 (stat fr5) st5 go;rw[xA] at itm;refine wpAny_mono itm (λr s6 ⟨u,hr,h6⟩=>?_) λ_ _ z=>z.elim;subst hr;refine wpAny_mono h6 (λ_ s7 ⟨xv,H7,I7,r7,y7,st7,fr7⟩=>?_) λ_ _ z=>z.elim;have I7':=I7.pinned (stat fr7) (T.obj _ _ st7);have stepx:=step xv H7 y7;have asg:=hg _ s7 σ5 H7 xv u _ I7' r7 stepx;rw[wX,xA,xP,xw,xe'] at asg;refine wpAny_mono asg (λ_ s8 ⟨σ8,H8,I8,q8⟩=>?_) λ_ _ z=>xx _ _ z;have again:∀ {H9:Hp} {s9:Gh},dE X' ([]++pv fp s7.heap) σ8 H9 s9->N σ8 H9->∃ m,m<n/\∃ i σ' H',dE X' [] σ' H' s9/\tn i s9.heap/\(∀ b∈fp,H' b=Gb)/\W i m σ' H':=λ{H9 s9} I9 n9=>by
    have⟨m',hm,w9⟩:=hN σ8 H9 n9;refine⟨m',hm,i+1,σ8,H9,I9.unpinned,T.keep _ _ _ st7 λb hb o e=>(I9.pin (b,o) (jU _ (jU _ (nQ hb e)))).1,λb hb=>?_,w9⟩;have⟨o,e,d⟩:=T.obj _ _ st7 b hb;exact(I9.pin (b,o) (jU _ (jU _ (nQ hb e)))).2.1
   have fin:∀ (ok:Bool) (H9:Hp) (s9:Gh),dE X' ([]++pv fp s7.heap) σ8 H9 s9->(if ok=true then te σ8 H9 λy H4=>∃ ys,H4 s2.heap.objs.size=Ga (.lst ys)/\ys.length<sizeLine/\N σ8 (upd H4 s2.heap.objs.size (.lst (ys++[y]))) else N σ8 H9) ->
     if ok=true then wX X (eval elt (compEnvC scope cl P2.objs.size X.env)) (λxv s10=>wX X (call (.builtin "list.append") [.ref s2.heap.objs.size,xv]) (λ_ s11=>∃ m,m<n/\∃ i σ' H',dE X' [] σ' H' s11/\tn i s11.heap/\(∀ b∈fp,H' b=Gb)/\W i m σ' H')
      (notedBy (model X.prog X.w) X.A (compEnvC scope cl P2.objs.size X.env) λe s'=>RR (.ref s2.heap.objs.size) P2.objs.size (.error e) s') s10) (notedBy (model X.prog X.w) X.A (compEnvC scope cl P2.objs.size X.env) λe s'=>RR (.ref s2.heap.objs.size) P2.objs.size (.error e) s') s9
     else ∃ m,m<n/\∃ i σ' H',dE X' [] σ' H' s9/\tn i s9.heap/\(∀ b∈fp,H' b=Gb)/\W i m σ' H':=by
    intro ok H9 s9 I9 q9;cases ok with
    | false =>
     rw[Gf jV] at q9 ⊢;exact again I9 q9
    | true =>
     rw[Ge rfl] at q9 ⊢;have ev:=he _ s9 σ8 H9 _ I9 q9;rw[wX,xA,xP,xw,xe'] at ev;refine wpAny_mono ev (λu s10 ⟨y,H10,I10,r10,ys,hys,hz,q10⟩=>?_) λ_ _ z=>xx _ _ z;have ap:=xU (X:=X') _ s10 σ8 H10 (.ref s2.heap.objs.size) [y] (.ref s2.heap.objs.size) [u] (λ_ H'=>N σ8 H') I10 rfl (.cons r10 .nil) ⟨_,ys,y,rfl,rfl,hys,hz,q10⟩;rw[wX,xA,xP,xw] at ap;refine wpAny_mono ap (λ_ s11 ⟨_,H11,I11,_,q11⟩=>again I11 q11) λ_ _ z=>xx _ _ z
   match ifs,hif with
   | [],hif=>exact wpAny_tests_nil (by
     have hif':tc=λ_ H Q=>Q true H:=hif;rw[hif'] at q8;exact fin true H8 s8 I8 q8)
   | [c],hif =>
    have iL:=(show PT X' c tc from hif) _ s8 σ8 H8 _ I8 q8;rw[wX,xA,xP,xw,xe'] at iL;exact wpAny_tests_one (wpAny_mono iL (λok s9 ⟨H9,I9,q9⟩=>fin ok H9 s9 I9 q9) λ_ _ z=>xx _ _ z)
   | _::_::_,hif=>exact hif.elim
 exact codeAny_compStart_list (loop _ rfl) (T.self _ 0 _ _ _ st1 (loop _ rfl))
def Px(S:mV X.N X.env.scope scope x fr ix)(hl1:∀ x c,cl.lookup x=Ga c->X.env.cells.lookup x=Ga c)(hl2:∀ x,(x,jZ)∈scope.names->∃ c,cl.lookup x=Ga c)
 (I:dE X ω σ H2 s2) (T:wc X.prog X.w X.K tg J fp it tn) (st:tn 0 s2.heap) (hf:∀ b∈fp,pP X ω H2 b) (hc:X.calm=true)
 {tc:TT}
  (hblk:∀ C s H,PG (gP X scope cl C (nb++fr) s H fp ω) tg g/\IJ (gP X scope cl C (nb++fr) s H fp ω) ifs tc/\PE (gP X scope cl C (nb++fr) s H fp ω) elt te)
  (hW:∀ D0,H2 D0=Gb->wO J g tc te D0 (se nb.length ix σ) (upd H2 D0 (.lst [])) (Qv D0))

  (hRR:∀ D0 C s' H',dE X ω σ H' s'->s2.heap.objs.size<=C->(∃ m,s'.heap.Ns C m)->H' C=Gb->Qv D0 H'->RR (.ref D0) C (.ok .next) s') :
  wX X (newList []) (λacc s3=>wX X (newFunctionEnv scope X.env.globals cl [] X.env.qual Gb .none (Ga X.env)) (λcenv s4 =>
   codeAny (model X.prog X.w) X.A (.compStart (.ListComp elt [⟨tg,iter,ifs,0⟩] scope pos) 0 (.ref it) acc { cenv with scope:=relabel scope X.env }) (RR acc cenv.locals) s4) E s3) E s2 :=
 Wq (xe:=λ_ _ _ _ _=>False) S hl1 hl2 I T st hf hc hblk hW (λ_ _ _ _ _ _ _ _ z=>z.elim) hRR
def zN:Option Sl->Sl
 | some (.val d)=>.val d
 | some (.own ds)=>.own ds
 | some (.fn c)=>.fn c
 | _=>.no
def gm (ix:List Nat)(ψ:En):En:=ix.map λ(i:Nat)=>zN ψ[i]?
def fI (fc:FB)(fe:FV)(base:En):List D->Option (List D)
 | []=>Ga []
 | x::r=>(fc (.val x::base)).bind λb=>if b then(fe (.val x::base)).bind λy=>(fI fc fe base r).bind λys=>Ga (y::ys) else fI fc fe base r
def nK (o:HO):Prop:=∀ ws,o≠.dK ws
def WZ:nK (.lst xs):=λ_ h=>by cases h
def RS.lend(r:RS K H0 F H ψ σ)(ha:H a=Gb)(pl:Pl o:=by trivial):RS K (upd H0 a o) F (upd H a o) ψ σ:=by
 have fa:=r.fh.free ha;refine⟨dA.up2 r.h0 (r.h0.free ha) ha pl,r.fh.put fa (λx u z=>by rw[ha] at z;cases z),λi s e=>?_,r.ap⟩
 .obtain⟨u,e1,q⟩:=r.sl i s e;refine⟨u,e1,?_⟩;cases s with
  | no=>trivial
  | val d=>exact q
  | own ds=>obtain⟨b,xs,e2,hb,fb,h0b,rr⟩:=q;have n:=fP hb ha;exact⟨b,xs,e2,by rwa[dG n],fb,by rwa[dG n],rr⟩
  | dic ks=>obtain⟨b,as,ep,e2,hb,fb,h0b,rr⟩:=q;have n:=fP hb ha;exact⟨b,as,ep,e2,by rwa[dG n],fb,by rwa[dG n],rr⟩
  | dks kvs=>obtain⟨b,ws,e2,hb,fb,h0b,rr⟩:=q;have n:=fP hb ha;exact⟨b,ws,e2,by rwa[dG n],fb,by rwa[dG n],rr⟩
  | dsk C p r' kvs=>obtain⟨e2,dx,ws,h1,h2,rr⟩:=q;exact⟨e2,dx,ws,by rwa[dG (fP h1 (r.h0.free ha))],by rwa[dG (fP h2 (r.h0.free ha))],rr⟩
  | tab P=>obtain⟨ps,q,g⟩:=q;exact⟨ps,by rwa[dG (fP q (r.h0.free ha))],g.updG λx u z=>by rw[r.h0.free ha] at z;cases z⟩
  | fn c=>obtain⟨g,e,q⟩:=q;exact⟨g,e,c.mono _ _ _ _ _ (.refl _) (Fz.upd λx u z=>by rw[ha] at z;cases z) q⟩
def fA.swp(p:Pl o)(g:fA (upd H a o) l):fA (upd H a o') l :=
 ⟨g.1,λpos cv e=>by
  have⟨c,x,vs,v,e1,e2,e3⟩:=g.2 pos cv e;have ne:c≠a:=λz=>by subst z;rw[dH] at e2;cases e2;exact p
  rw[dG ne] at e2;exact⟨c,x,vs,v,e1,by rwa[dG ne],e3⟩⟩
def RS.swap(r:RS K (upd H0 a o) F H ψ σ)(fa:F a=Gb)(pl:Pl o:=by trivial)(pl':Pl o':=by trivial)(pk:nK o:=by first|exact WZ|exact nK_e):RS K (upd H0 a o') F (upd H a o') ψ σ:=by
 refine⟨r.h0.swp pl pl',r.fh.put fa (pl.nf (r.h0.pl dH pl)),λi s e=>?_,r.ap⟩
 .obtain⟨u,e1,q⟩:=r.sl i s e;have ne:∀ b,upd H0 a o b=Gb->b≠a:=λb h z=>by subst z;rw[dH] at h;cases h
  refine⟨u,e1,?_⟩;cases s with
  | no=>trivial
  | val d=>exact q
  | own ds=>obtain⟨b,xs,e2,hb,fb,h0b,rr⟩:=q;have n:=ne b h0b;exact⟨b,xs,e2,by rwa[dG n],fb,by rw[dG n] at h0b ⊢;exact h0b,rr⟩
  | dic ks=>obtain⟨b,as,ep,e2,hb,fb,h0b,rr⟩:=q;have n:=ne b h0b;exact⟨b,as,ep,e2,by rwa[dG n],fb,by rw[dG n] at h0b ⊢;exact h0b,rr⟩
  | dks kvs=>obtain⟨b,ws,e2,hb,fb,h0b,rr⟩:=q;have n:=ne b h0b;exact⟨b,ws,e2,by rwa[dG n],fb,by rw[dG n] at h0b ⊢;exact h0b,rr⟩
  | dsk C p r' kvs =>
   obtain⟨e2,dx,ws,h1,h2,rr⟩:=q;have n1:p≠a:=λz=>by subst z;rw[dH] at h1;cases h1;exact pl
   have n2:r'≠a:=λz=>by subst z;rw[dH] at h2;cases h2;exact pk _ rfl
   exact⟨e2,dx,ws,by rw[dG n1] at h1 ⊢;exact h1,by rw[dG n2] at h2 ⊢;exact h2,rr⟩
  | tab P =>
   obtain⟨ps,q,g⟩:=q;have n:P≠a:=λz=>by subst z;rw[dH] at q;cases q;exact pl
   exact⟨ps,by rw[dG n] at q ⊢;exact q,g.swp pl⟩
  | fn c=>obtain⟨g,e,q⟩:=q;exact⟨g,e,c.mono _ _ _ _ _ (.refl _) (Fz.upd (pl.nf (r.h0.pl dH pl))) q⟩
def QV{s:Sl}(h:(gm ix ψ)[j]?=Ga s)(o:ic s=true):∃ k ds,ix[j]?=Ga k/\ψ[k]?=Ga (.own ds)/\s=.own ds:=by
 unfold gm at h;rw[jE] at h;cases z:ix[j]? with
 | none=>rw[z] at h;cases h
 | some k =>
  rw[z] at h;have h2:=jM h;unfold zN at h2;dsimp only at h2;split at h2
  .subst h2;cases o
  .rename_i ds hd;subst h2;exact⟨k,ds,rfl,hd,rfl⟩
  .subst h2;cases o
  .subst h2;cases o
def RS.prj {K:ja}{H0 F H:Hp}{ψ:En}{σ:St}(r:RS K H0 F H ψ σ)(ix:List Nat)(nd:ix.Nodup):RS K H0 F H (.no::gm ix ψ) (T3.prj ix σ):=by
 refine⟨r.h0,r.fh,λi s e=>?_,λi j a s t o1 o2 e1 e2 e3 e4=>?_⟩
 .cases i with
  | zero=>simp at e;subst e;exact⟨Gb,rfl,trivial⟩
  | succ j =>
   have e':(gm ix ψ)[j]?=Ga s:=by simpa using e
   unfold gm at e';rw[jE] at e';cases z:ix[j]? with
   | none=>rw[z] at e';cases e'
   | some k =>
    rw[z] at e';have e2:=jM e';refine⟨(σ[k]?).join,by simp[T3.prj,z],?_⟩;unfold zN at e2;dsimp only at e2;split at e2
    .rename_i d hd;subst e2;have⟨u,e3,v,e4,rv⟩:=r.sl k _ hd;exact⟨v,by rw[e3,e4];rfl,rv⟩
    .rename_i ds hd;subst e2;have⟨u,e3,a,xs,e4,rv⟩:=r.sl k _ hd;exact⟨a,xs,by rw[e3,e4];rfl,rv⟩
    .rename_i c hd;subst e2;have⟨u,e3,f,e4,rv⟩:=r.sl k _ hd;exact⟨f,by rw[e3,e4];rfl,rv⟩
    .subst e2;trivial
 .cases i with
  | zero=>simp at e1;subst e1;cases o1
  | succ i =>
   cases j with
   | zero=>simp at e2;subst e2;cases o2
   | succ j =>
    obtain⟨k1,d1,x1,y1,z1⟩:=QV (by simpa using e1) o1;obtain⟨k2,d2,x2,y2,z2⟩:=QV (by simpa using e2) o2;have g1:σ[k1]?=Ga (Ga (.ref a)):=by
     have⟨u,e5,b,xs,e6,_⟩:=r.sl k1 _ y1;have:(T3.prj ix σ)[i+1]?=Ga ((σ[k1]?).join):=by simp[T3.prj,x1]
     rw[e3] at this;rw[e5,e6] at this ⊢;exact congrArg Ga (jM this).symm
    have g2:σ[k2]?=Ga (Ga (.ref a)):=by
     have⟨u,e5,b,xs,e6,_⟩:=r.sl k2 _ y2;have:(T3.prj ix σ)[j+1]?=Ga ((σ[k2]?).join):=by simp[T3.prj,x2]
     rw[e4] at this;rw[e5,e6] at this ⊢;exact congrArg Ga (jM this).symm
    have ek:k1=k2:=r.ap k1 k2 a _ _ rfl rfl y1 y2 g1 g2;subst ek;have hi:i<ix.length:=(je.mp x1).1;have hj:j<ix.length:=(je.mp x2).1;have:i=j:=(JB (h₀:=hi) (h₁:=hj) nd).mp (by rw[(je.mp x1).2,(je.mp x2).2]);rw[this]
def RS.pushNo(r:RS K H0 F H ψ σ):RS K H0 F H (.no::ψ) (Gb::σ):=by
 refine⟨r.h0,r.fh,λi s e=>?_,λi j a s t o1 o2 e1 e2 e3 e4=>?_⟩
 .cases i with
  | zero=>cases e;exact⟨Gb,rfl,trivial⟩
  | succ j=>exact r.sl j s e
 .cases i with
  | zero=>cases e1;cases o1
  | succ i' =>
   cases j with
   | zero=>cases e2;cases o2
   | succ j'=>exact congrArg Jv (r.ap i' j' a s t o1 o2 e1 e2 e3 e4)
def RS.pushNos {K:ja}{H0 F H:Hp}{ψ:En}{σ:St}(r:RS K H0 F H ψ σ)(ix:List Nat)(nd:ix.Nodup):∀ k,RS K H0 F H (uQ (k+1) .no++gm ix ψ) (se (k+1) ix σ)
 | 0=>r.prj ix nd
 | k+1=>(r.pushNos ix nd k).pushNo
variable {Qv:Hp->Prop}{a:Expr}
def zt5{fc':FB}{fe':FV}{tc:TT}{tg:FT}{sp:D->Option En}
  (hsp:∀ d l,sp d=Ga l->l.length=k+1/\∀ sx base,sx.length=k+1->tg d (sx++base)=Ga (l++base))
  (hfc:∀ d base b,fc' (.val d::base)=Ga b->∃ l,sp d=Ga l/\fc (l++base)=Ga b)
  (hfe:∀ d l base y,sp d=Ga l->fe' (.val d::base)=Ga y->fe (l++base)=Ga y)
  (hg:∀ v σ H Q,tG K tg v σ H Q->g v σ H Q)
  (htc:∀ σ H Q,tT K fc σ H Q->tc σ H Q) (nd:ix.Nodup) (r:RS K H0 F1 H1 ψ σ) (Y:∀ F2,dA F1 F2->lh K J F2 ds) (e:fI fc' fe' (gm ix ψ) ds=Ga rs) (hz:ds.length<=1000000) (hD:H1 D0=Gb)
  (q:∀ xs H' F',dA H1 H'->dA F1 F'->dA F' H'->eN F1 F' H1->F' D0=Gb->H' D0=Ga (.lst xs)->dM K F' rs xs->Qv H') :
  wO J g tc (tV K fe) D0 (se (k+1) ix σ) (upd H1 D0 (.lst [])) Qv:=by
 have fD:F1 D0=Gb:=r.fh.free hD;have h0D:H0 D0=Gb:=r.h0.free hD;have g0:dA H1 (upd H1 D0 (.lst [])):=dA.new hD;refine⟨λi m σ' H'=>i+m=ds.length/\∃ F2 sx don ys rest,sx.length=k+1/\RS K (upd H0 D0 (.lst ys)) F2 H' (sx++gm ix ψ) σ'/\dA F1 F2/\eN F1 F2 H1/\dA H1 H'/\F2 D0=Gb/\H' D0=Ga (.lst ys)/\dM K F2 don ys/\don.length<=i /\
  fI fc' fe' (gm ix ψ) (ds.drop i)=Ga rest/\rs=don++rest,⟨ds.length,by omega,F1,uQ (k+1) .no,[],[],rs,uc,(r.pushNos ix nd k).lend hD,.refl _,.refl _ _,g0,fD,dH,.nil,jw _,e,rfl⟩,?_⟩
 rintro i m σ' H' ⟨hm,F2,sx,don,ys,rest,ln,r2,f2,n2,g2,fd2,hd2,lv,hl2,e2,ers⟩;have⟨yd,yg⟩:=Y F2 f2 H' r2.fh i;by_cases hlt:i<ds.length
 .obtain⟨go,yy⟩:=yg ds[i] (by simp[hlt]);rw[uj hlt] at e2;unfold fI at e2;have⟨b,x1,x2⟩:=dz e2;have⟨l,ep,x1⟩:=hfc _ _ _ x1;have⟨ll,lt⟩:=hsp _ _ ep;refine .inr ⟨go,λσ3 H3=>i+1+(m-1)=ds.length/\∃ F2 sx don ys rest,sx.length=k+1/\RS K (upd H0 D0 (.lst ys)) F2 H3 (sx++gm ix ψ) σ3/\dA F1 F2/\eN F1 F2 H1/\dA H1 H3/\F2 D0=Gb/\H3 D0=Ga (.lst ys)/\dM K F2 don ys/\don.length<=i+1 /\
   fI fc' fe' (gm ix ψ) (ds.drop (i+1))=Ga rest/\rs=don++rest,λσ3 H3 h3=>⟨m-1,by omega,h3⟩,λx Hx yl=>?_⟩
  have⟨gx,F4,f4,fh4,n4,rx⟩:=yy x Hx yl;have r4:=r2.grow gx f4 fh4 n4;have noD:∀ {F F' H:Hp},F D0=Gb->(∃ o,H D0=Ga o)->eN F F' H->F' D0=Gb:=λ{F F' H} a ⟨o,b⟩ n=>by
   cases z:F' D0 with
   | none=>rfl
   | some o'=>have:=n D0 o' z a;rw[b] at this;cases this
  have fd4:F4 D0=Gb:=noD fd2 ⟨_,hd2⟩ n4;refine hg _ _ _ _ ⟨upd H0 D0 (.lst ys),F4,sx++gm ix ψ,ds[i],l++gm ix ψ,r4,rx,lt _ _ ln,λσ5 r5=>?_⟩;refine htc _ _ _ ⟨upd H0 D0 (.lst ys),F4,l++gm ix ψ,b,r5,x1,λH6 g6=>?_⟩;have r6:=r5.later g6;have hd6:H6 D0=Ga (.lst ys):=g6 _ _ (gx _ _ hd2);have s6:dA H1 H6:=g2.trans (gx.trans g6);have nn4:eN F1 F4 H1:=n2.trans n4 g2;cases b with
  | true =>
   have⟨y,x3,x4⟩:=dz x2;have⟨ys',x5,x6⟩:=dz x4;cases x6;refine mP ⟨upd H0 D0 (.lst ys),F4,l++gm ix ψ,y,r6,hfe _ _ _ _ ep x3,λv H7 F7 g7 f7 fh7 n7 rv=>⟨ys,g7 _ _ hd6,?_,by omega,F7,l,don++[y],ys++[v],ys',ll,?_,f2.trans (f4.trans f7),?_,?_,noD fd4 ⟨_,hd6⟩ n7,dH,?_,?_,x5,?_⟩⟩
   .rw[<- lv.length];have:don.length<1000000:=by omega
    exact jf this (by rw[sizeLine_eq];decide)
   .exact(r6.grow g7 f7 fh7 n7).swap (noD fd4 ⟨_,hd6⟩ n7)
   .exact nn4.trans n7 s6
   .exact(s6.trans g7).put hD (Ow.nf (ob:=.lst ys) trivial (g7 _ _ hd6))
   .exact((lv.mono f4).mono f7).append (.cons rv .nil)
   .rw[jA,uk];omega
   .rw[ers,ub];rfl
  | false =>
   exact mZ ⟨by omega,F4,l,don,ys,rest,ll,r6,f2.trans f4,nn4,s6,fd4,hd6,lv.mono f4,by omega,x2,ers⟩
 .rw[uy (by omega)] at e2;cases e2;refine .inl ⟨yd (by omega),q ys H' F2 g2 f2 r2.fh n2 fd2 hd2 ?_⟩;rw[ers,jJ];exact lv
def Qg{tc:TT}
  (hg:∀ v σ H Q,tG K (λd ψ=>Ga (ψ.set 0 (.val d))) v σ H Q->g v σ H Q)
  (htc:∀ σ H Q,tT K fc σ H Q->tc σ H Q) (nd:ix.Nodup) (r:RS K H0 F1 H1 ψ σ) (Y:∀ F2,dA F1 F2->lh K J F2 ds) (e:fI fc fe (gm ix ψ) ds=Ga rs) (hz:ds.length<=1000000) (hD:H1 D0=Gb)
  (q:∀ xs H' F',dA H1 H'->dA F1 F'->dA F' H'->eN F1 F' H1->F' D0=Gb->H' D0=Ga (.lst xs)->dM K F' rs xs->Qv H') :
  wO J g tc (tV K fe) D0 (prj ix σ) (upd H1 D0 (.lst [])) Qv :=
 zt5 (sp:=λd=>Ga [.val d]) (k:=0) (λd l e=>by cases e;exact⟨rfl,λsx base h=>by match sx,h with|[s],_=>rfl⟩) (λd base b h=>⟨_,rfl,h⟩) (λd l base y e h=>by cases e;exact h) hg htc nd r Y e hz hD q
def fB (fi:FL)(fc:FB)(fe:FV)(ix:List Nat):FL:=λψ=>(fi ψ).bind λds=>if ds.length<=1000000 then fI fc fe (gm ix ψ) ds else Gb
section
variable {X:Cx}{elt iter:Expr}{x:Str}{px pos:Pos}{ifs:List Expr}{scope:Scope}{fr:List Str}{ix:List Nat}{fi:FL}{fc:FB}{fe:FV}
def Cf (K:ja)(ifs:List Expr)(fc:FB):TT:=match ifs with
 | []=>λ_ H Q=>Q true H
 | _=>tT K fc
structure Be (X:Cx)(scope:Scope)(x:Str)(px:Pos)(fr:List Str)(ifs:List Expr)(elt:Expr)(fc:FB)(fe:FV):Prop where
 h:∀ cl C s H fp ω,sQ (gP X scope cl C (x::fr) s H fp ω) (.Name x px) (λd ψ=>Ga (ψ.set 0 (.val d))) /\
  IJ (gP X scope cl C (x::fr) s H fp ω) ifs (Cf X.K ifs fc)/\PV (gP X scope cl C (x::fr) s H fp ω) elt fe
 hn:ifs=[]->fc=λ_=>Ga true
def gA (he:∀ {cl C s H fp ω},PV (gP X scope cl C (x::fr) s H fp ω) elt fe)(nd:(x::fr).Nodup:=by nofun)(hl:scope.names.lookup x=Ga .local:=by rfl):Be X scope x px fr [] elt (λ_=>Ga true) fe :=
 ⟨λcl C s H fp ω=>⟨FQ 0 nd rfl (.inl (lookup_relabel_local hl)) (.inr (lookup_relabel_local hl)),rfl,he⟩,λ_=>rfl⟩
def xD(hc:∀ {cl C s H fp ω},PB (gP X scope cl C (x::fr) s H fp ω) c fc)(he:∀ {cl C s H fp ω},PV (gP X scope cl C (x::fr) s H fp ω) elt fe)(nd:(x::fr).Nodup:=by nofun)(hl:scope.names.lookup x=Ga .local:=by rfl) :
  Be X scope x px fr [c] elt fc fe :=
 ⟨λcl C s H fp ω=>⟨FQ 0 nd rfl (.inl (lookup_relabel_local hl)) (.inr (lookup_relabel_local hl)),hc,he⟩,λh=>nomatch h⟩
def Be.tc (B:Be X scope x px fr ifs elt fc fe):∀ σ H Q,tT X.K fc σ H Q->Cf X.K ifs fc σ H Q:=by
 intro σ H Q h;cases ifs with
 | nil =>
  obtain⟨H0,F,ψ,b,r,e,q⟩:=h;rw[B.hn rfl] at e;cases e;exact q H (.refl _)
 | cons c r=>exact h
def LM(I:dE X ω σ H s)(S:mV X.N X.env.scope scope x fr ix):∃ cl,closureFor scope X.env=pure cl/\(∀ x c,cl.lookup x=Ga c->X.env.cells.lookup x=Ga c)/\∀ x,(x,jZ)∈scope.names->∃ c,cl.lookup x=Ga c:=by
 obtain⟨cl,e,a,b,_⟩:=Fw (ψ:=X.env) scope.names [] (λy hy hf=>I.ok.has y.1 (S.outs y hy hf)) (λx c h=>by simp at h);refine⟨cl,?_,a,b⟩;rw[VT,e];rfl
def iH (hc:X.calm=true)(S:mV X.N X.env.scope scope x fr ix)(hi:rY X (.Name x px) iter fi)(B:Be X scope x px fr ifs elt fc fe)(hs:∀ v,foldedSetIterable iter X.env v=pure v:=by intro _;rfl) :
  PO X (.ListComp elt [⟨.Name x px,iter,ifs,0⟩] scope pos) (fB fi fc fe ix):=by
 intro ω s σ H Q I hw;have⟨cl,hclos,hl1,hl2⟩:=LM I S;obtain⟨H0,F,ψ,rs,r,e,q⟩:=hw;have⟨ds,e1,e⟩:=dz e;split at e;rotate_left
 .cases e
 rename_i hz;rw[eval_ListComp];refine wpAny_comprehension_free (use:=Gb) rfl hs hclos S.kind S.locs (wpAny_mono (hi ω s σ H (λJ H1=>∃ F1,dA H H1/\dA F F1/\dA F1 H1/\eN F F1 H/\∀ F2,dA F1 F2->lh X.K J F2 ds) I ⟨H0,F,ψ,ds,r,e1,λJ H1 F1 g1 f1 fh1 n1 Y=>⟨F1,g1,f1,fh1,n1,Y⟩⟩)
  (λxv s1 h1=>wpAny_mono h1 (λitv s2 h2=>?_) λ_ _ z=>z) λ_ _ z=>z)
 obtain⟨it,fp,tn,J,H2,eit,I2,T,st2,f2,F1,g1,f1,fh1,n1,Y⟩:=h2;subst eit;refine Px (nb:=[x]) (g:=tG X.K (λd ψ=>Ga (ψ.set 0 (.val d)))) (te:=tV X.K fe) (tc:=Cf X.K ifs fc) (RR:=λacc C=>compPost (model X.prog X.w) X.A X.xe Gb (EP X ω σ Q) acc C) (Qv:=λD0 H'=>Q (.ref D0) H') S hl1 hl2 I2 T st2 f2 hc (λC s' H'=>B.h cl C s' H' fp ω) (λD0 hD=>?_) λD0 C s' H' I' hC hn hf hq=>?_
 .exact Qg (λ_ _ _ _ h=>h) B.tc S.apart (r.grow g1 f1 fh1 n1) Y e hz hD λxs H' F' g2 f2' fh2 n2 fd hd rr=>q D0 xs H' F' (g1.trans g2) (f1.trans f2') fh2 (n1.trans n2 g1) (g1.free hD) fd hd rr
 .obtain⟨m,hm⟩:=hn;refine⟨m,hm,λh' sb=>?_⟩;have nC:∀ p o,s2.heap.get? p=Ga o->p≠C:=λp o e=>jB (jf (jg e) hC);refine⟨.ref D0,H',?_,rfl,hq⟩;refine I'.turned (it:=C) (t':=s'.toks) (λb o hb e=>sb.extBut b o hb e) hf (uw (jf I2.lt hC)) (.inr (jX I2.sz hC)) (λy c ec z=>?_) λp hp z=>?_
  .obtain⟨v,qv⟩:=I2.cell y c ec;exact absurd (jf qv.lt (by rwa[z])) (ka _)
  .exact nC _ _ (I2.pin p hp).1 z
end
def yF (i:Nat)(hc:X.calm=true)(S:mV X.N X.env.scope scope x fr ix)(hit:rY X (.Name x px) iter fi)(B:Be X scope x px fr ifs elt fc fe)(hN:X.N.Nodup)(hi:X.N[i]?=Ga y:=by rfl)(hy:X.env.scope.names.lookup y=Ga .local:=by rfl)
  (hsw:swapsWith (.ListComp elt [⟨.Name x px,iter,ifs,0⟩] scope pos) (Ga (.Name y py)) spos.line X.env=pure true:=by rfl) (hs:∀ v,foldedSetIterable iter X.env v=pure v:=by intro _;rfl) :
  im X (.Assign [.Name y py] (.ListComp elt [⟨.Name x px,iter,ifs,0⟩] scope pos) spos) (λψ=>(fB fi fc fe ix ψ).bind λd=>Ga (.nx (ψ.set i (.own d)))):=by
 intro ω s σ H D I hw;have⟨cl,hclos,hl1,hl2⟩:=LM I S;obtain⟨H0,F,ψ,o,r,e,p⟩:=hw;have⟨rs,e0,e⟩:=dz e;cases e;have⟨ds,e1,e⟩:=dz e0;split at e;rotate_left
 .cases e
 rename_i hz;have hl:i<σ.length:=by rw[I.len];exact(je.mp hi).1
 rw[exec_Assign_Name_used _ _ _ _ hsw];refine dv (wpAny_standAt (dv ?_));show wpAny _ X.A (do let _ <- comprehension (.ListComp elt [⟨.Name x px,iter,ifs,0⟩] scope pos) scope X.env _ (newList []) false (eval iter X.env) (Ga (assign (.Name y py) X.env))) _ _ s;refine dv (wpAny_mono (wpAny_comprehension_free (use:=Ga (assign (.Name y py) X.env)) (Q:=λ_ s'=>SP X ω D .next s') rfl hs hclos S.kind S.locs
  (wpAny_mono (hit ω s σ H (λJ H1=>∃ F1,dA H H1/\dA F F1/\dA F1 H1/\eN F F1 H/\∀ F2,dA F1 F2->lh X.K J F2 ds) I ⟨H0,F,ψ,ds,r,e1,λJ H1 F1 g1 f1 fh1 n1 Y=>⟨F1,g1,f1,fh1,n1,Y⟩⟩)
  (λxv s1 h1=>wpAny_mono h1 (λitv s2 h2=>?_) λ_ _ z=>z) λ_ _ z=>z)) (λ_ s' hq=>dw (dw hq)) λ_ _ z=>z)
 obtain⟨it,fp,tn,J,H2,eit,I2,T,st2,f2,F1,g1,f1,fh1,n1,Y⟩:=h2;subst eit;refine Px (nb:=[x]) (g:=tG X.K (λd ψ=>Ga (ψ.set 0 (.val d)))) (te:=tV X.K fe) (tc:=Cf X.K ifs fc) (RR:=λacc C=>compPost (model X.prog X.w) X.A X.xe (Ga (assign (.Name y py) X.env)) (λ_ s'=>SP X ω D .next s') acc C) (Qv:=λD0 H'=>D.nx (σ.set i (Ga (.ref D0))) H') S hl1 hl2 I2 T st2 f2 hc
  (λC s' H'=>B.h cl C s' H' fp ω) (λD0 hD=>?_) λD0 C s' H' I' hC hn hf hq=>?_
 .refine Qg (λ_ _ _ _ h=>h) B.tc S.apart (r.grow g1 f1 fh1 n1) Y e hz hD λxs H' F' g2 f2' fh2 n2 fd hd rr=>?_;have nn:eN F F' H:=n1.trans n2 g1;have r':=r.grow (g1.trans g2) (f1.trans f2') fh2 nn;refine p _ H' F' (f1.trans f2') (nn.dn r.h0) (r'.putO hl hd fd (r.h0.free (g1.free hD)) rr ?_);exact λj s o _ ej=>r.ne_free (g1.free hD) j s o ej
 .obtain⟨m,hm⟩:=hn;have nC:∀ p o,s2.heap.get? p=Ga o->p≠C:=λp o e=>jB (jf (jg e) hC);have cC:∀ y c,X.env.cells.lookup y=Ga c->c≠C:=λy c ec z=>by
   have⟨v,qv⟩:=I2.cell y c ec;exact absurd (jf qv.lt (by rwa[z])) (ka _)
  have lC:C≠X.env.locals:=uw (jf I2.lt hC);show wpAny _ X.A (assign (.Name y py) X.env (.ref D0)) _ _ _;refine wpAny_assign_Name (yk I' hN hi (.inl hy) (v:=.ref D0) rfl (λs'' I'' ⟨a,sb,ha⟩=>?_) (.inr hy));have aC:C≠a:=by
   rcases ha with z|z
   .rwa[z]
   .exact(cC _ _ z).symm
  refine⟨m,hm.sameBut sb aC,λh' sb2=>⟨_,H',?_,hq⟩⟩;refine I''.turned (it:=C) (t':=s''.toks) (λb o hb e=>sb2.extBut b o hb e) hf lC (.inr (jX I2.sz hC)) cC λp hp z=>nC _ _ (I2.pin p hp).1 z
def Cn (i:Nat):gY->gY
 | .nx e=>.nx (frzAt i e)
 | o=>o
def yi (i:Nat){g:FS}(h:im X st g):im X st (λψ=>(g ψ).bind λo=>Ga (Cn i o)):=by
 refine iR h λE σ H=>?_;rintro⟨H0,F,ψ,o,r,e,p⟩;have⟨o1,e1,e2⟩:=dz e;cases e2;refine⟨H0,F,ψ,o1,r,e1,?_⟩;cases o1 with
 | nx e3 =>
  intro σ' H' F' f n r';have⟨F2,f2,n2,r2⟩:=r'.frzAt i;exact p σ' H' F2 (f.trans f2) (n.up n2) r2
 | rt d=>exact p
 | ro d=>exact p
 | rc a d=>exact p
 | bk d=>exact p
 | ct d=>exact p
def ZW {l:Expr}{tl:TE}(hl:PE X l tl):PI X tg l (λσ H R=>tl σ H λx H1=>∃ a,x=.ref a/\(((∃ xs,fQ X.K H1 a xs)/\R (Ip X.K a) H1)\/((∃ xs,hU X.K H1 a xs)/\R (Kg X.K a) H1))):=by
 intro ω s σ H R I h;refine eV (hl ω s σ H _ I h) λv s1 ⟨x,H1,I1,r1,a,e,q1⟩=>?_;subst e;cases r1;rcases q1 with ⟨⟨xs,hq⟩,q⟩|⟨⟨xs,hq⟩,q⟩
 .obtain⟨its,rv,p,hz⟩:=I1.list hq;refine wpAny_pyIter_list p.isList ⟨s1.heap.objs.size,[s1.heap.objs.size],_,_,H1,rfl,I1.kept (t':=s1.toks) λb o e=>jb _ e,DQ a _,⟨_,jm _ rfl,rfl,rfl⟩,λb hb=>?_,q⟩;cases jD.mp hb;exact I1.fpOk (jw _) I1.fresh
 .obtain⟨its,rv,p,hz⟩:=I1.tuple hq;refine wpAny_pyIter_tuple (show s1.heap.IsTuple a its.toArray from p) ⟨s1.heap.objs.size,[s1.heap.objs.size],_,_,H1,rfl,I1.kept (t':=s1.toks) λb o e=>jb _ e,BR a _,⟨_,jm _ rfl,rfl,rfl⟩,λb hb=>?_,q⟩;cases jD.mp hb;exact I1.fpOk (jw _) I1.fresh
def pA {l:Expr}(h:PV X l f):rY X tg l (λψ=>(f ψ).bind toS):=by
 refine Iy (ZW h) λσ H R=>?_;rintro⟨H0,F,ψ,ds,r,e,q⟩;have⟨d,e1,e2⟩:=dz e;refine⟨H0,F,ψ,d,r,e1,λv H1 F1 g1 f1 fh1 n1 rv=>?_⟩;cases rv<;>first|(cases e2;done)|skip
 .rename_i a xs ds' h1 rr;cases e2;exact⟨a,rfl,.inr ⟨⟨xs,iu fh1 h1⟩,q _ H1 F1 g1 f1 fh1 n1 λF2 f2=>zwB (iu f2 h1) (rr.mono f2)⟩⟩
 .rename_i a xs ds' h1 rr;cases e2;exact⟨a,rfl,.inl ⟨⟨xs,fh1.seq h1⟩,q _ H1 F1 g1 f1 fh1 n1 λF2 f2=>zt4 (f2.seq h1) (rr.mono f2)⟩⟩
def wb (lo:Int)(n:Nat):List D:=(kF n).map λk=>.int (lo+(k:Nat))
def VG{lo:Int}:lh K (Ea lo n) F (wb lo n):=by
 intro H g i;refine⟨λhi=>(by simpa [wb] using hi:n<=i),λd hd=>?_⟩;have hi:i<n:=by have:=(je.mp hd).1;simpa [wb] using this
 refine⟨hi,λx H' y=>?_⟩;obtain⟨rfl,rfl⟩:=y;have:d=.int (lo+(i:Nat)):=by
  have h2:(wb lo n)[i]?=Ga (.int (lo+(i:Nat))):=by simp[wb,hi]
  rw[h2] at hd;exact(jM hd).symm
 subst this;exact⟨.refl _,F,.refl _,g,.refl _ _,.int _⟩
def fZ:D->Option (List D)
 | .int j=>if -(2^62)<=j/\j<2^62 then Ga (wb 0 j.toNat) else Gb
 | _=>Gb
def BZ:D->D->Option (List D)
 | .int i,.int j=>if -(2^62)<=i/\i<2^62/\-(2^62)<=j/\j<2^62 then Ga (wb i (j-i).toNat) else Gb
 | _,_=>Gb
def lQ(hg:Gl X "range")(hm:X.mg "range"=Gb)(ha:PV X a f)(hs:Sb X a:=by rfl):rY X tg (.Call (.Name "range" p) [a] [] pos) (λψ=>(f ψ).bind fZ):=by
 refine Iy (DY hg hm (eY ha fY hs) hs) λσ H R=>?_;rintro⟨H0,F,ψ,ds,r,e,q⟩;have⟨d,e1,e2⟩:=dz e;refine⟨H0,F,ψ,d,r,e1,λv H1 F1 g1 f1 fh1 n1 rv=>?_⟩;cases rv<;>first|(cases e2;done)|skip
 rename_i j;unfold fZ at e2;dsimp only at e2;split at e2
 .rename_i c;cases e2;exact⟨j,rfl,c.1,c.2,q _ H1 F1 g1 f1 fh1 n1 λF2 f2=>VG⟩
 .cases e2
def Wv{g:FV}(hg:Gl X "range")(hm:X.mg "range"=Gb)(ha:PV X a f)(hb:PV X b g)(hs:starEach [a,b] X.env=[(false,eval a X.env),(false,eval b X.env)]:=by rfl)(hs2:Sb X b:=by rfl) :
  rY X tg (.Call (.Name "range" p) [a,b] [] pos) (λψ=>(f ψ).bind λx=>(g ψ).bind λy=>BZ x y):=by
 refine Iy (Db hg hm (eY ha (eY hb fY hs2) (by unfold Sa;rw[hs,hs2])) hs hs2) λσ H R=>?_;rintro⟨H0,F,ψ,ds,r,e,q⟩;have⟨d,e1,e2⟩:=dz e;have⟨d2,e3,e4⟩:=dz e2;refine⟨H0,F,ψ,d,r,e1,λv H1 F1 g1 f1 fh1 n1 rv=>⟨H0,F1,ψ,d2,r.grow g1 f1 fh1 n1,e3,λv2 H2 F2 g2 f2 fh2 n2 rv2=>?_⟩⟩;cases rv<;>first|(cases e4;done)|skip
 cases rv2<;>first|(cases e4;done)|skip
 rename_i i j;unfold BZ at e4;dsimp only at e4;split at e4
 .rename_i c;cases e4;exact⟨i,j,rfl,c,q _ H2 F2 (g1.trans g2) (f1.trans f2) fh2 (n1.trans n2 g1) λF2 f2=>VG⟩
 .cases e4
def fj (K:ja)(fm:List D->Option D):Sp:=λvs H Q _=>∃ F ds d,dA F H/\dM K F ds vs/\fm ds=Ga d/\∀ v H' F',dA H H'->dA F F'->dA F' H'->eN F F' H->eU K F' d v->Q v H'
def yw (K:ja)(fm:List D->Option (List D)):Sp:=λvs H Q _=>∃ F ds d,dA F H/\dM K F ds vs/\fm ds=Ga d/\∀ a xs H' F',dA H H'->dA F F'->dA F' H'->eN F F' H->H a=Gb->F' a=Gb->H' a=Ga (.lst xs)->dM K F' d xs->Q (.ref a) H'
def iQ (n:Nat)(ds:List D):En:=ds.map Sl.val++uQ (n-ds.length) Sl.no
def RS.start {K:ja}{F H:Hp}{N:List Str}{ds:List D}{vs:List V}(g:dA F H)(r:dM K F ds vs):RS K H F H (iQ N.length ds) (start N vs):=by
 have hl:=r.length;refine⟨.refl _,g,λi s e=>?_,λi j a s t o1 o2 e1=>?_⟩
 .unfold iQ at e;by_cases hi:i<ds.length
  .rw[kn (by simpa using hi),jE] at e;have⟨v,e1,e2⟩:=r.get (jn hi);rw[jn hi] at e;cases e;refine⟨Ga v,?_,v,rfl,e2⟩;unfold L2.start;rw[kn (by rw[jk];omega),jE,e1];rfl
  .rw[ki (by simpa using hi),kC] at e;split at e
   .rename_i hlt;cases e;refine⟨Gb,?_,trivial⟩;unfold L2.start;rw[ki (by rw[jk];omega),kC];rw[jk] at hlt ⊢;rw[Ge (by omega)]
   .cases e
 .exfalso;unfold iQ at e1;by_cases hi:i<ds.length
  .rw[kn (by simpa using hi),jE,jn hi] at e1;cases e1;cases o1
  .rw[ki (by simpa using hi),kC] at e1;split at e1<;>cases e1;cases o1
variable {f:Gj}{g:FL}
def ZK(F:le K x qual st f fd)(S:dD N ps (defScope st))(hlen:∀ ds d,fm ds=Ga d->ds.length=ps.length)
  (hb:∀ {cdv:Gg} {A:Around} {outer:List Env} {s:Gh} {H:Hp} {E:XK},eP k (A.deeper (envOfC qual (defScope st) s.heap.objs.size f cdv)) ->
   ∃ g,fT (fN dS P w K mg base N qual (defScope st) f cdv A outer s H E).nox (defBody st) g/\∀ ds d,fm ds=Ga d->g (iQ N.length ds)=Ga (.rt d)\/(∃ xs,d=.list xs/\g (iQ N.length ds)=Ga (.ro xs))) :
  dJ P w K mg base dS (k+1) f fd ps (fj K fm):=by
 refine F.ok S (λvs H Q E h=>?_) (λcdv A outer s H vs Q E hr h=>?_)
 .obtain⟨F0,ds,d,_,r,e,_⟩:=h;rw[<- r.length];exact hlen ds d e
 .obtain⟨F0,ds,d,g0,r,e,q⟩:=h;obtain⟨g,hg,hm⟩:=@hb cdv A outer s H E hr;rcases hm ds d e with z|⟨xs,rfl,z⟩
  .exact⟨_,hg,H,F0,_,_,RS.start g0 r,z,λv H' F' g1 f1 fh1 n1 rv=>q v H' F' g1 f1 fh1 n1 rv⟩
  .refine⟨_,hg,H,F0,_,_,RS.start g0 r,z,λa ys H' F' g1 f1 fh1 n1 ha fa ha' rr=>?_⟩;have sF:dA F' (upd F' a (.lst ys)):=dA.new fa;refine q (.ref a) H' (upd F' a (.lst ys)) g1 (f1.trans sF) (λb o h=>?_) (λb o h nb=>?_) (.lst (fQ.of dH) (rr.mono sF))
   .exact dA.upL fh1 ha' trivial b o h
   .by_cases hb:b=a
    .subst hb;exact ha
    .rw[dG hb] at h;exact n1 b o h nb
def fnO {fm:List D->Option (List D)}(F:le K x qual st f fd)(S:dD N ps (defScope st))(hlen:∀ ds d,fm ds=Ga d->ds.length=ps.length)
  (hb:∀ {cdv:Gg} {A:Around} {outer:List Env} {s:Gh} {H:Hp} {E:XK},eP k (A.deeper (envOfC qual (defScope st) s.heap.objs.size f cdv)) ->
   ∃ g,fT (fN dS P w K mg base N qual (defScope st) f cdv A outer s H E).nox (defBody st) g/\∀ ds d,fm ds=Ga d->g (iQ N.length ds)=Ga (.ro d)) :
  dJ P w K mg base dS (k+1) f fd ps (yw K fm):=by
 refine F.ok S (λvs H Q E h=>?_) (λcdv A outer s H vs Q E hr h=>?_)
 .obtain⟨F0,ds,d,_,r,e,_⟩:=h;rw[<- r.length];exact hlen ds d e
 .obtain⟨F0,ds,d,g0,r,e,q⟩:=h;obtain⟨g,hg,hm⟩:=@hb cdv A outer s H E hr;exact⟨_,hg,H,F0,_,_,RS.start g0 r,hm ds d e,λa xs H' F' g1 f1 fh1 n1 ha fa ha' rr=>q a xs H' F' g1 f1 fh1 n1 ha fa ha' rr⟩
def Uu(F:Fq X dS k f fd ps (fj X.K fm))(hr:eP k X.A)(hm:X.mg x=Ga (.ref f))(hk:jR X.K (.ref f)=true)(hb:fS X.K fd ps [])(ha:PL X (e::es) g)(hg:Gl X x:=by rfl)
  (hdb:Nd x:=by decide) (he:Sa X e es:=by rfl) (hpl:Sc X pos es:=by rfl) :
  PV X (.Call (.Name x p) (e::es) [] pos) (λψ=>(g ψ).bind fm):=by
 refine fG (iV F hr hg hm hk hb .nil iC ha.pa hdb he hpl) λσ H Q=>?_;rintro⟨H0,F,ψ,d,r,e,q⟩;have⟨ds,e1,e2⟩:=dz e;refine⟨H0,F,ψ,ds,r,e1,λvs H1 F1 g1 f1 fh1 n1 rv=>⟨F1,ds,d,fh1,by rwa[jJ],e2,λv H2 F2 g2 f2 fh2 n2 rv2=>?_⟩⟩;exact q v H2 F2 (g1.trans g2) (f1.trans f2) fh2 (n1.trans n2 g1) rv2
def zh {fm:List D->Option (List D)}(F:Fq X dS k f fd ps (yw X.K fm))(hr:eP k X.A)(hm:X.mg x=Ga (.ref f))(hk:jR X.K (.ref f)=true)(hb:fS X.K fd ps [])(ha:PL X (e::es) g)(hg:Gl X x:=by rfl)
  (hdb:Nd x:=by decide) (he:Sa X e es:=by rfl) (hpl:Sc X pos es:=by rfl) :
  PO X (.Call (.Name x p) (e::es) [] pos) (λψ=>(g ψ).bind fm):=by
 refine fG (iV F hr hg hm hk hb .nil iC ha.pa hdb he hpl) λσ H Q=>?_;rintro⟨H0,F,ψ,d,r,e,q⟩;have⟨ds,e1,e2⟩:=dz e;refine⟨H0,F,ψ,ds,r,e1,λvs H1 F1 g1 f1 fh1 n1 rv=>⟨F1,ds,d,fh1,by rwa[jJ],e2,λa xs H2 F2 g2 f2 fh2 n2 ha fa ha' rr=>?_⟩⟩;exact q a xs H2 F2 (g1.trans g2) (f1.trans f2) fh2 (n1.trans n2 g1) (g1.free ha) fa ha' rr
def Ci:D->D->Option Bool
 | .none,.none=>Ga true
 | _,.none=>Ga false
 | .bool a,.bool b=>Ga (a==b)
 | _,.bool _=>Ga false
 | _,_=>Gb
def sA (a b:D):Option D:=(Ci a b).bind λk=>Ga (.bool k)
def nM (a b:D):Option D:=(Ci a b).bind λk=>Ga (.bool (!k))
def Vt{a b:D}{x y:V}{v:Gg}{k:Bool}(ra:eU K F a x)(rb:eU K F b y)(rx:eL x u)(ry:eL y v)(e:Ci a b=Ga k):plainIs u v=true/\(u==v)=k:=by
 cases rb<;>first|(cases ra<;>cases e;done)|skip
 .cases ry;cases ra<;>cases e<;>first
   | (cases rx;exact⟨rfl,rfl⟩)
   | (obtain⟨t,rfl⟩:=rx;exact⟨rfl,rfl⟩)
 .rename_i c;cases ry;cases ra<;>cases e<;>first
   | (cases rx;exact⟨rfl,rfl⟩)
   | (cases rx;rename_i b;cases b<;>cases c<;>exact⟨rfl,rfl⟩)
   | (obtain⟨t,rfl⟩:=rx;exact⟨rfl,rfl⟩)
variable {g f:FV}
def UH:gj X (compareOp .Is) (pU X.K sA):=by
 intro ω s σ H x y v u Q I rx ry h;obtain⟨F,a,b,d,g,ra,rb,e,q⟩:=h;have⟨k,e1,e2⟩:=dz e;have⟨z1,z2⟩:=Vt ra rb rx ry e1;cases e2;exact wpAny_is_plain z1 (by rw[z2];exact⟨.bl k,H,I,rfl,q k rfl⟩)
def zAL:gj X (compareOp .IsNot) (pU X.K nM):=by
 intro ω s σ H x y v u Q I rx ry h;obtain⟨F,a,b,d,g,ra,rb,e,q⟩:=h;have⟨k,e1,e2⟩:=dz e;have⟨z1,z2⟩:=Vt ra rb rx ry e1;cases e2;exact wpAny_isNot_plain z1 (by rw[z2];exact⟨.bl (!k),H,I,rfl,q _ rfl⟩)
def Wf:∀ a b d,sA a b=Ga d->∃ k,d=.bool k:=λa b d h=>by have⟨k,_,e⟩:=dz h;cases e;exact⟨_,rfl⟩
def zAM:∀ a b d,nM a b=Ga d->∃ k,d=.bool k:=λa b d h=>by have⟨k,_,e⟩:=dz h;cases e;exact⟨_,rfl⟩
def Xq (ha:PV X a f)(hb:PV X b g):PV X (.Compare a [.Is] [b] pos) (λψ=>(f ψ).bind λx=>(g ψ).bind λy=>sA x y):=yq UH (tD Wf) ha hb
def CA (ha:PV X a f)(hb:PV X b g):PB X (.Compare a [.Is] [b] pos) (λψ=>((f ψ).bind λx=>(g ψ).bind λy=>sA x y).bind gI):=xi UH (tD Wf) ha hb
def MF (ha:PV X a f)(hb:PV X b g):PB X (.Compare a [.IsNot] [b] pos) (λψ=>((f ψ).bind λx=>(g ψ).bind λy=>nM x y).bind gI):=xi zAL (tD zAM) ha hb
def pZ (a:D)(xs:List D):Bool:=a.canLay0&&ug xs&&decide (min (uH xs) a.depth<=90)
def AO (a b:D):Option D:=(toS b).bind λxs=>if pZ a xs then Ga (.bool (xs.any λy=>kQ y a)) else Gb
def BN (a b:D):Option D:=(toS b).bind λxs=>if pZ a xs then Ga (.bool (!xs.any λy=>kQ y a)) else Gb
def Rh {a:D}{xs:List D}(h:pZ a xs=true):a.canLay0=true/\ug xs=true/\min (uH xs) a.depth<=90:=by
 unfold pZ at h;simp only[ju,decide_eq_true_eq] at h;exact⟨h.1.1,h.1.2,h.2⟩
def QU (hu:X.A.units+100<cLine):gj X (compareOp .In) (pU X.K AO):=by
 intro ω s σ H x y v u Q I rx ry h;obtain⟨F,a,b,d,g,ra,rb,e,q⟩:=h;have⟨xs,e1,e2⟩:=dz e;split at e2
 .rename_i ok;have⟨h1,h2,h3⟩:=Rh ok;have⟨as,ha⟩:=ra.reads I g (zT h1) rx;obtain⟨bs,hb⟩:=rb.reads I g (by cases b<;>cases e1<;>(rw[ml];exact Da h2)) ry;cases b<;>cases e1
  .exact SeqAt.in_list_reads hb ha h2 h1 (by omega) ⟨.bl _,H,I,rfl,q _ (jM e2).symm⟩
  .exact SeqAt.in_tuple_reads hb ha h2 h1 (by omega) ⟨.bl _,H,I,rfl,q _ (jM e2).symm⟩
 .cases e2
def zCO (hu:X.A.units+100<cLine):gj X (compareOp .NotIn) (pU X.K BN):=by
 intro ω s σ H x y v u Q I rx ry h;obtain⟨F,a,b,d,g,ra,rb,e,q⟩:=h;have⟨xs,e1,e2⟩:=dz e;split at e2
 .rename_i ok;have⟨h1,h2,h3⟩:=Rh ok;have⟨as,ha⟩:=ra.reads I g (zT h1) rx;obtain⟨bs,hb⟩:=rb.reads I g (by cases b<;>cases e1<;>(rw[ml];exact Da h2)) ry;cases b<;>cases e1
  .exact SeqAt.notIn_list_reads hb ha h2 h1 (by omega) ⟨.bl _,H,I,rfl,q _ (jM e2).symm⟩
  .exact SeqAt.notIn_tuple_reads hb ha h2 h1 (by omega) ⟨.bl _,H,I,rfl,q _ (jM e2).symm⟩
 .cases e2
def UC:∀ a b d,AO a b=Ga d->∃ k,d=.bool k:=λa b d h=>by have⟨k,_,e⟩:=dz h;split at e<;>cases e;exact⟨_,rfl⟩
def zCP:∀ a b d,BN a b=Ga d->∃ k,d=.bool k:=λa b d h=>by have⟨k,_,e⟩:=dz h;split at e<;>cases e;exact⟨_,rfl⟩
def WQ (hu:X.A.units+100<cLine)(ha:PV X a f)(hb:PV X b g)(hm:behindInMarks .In b=false:=by first|rfl|with_unfolding_all rfl):PB X (.Compare a [.In] [b] pos) (λψ=>((f ψ).bind λx=>(g ψ).bind λy=>AO x y).bind gI):=xi (QU hu) (tD UC) ha hb hm
def zM:D->Option D
 | .int i=>Ga (.int (-i))
 | _=>Gb
def FJ (ha:PV X a f):PV X (.UnaryOp .USub a pos) (λψ=>(f ψ).bind zM):=by
 refine fG (NQ IZ ha) λσ H Q=>?_;rintro⟨H0,F,ψ,d,r,e,q⟩;have⟨d',e1,e⟩:=dz e;refine⟨H0,F,ψ,d',r,e1,λv H1 F1 g1 f1 fh1 n1 rv=>?_⟩;cases rv<;>first|(cases e;done)|skip
 cases e;exact⟨_,rfl,q _ H1 F1 g1 f1 fh1 n1 (.int _)⟩
def gN:D->Option D
 | .int i=>if i.natAbs.log2<1920 then Ga (.str (toString i)) else Gb
 | _=>Gb
def pJ(hg:Gl X "str")(hm:X.mg "str"=Gb)(ha:PV X a f)(hs:Sb X a:=by rfl):PV X (.Call (.Name "str" p) [a] [] pos) (λψ=>(f ψ).bind gN):=by
 refine fG (Bt sv hg hm boot_str ha (hs:=hs)) λσ H Q=>?_;rintro⟨H0,F,ψ,d,r,e,q⟩;have⟨d',e1,e⟩:=dz e;refine⟨H0,F,ψ,d',r,e1,λv H1 F1 g1 f1 fh1 n1 rv=>?_⟩;cases rv<;>first|(cases e;done)|skip
 rename_i i;unfold gN at e;dsimp only at e;split at e
 .rename_i c;cases e;exact⟨i,rfl,c,q _ H1 F1 g1 f1 fh1 n1 (.str _)⟩
 .cases e
def HB:D->Option D
 | .int i=>Ga (.int (Jf i))
 | _=>Gb
def zCQ:wx X "int.bit_length" (λx xs H Q=>∃ i,x=.int i/\xs=[]/\Q (.int (Jf i)) H):=by
 intro ω s σ H x xs v us Q I rx rv h;obtain⟨i,rfl,rfl,q⟩:=h;obtain⟨t,rfl⟩:=rx;cases rv;exact call_int_bit_length ⟨.int _,H,I.tok _,⟨_,rfl⟩,q⟩
def zEv(ha:PV X a f)(hbase:attributeBase a "bit_length" X.env (eval a X.env)=eval a X.env:=by rfl)(hline:(p.endLine==p2.line)=true:=by rfl):PV X (.Call (.Attribute a "bit_length" p) [] [] p2) (λψ=>(f ψ).bind HB):=by
 refine fG (Ku PySem.F.plainAttrs_int PySem.F.slot_int_bit_length PySem.F.type_int_bit_length zCQ ha hbase hline) λσ H Q=>?_;rintro⟨H0,F,ψ,d,r,e,q⟩;have⟨d',e1,e⟩:=dz e;refine⟨H0,F,ψ,d',r,e1,λv H1 F1 g1 f1 fh1 n1 rv=>?_⟩;cases rv<;>first|(cases e;done)|skip
 rename_i i;cases e;exact⟨rfl,i,rfl,rfl,q _ H1 F1 g1 f1 fh1 n1 (.int _)⟩
def lg:List D->Option (List Int)
 | []=>Ga []
 | .int i::r=>(lg r).bind λis=>Ga (i::is)
 | _=>Gb
def DF:∀ {ds:List D} {is:List Int},lg ds=Ga is->ds=is.map jO
 | [],_,h=>by cases h;rfl
 | .int i::r,is,h=>by
  have⟨js,e1,e2⟩:=dz (show(lg r).bind (λis=>Ga (i::is))=Ga is from h);cases e2;rw[DF e1];rfl
 | .none::_,_,h=>by cases h
 | .bool _::_,_,h=>by cases h
 | .str _::_,_,h=>by cases h
 | .list _::_,_,h=>by cases h
 | .tuple _::_,_,h=>by cases h
 | .dict _::_,_,h=>by cases h
def dM.ints_inv {K:ja}{F:Hp}:∀ {is:List Int} {vs:List V},dM K F (is.map jO) vs->vs=is.map V.int
 | [],_,h=>by cases h;rfl
 | i::is,_,h=>by
  cases h with
  | cons h t=>cases h;rw[dM.ints_inv t];rfl
def Uf(hm:X.mg x=Ga u)(r:eL v u)(rd:∀ K F,eU K F d v)(hg:Gl X x:=by rfl)(hd:Nd x:=by decide):PV X (.Name x pos) (λ_=>Ga d):=AM (lR hg hm r hd) rd
def Vo{k:D->D->Option D}{h:FV}(hr:nX K r k)(hr':nX K r' k'){σ:L2.St}{Q:V->Hp->Prop} :
  tV K (λψ=>(f ψ).bind λx=>(g ψ).bind λy=>((k x y).bind gI).bind λt=>if t then(h ψ).bind λz=>k' y z else Ga (.bool false)) σ H Q->zg r r' (tV K f) (tV K g) (tV K h) σ H Q:=by
 rintro⟨H0,F,ψ,d,rs,e,q⟩;have⟨x,e1,e⟩:=dz e;have⟨y,e2,e⟩:=dz e;have⟨t,e3,e⟩:=dz e;have⟨d1,e4,e5⟩:=dz e3;cases zr e5;refine⟨H0,F,ψ,x,rs,e1,λv H1 F1 g1 f1 fh1 n1 rv=>⟨H0,F1,ψ,y,rs.grow g1 f1 fh1 n1,e2,λu H2 F2 g2 f2 fh2 n2 ru=>?_⟩⟩;refine hr F2 H2 v u x y _ _ fh2 (rv.mono f2) ru e4 λw H3 F3 g3 f3 fh3 n3 rw3=>?_;cases rw3;refine⟨t,rfl,?_⟩;have gg:dA H H3:=(g1.trans g2).trans g3;have ff:dA F F3:=(f1.trans f2).trans f3;have nn:eN F F3 H:=(n1.trans n2 g1).trans n3 (g1.trans g2);cases t with
 | true =>
  have⟨z,e6,e7⟩:=dz (show(h ψ).bind (λz=>k' y z)=Ga d from e);refine mP ⟨H0,F3,ψ,z,rs.grow gg ff fh3 nn,e6,λw4 H4 F4 g4 f4 fh4 n4 rw4=>?_⟩;refine hr' F4 H4 u w4 y z d Q fh4 ((ru.mono f3).mono f4) rw4 e7 λw5 H5 F5 g5 f5 fh5 n5 rw5=>?_;exact q w5 H5 F5 ((gg.trans g4).trans g5) ((ff.trans f4).trans f5) fh5 ((nn.trans n4 gg).trans n5 (gg.trans g4)) rw5
 | false=>cases e;exact mZ (q _ H3 F3 gg ff fh3 nn (.bl false))
def FN{k:D->D->Option D}{h:FV}(ho:gj X (compareOp op) r)(ho':gj X (compareOp op') r')(hr:nX X.K r k)(hr':nX X.K r' k')(ha:PV X a f)(hb:PV X b g)(hc:PV X c h)
  (hm:lastMarks [op,op'] [b,c]=false:=by with_unfolding_all rfl) :
  PV X (.Compare a [op,op'] [b,c] pos) (λψ=>(f ψ).bind λx=>(g ψ).bind λy=>((k x y).bind gI).bind λt=>if t then(h ψ).bind λz=>k' y z else Ga (.bool false)):=fG (Fj ho ho' ha hb hc hm) λ_ _ _=>Vo hr hr'
abbrev dU (d:D):FV:=λ_=>Ga d
abbrev dX (op:D->D->Option D)(f g:FV):FV:=λψ=>(f ψ).bind λx=>(g ψ).bind λy=>op x y
abbrev un (op:D->Option D)(f:FV):FV:=λψ=>(f ψ).bind op
abbrev oW (op:List D->Option D)(f:FL):FV:=λψ=>(f ψ).bind op
abbrev iL (f:FV):FB:=λψ=>(f ψ).bind DG
abbrev eM (op:D->D->Option D)(f g:FV):FB:=λψ=>((f ψ).bind λx=>(g ψ).bind λy=>op x y).bind gI
abbrev iO (f:FB):FB:=λψ=>(f ψ).bind λc=>Ga (!c)
abbrev oj (f g:FB):FB:=λψ=>(f ψ).bind λc=>if c then Ga true else g ψ
abbrev we (f g:FV):FV:=λψ=>((f ψ).bind gI).bind λc=>if c then g ψ else Ga (.bool false)
abbrev Sz (f g:FV):FV:=λψ=>((f ψ).bind gI).bind λc=>if c then Ga (.bool true) else g ψ
abbrev EN (f:FV):FV:=λψ=>((f ψ).bind gI).bind λc=>Ga (.bool (!c))
abbrev zE (c:FB)(f g:FV):FV:=λψ=>(c ψ).bind λk=>if k then f ψ else g ψ
abbrev Ab (k k':D->D->Option D)(f g h:FV):FV:=λψ=>(f ψ).bind λx=>(g ψ).bind λy=>((k x y).bind gI).bind λt=>if t then(h ψ).bind λz=>k' y z else Ga (.bool false)
abbrev eI:FL:=λ_=>Ga []
abbrev dC (f:FV)(g:FL):FL:=λψ=>(f ψ).bind λd=>(g ψ).bind λds=>Ga (d::ds)
abbrev ls (g:FL):FV:=λψ=>(g ψ).bind λds=>Ga (.tuple ds)
abbrev fw (g:FL):FV:=λψ=>(g ψ).bind λds=>Ga (.list ds)
abbrev er (fm:List D->Option D)(g:FL):FV:=λψ=>(g ψ).bind fm
abbrev sX (fm:List D->Option (List D))(g:FL):FL:=λψ=>(g ψ).bind fm
abbrev Fv (f:FV):FL:=λψ=>(f ψ).bind An
abbrev xt (f:FV):FL:=λψ=>(f ψ).bind toS
abbrev ip (op:D->Option (List D))(f:FV):FL:=λψ=>(f ψ).bind op
abbrev Ai (op:D->D->Option (List D))(f g:FV):FL:=λψ=>(f ψ).bind λx=>(g ψ).bind λy=>op x y
def lO (T:String)(d:D):Option D:=Ga (.bool (Ho T d))
def nN (xs:List D):Option D:=Ga (.tuple xs)
abbrev gb:FS:=λψ=>Ga (.nx ψ)
abbrev eJ (g k:FS):FS:=λψ=>mT (g ψ) k
abbrev eX (f:FV):FS:=λψ=>(f ψ).bind λd=>Ga (.rt d)
abbrev Fg (f:FL):FS:=λψ=>(f ψ).bind λd=>Ga (.ro d)
abbrev fW (c:FB)(g k:FS):FS:=λψ=>(c (frz ψ)).bind λt=>if t then g ψ else k ψ
abbrev fk (i:Nat)(f:FV):FS:=λψ=>(f ψ).bind λd=>Ga (.nx (ψ.set i (.val d)))
abbrev zk (i:Nat)(f:FL):FS:=λψ=>(f ψ).bind λd=>Ga (.nx (ψ.set i (.own d)))
abbrev zq (i:Nat)(g:FS):FS:=λψ=>(g ψ).bind λo=>Ga (Cn i o)
abbrev XJ (i:Nat)(g:FS):FS:=λψ=>g (frzAt i ψ)
abbrev pS (f:FL)(t:FT)(g:FS):FS:=λψ=>(f ψ).bind λds=>gB t g ds ψ
abbrev pK (i:Nat):FT:=λd ψ=>Ga (ψ.set i (.val d))
abbrev pL:=List D->En->Option En
abbrev NI:pL:=λds ψ=>match ds with|[]=>Ga ψ|_=>Gb
abbrev IL (t:FT)(u:pL):pL:=λds ψ=>match ds with|d::r=>(t d ψ).bind λenv1=>u r env1|[]=>Gb
abbrev tgT (u:pL):FT:=λd ψ=>(AJ d).bind λds=>u ds ψ
section
variable {X:Cx}{pos:Pos}
structure Hz (X:Cx)(es:List Expr)(t:pL):Prop where
 p:Ac X es t
 len:∀ ds ψ env',t ds ψ=Ga env'->ds.length=es.length
def zEw:Hz X [] NI:=⟨zEs,λds ψ env' h=>by cases ds with|nil=>rfl|cons _ _=>cases h⟩
def Us{u:pL}(h1:sQ X e t)(h2:Hz X es u)(hs:(assignEach (e::es) X.env).map (·.2)=assign e X.env::(assignEach es X.env).map (·.2):=by rfl):Hz X (e::es) (IL t u) :=
 ⟨zCN h1 h2.p hs,λds ψ env' h=>by
  cases ds with
  | nil=>cases h
  | cons d r =>
   have⟨e1,_,x2⟩:=dz (show(t d ψ).bind (λenv1=>u r env1)=Ga env' from h);exact congrArg Jv (h2.len r e1 env' x2)⟩
def zEx{t:pL}(hc:X.calm=true)(h:Hz X es t)(hn:(assignEach es X.env).length=es.length:=by rfl)(hst:(assignEach es X.env).findIdx? (·.1)=Gb:=by rfl):sQ X (.Tuple es k pos) (tgT t):=zGT hc h.p h.len hn hst
def mJ (i:Nat)(hN:X.N.Nodup)(hi:X.N[i]?=Ga x:=by rfl)(hx:rE X.env.scope x:=by ac_rfl)(hf:Sd X x:=by ac_rfl):sQ X (.Name x pos) (pK i):=FQ i hN hi hx hf
end
structure Fn (K:ja)(mg:Str->Option Gg)(x:Str)(st:Stmt)(ps:List Str)(a:Gj)(fd:Gi):Prop where
 F:le K x x st a fd
 b:fS K fd ps []
 m:mg x=Ga (.ref a)
variable {f:Gj}{g:FS}{op:D->D->Option D}
def zGV{oc:Gg}{od an:Option Gj}{osl:Array (Option Gg)}{kV doc pm ct:Gg}(X:K.In h)(G:h.Ns mainGlobals mg)
  (a:J3 K mainGlobals x=Ga (Ga (.ref f))) (l:K.lookup f=Ga ⟨oc,od,.func (kG x x (defArgs st) (defBody st) (defScope st) .none kV doc pm an cdv ct),osl⟩) (c:uR K cdv x=true) (k:jR K (.ref f)=true)
  (hb:∀ (kV doc pm:Gg) (an:Option Gj) (cdv ct:Gg) (us:List Gg),us.length=ps.length->bindArgs (kG x x (defArgs st) (defBody st) (defScope st) .none kV doc pm an cdv ct) ⟨us,[]⟩=pure (ps.zip us)) :
  Fn K mg x st ps f (kG x x (defArgs st) (defBody st) (defScope st) .none kV doc pm an cdv ct):=by
 have F:=Ex (st:=st) l c k;exact⟨F,F.binds hb,km X G a⟩
def ee(r:eP k A):A.units+100<cLine:=by have:=r.un;omega
noncomputable def eZ:Option gY->Option D
 | some (.rt d)=>Ga d
 | some (.ro xs)=>Ga (.list xs)
 | _=>Gb
noncomputable def Lc:Option gY->Option (List D)
 | some (.ro xs)=>Ga xs
 | _=>Gb
def eG (np n:Nat)(g:FS)(ds:List D):Option D:=if ds.length=np then eZ (g (iQ n ds)) else Gb
def xG (np n:Nat)(g:FS)(ds:List D):Option (List D):=if ds.length=np then Lc (g (iQ n ds)) else Gb
def fu (F:le K x qual st f fd)(S:dD N ps (defScope st))
  (hb:He dS P w K mg base N qual st f k λX _=>fT X.nox (defBody st) g) :
  dJ P w K mg base dS (k+1) f fd ps (fj K (eG ps.length N.length g)):=by
 refine ZK F S (λds d h=>?_) (λhr=>⟨g,hb hr,λds d h=>?_⟩)
 .unfold eG at h;split at h
  .assumption
  .cases h
 .unfold eG at h;split at h
  .unfold eZ at h;split at h
   .rename_i e;cases h;exact .inl e
   .rename_i e;cases h;exact .inr ⟨_,rfl,e⟩
   .cases h
  .cases h
def MJ (F:le K x qual st f fd)(S:dD N ps (defScope st))
  (hb:He dS P w K mg base N qual st f k λX _=>fT X.nox (defBody st) g) :
  dJ P w K mg base dS (k+1) f fd ps (yw K (xG ps.length N.length g)):=by
 refine fnO F S (λds d h=>?_) (λhr=>⟨g,hb hr,λds d h=>?_⟩)
 .unfold xG at h;split at h
  .assumption
  .cases h
 .unfold xG at h;split at h
  .unfold Lc at h;split at h
   .rename_i e;cases h;exact e
   .cases h
  .cases h
def yz {k:FS}{e:En}(h:g ψ=Ga (.nx e)):eJ g k ψ=k e:=by show mT (g ψ) k=_;rw[h];rfl
def XD {c:FB}{k:FS}(h:c (frz ψ)=Ga true):fW c g k ψ=g ψ:=by show(c (frz ψ)).bind _=_;rw[h];rfl
def BJ {c:FB}{k:FS}(h:c (frz ψ)=Ga false):fW c g k ψ=k ψ:=by show(c (frz ψ)).bind _=_;rw[h];rfl
variable {f:FV}
def Zn(h:f ψ=Ga d):eX f ψ=Ga (.rt d):=by show(f ψ).bind _=_;rw[h];rfl
def tF(h:f ψ=Ga d):fk i f ψ=Ga (.nx (ψ.set i (.val d))):=by show(f ψ).bind _=_;rw[h];rfl
def mi{g:FV}{a b:D}(h1:f ψ=Ga a)(h2:g ψ=Ga b):dX op f g ψ=op a b:=by show(f ψ).bind _=_;rw[h1];show(g ψ).bind _=_;rw[h2];rfl
def zEy{g:FL}(h:g ψ=Ga ds):er fm g ψ=fm ds:=by show(g ψ).bind _=_;rw[h];rfl
def iB{g:FL}(h1:f ψ=Ga d)(h2:g ψ=Ga ds):dC f g ψ=Ga (d::ds):=by show(f ψ).bind _=_;rw[h1];show(g ψ).bind _=_;rw[h2];rfl
def Ev {g:FL}(h:g ψ=Ga ds):fw g ψ=Ga (.list ds):=by show(g ψ).bind _=_;rw[h];rfl
def zGX {op:D->Option (List D)}{a:D}(h1:f ψ=Ga a):ip op f ψ=op a:=by show(f ψ).bind _=_;rw[h1];rfl
def Vx {f:FL}(h:f ψ=Ga ds):pS f t g ψ=gB t g ds ψ:=by show(f ψ).bind _=_;rw[h];rfl
def Wu{g:FV}{x y:D}{b:Bool}(h1:f ψ=Ga x)(h2:g ψ=Ga y)(h3:op x y=Ga (.bool b)):eM op f g ψ=Ga b:=by
 show((f ψ).bind _).bind _=_;rw[h1];show((g ψ).bind _).bind _=_;rw[h2];show(op x y).bind _=_;rw[h3];rfl
def Aa {α:Type}(lt:Nat->Nat->Option Bool):J6 α->Option α
 | .ret a=>Ga a
 | .ask i j k=>(lt i j).bind λb=>Aa lt (k b)
def Oy {α:Type}{lt:Nat->Nat->Option Bool}{cmp:Nat->Nat->(Bool->Gh->Prop)->Gh->Prop}{s:Gh}(hc:∀ i j b C,lt i j=Ga b->C b s->cmp i j C s){G:α->Gh->Prop} :
  ∀ {t:J6 α} {a:α},Aa lt t=Ga a->G a s->t.kasWp cmp G s
 | .ret x,a,e,g=>by cases e;exact g
 | .ask i j k,a,e,g=>by
  have⟨b,e1,e2⟩:=dz (show(lt i j).bind (λb=>Aa lt (k b))=Ga a from e);exact hc i j b _ e1 (Oy hc e2 g)
def YA {a:Gj}{P:J1->Gh->Prop}{lt:Nat->Nat->Option Bool}{p:Array Nat}(ho:s.heap.get? a=Ga (seqObj "list" vs.toArray n))(h2:2<=vs.length)(h64:vs.length<64)
  (hp:Aa lt (JE vs.length)=Ga p)
  (hk:∀ s1:Gh,(∀ b o,b≠a->s.heap.get? b=Ga o->s1.heap.get? b=Ga o)->∃ κ,(∀ Q:SortKind->Gh->Prop,Q κ s1->wpAny (model prog w) A (keyKind' vs.toArray) Q (λ_ _=>False) s1) /\
   ∀ i j b (C:Bool->Gh->Prop),lt i j=Ga b->C b s1->v8 prog w A κ vs i j C s1)
  (h:∀ h' c,(∀ b o,b≠a->s.heap.get? b=Ga o->h'.get? b=Ga o)->h'.get? a=Ga (seqObj "list" (qd (p.toList.map λi=>vs.getD i jC)) c)->P (.done (.ret .none)) { s with heap:=h' }) :
  wpAny (model prog w) A (Builtin.«list.sort» ⟨[.ref a],[]⟩) P E s:=by
 have s1:=ko s.heap a (j7 λ_=>(#[]:Array Gg));obtain⟨e1,ho1⟩:∃ e1,(s.heap.update a (j7 λ_=>(#[]:Array Gg))).get? a=Ga (seqObj "list" #[] e1):=⟨_,get?_update_seq ho λ_=>#[]⟩;generalize hh1:s.heap.update a (j7 λ_=>(#[]:Array Gg))=h1 at s1 ho1;have sl:vs.length<=sizeLine:=by rw[sizeLine_eq];omega
 rw[list_sort_plain];refine dv (listItems_at ho rfl (dv (listUpdate_at ho rfl ?_ (by rwa[ji]) (ku _))));rw[hh1];refine dv (seqEpoch_at ho1 rfl (dv (wpAny_newTuple (dv (wpAny_newList (wpAny_holding ?_) (ku _))) sl)));generalize hh3:(h1.push { cls:=.type "tuple",data:=.seq vs.toArray }).push { cls:=.type "list",data:=.seq ([]:List Gg).toArray }=h3;have k3:∀ b o,h1.get? b=Ga o->h3.get? b=Ga o:=λb o e=>by rw[<- hh3];exact jb _ (jb _ e)
 have keep:∀ b o,b≠a->s.heap.get? b=Ga o->h3.get? b=Ga o:=λb o nb e=>k3 b o (s1.extBut b o nb e);dsimp only;have n2:¬vs.toArray.size<2:=by rw[ji];omega
 rw[Gf n2,Gf n2];have⟨κ,hkind,hask⟩:=hk { s with heap:=h3 } keep;refine dv (wpAny_mono (hkind (λκ' s'=>κ'=κ/\s'={ s with heap:=h3 }) ⟨rfl,rfl⟩) (λκ' s' ⟨x1,x2⟩=>?_) λ_ _ z=>z.elim);subst x1 x2;refine dv (wpAny_mono (PySem.W.kat_run (Q:=λst' s'=>arrOf st'=p.map (PySem.W.kas_item (vs.toArray.zip vs.toArray))/\failedOf st'=Gb/\p.size=vs.length/\s'={ s with heap:=h3 }) (G:=λp' s'=>p'=p/\s'={ s with heap:=h3 })
  rfl h2 h64 (λp' st' s' a1 a2 a3 a4=>⟨by rwa[<- a4.1],a3,by rwa[<- a4.1],a4.2⟩) (Oy (λi j b C e c=>hask i j b C e c) hp ⟨rfl,rfl⟩)) ?_ λ_ _ e=>e)
 rintro⟨⟨⟩,st'⟩ s' ⟨har,hf,hsz,rfl⟩;dsimp only;rw[PySem.W.kat_snds rfl har];have ho3:h3.get? a=Ga (seqObj "list" #[] e1):=k3 _ _ ho1;have hz:(qd (p.toList.map λi=>vs.getD i jC)).size<=sizeLine:=by rwa[ji,jk,jP,hsz]
 refine dv (seqEpoch_at (s:={ s with heap:=h3 }) ho3 rfl (dv (listUpdate_at (s:={ s with heap:=h3 }) ho3 rfl ?_ (ku _) (qr hz))));rw[hf];simp only[bne_self_eq_false,kH,if_false];have s4:=ko h3 a (j7 λ_=>qd (p.toList.map λi=>vs.getD i jC));obtain⟨c,hc⟩:∃ c,(h3.update a (j7 λ_=>qd (p.toList.map λi=>vs.getD i jC))).get? a=Ga (seqObj "list" (qd (p.toList.map λi=>vs.getD i jC)) c):=⟨_,get?_update_seq ho3 λ_=>_⟩;exact dw (h _ c (λb o nb e=>s4.extBut b o nb (keep b o nb e)) hc)
def zwC {a:Gj}{P:J1->Gh->Prop}(ho:s.heap.get? a=Ga (seqObj "list" vs.toArray n))(h2:vs.length<2)
  (h:∀ h' c,(∀ b o,b≠a->s.heap.get? b=Ga o->h'.get? b=Ga o)->h'.get? a=Ga (seqObj "list" vs.toArray c)->P (.done (.ret .none)) { s with heap:=h' }) :
  wpAny (model prog w) A (Builtin.«list.sort» ⟨[.ref a],[]⟩) P E s:=by
 have s1:=ko s.heap a (j7 λ_=>(#[]:Array Gg));obtain⟨e1,ho1⟩:∃ e1,(s.heap.update a (j7 λ_=>(#[]:Array Gg))).get? a=Ga (seqObj "list" #[] e1):=⟨_,get?_update_seq ho λ_=>#[]⟩;generalize hh1:s.heap.update a (j7 λ_=>(#[]:Array Gg))=h1 at s1 ho1;have sl:vs.length<=sizeLine:=by rw[sizeLine_eq];omega
 rw[list_sort_plain];refine dv (listItems_at ho rfl (dv (listUpdate_at ho rfl ?_ (by rwa[ji]) (ku _))));rw[hh1];refine dv (seqEpoch_at ho1 rfl (dv (wpAny_newTuple (dv (wpAny_newList (wpAny_holding ?_) (ku _))) sl)));generalize hh3:(h1.push { cls:=.type "tuple",data:=.seq vs.toArray }).push { cls:=.type "list",data:=.seq ([]:List Gg).toArray }=h3;have k3:∀ b o,h1.get? b=Ga o->h3.get? b=Ga o:=λb o e=>by rw[<- hh3];exact jb _ (jb _ e)
 have keep:∀ b o,b≠a->s.heap.get? b=Ga o->h3.get? b=Ga o:=λb o nb e=>k3 b o (s1.extBut b o nb e);dsimp only;have n2:vs.toArray.size<2:=by rw[ji];omega
 rw[Ge n2,Ge n2];refine dv (dw ?_);rw[StateT.run_pure];refine dv (dw ?_);dsimp only;have hout:(arrOf (SortSt.mk' general' (vs.toArray.zip vs.toArray) #[] 7 Gb)).map (·.2)=vs.toArray:=by
  show(vs.toArray.zip vs.toArray).map (·.2)=vs.toArray;apply qB.mp;rw[vS,Array.toList_zip];exact List.map_snd_zip (jw _)
 rw[hout];have ho3:h3.get? a=Ga (seqObj "list" #[] e1):=k3 _ _ ho1;refine dv (seqEpoch_at (s:={ s with heap:=h3 }) ho3 rfl (dv (listUpdate_at (s:={ s with heap:=h3 }) ho3 rfl ?_ (ku _) (qr (by rwa[ji])))));simp only[bne_self_eq_false,kH,if_false];have s4:=ko h3 a (j7 λ_=>vs.toArray);obtain⟨c,hc⟩:∃ c,(h3.update a (j7 λ_=>vs.toArray)).get? a=Ga (seqObj "list" vs.toArray c):=⟨_,get?_update_seq ho3 λ_=>_⟩;exact dw (h _ c (λb o nb e=>s4.extBut b o nb (keep b o nb e)) hc)
def QB {v:Gg}{out:List Gg}(hz:vs.length<64)
  (hcol:∀ (A':Around) (Q':List Gg->Gh->Prop) (E':Gg->Gh->Prop),A'.handled=A.handled->(∀ h' tk,(∀ b o,s.heap.get? b=Ga o->h'.get? b=Ga o)->(∃ o,h'.get? s.heap.objs.size=Ga o)->Q' vs { s with heap:=h',toks:=tk })->wpAny (model prog w) A' (collect v) Q' E' s)
  (hs:∀ (s1:Gh) (a n:Nat) (P:J1->Gh->Prop) (E':Gg->Gh->Prop),(∀ b o,s.heap.get? b=Ga o->s1.heap.get? b=Ga o)->s.heap.objs.size<=a->s1.heap.get? a=Ga (seqObj "list" vs.toArray n) ->
   (∀ h' c,(∀ b o,b≠a->s1.heap.get? b=Ga o->h'.get? b=Ga o)->h'.get? a=Ga (seqObj "list" out.toArray c)->P (.done (.ret .none)) { s1 with heap:=h' }) ->
   wpAny (model prog w) A.in1.in1 (Builtin.«list.sort» ⟨[.ref a],[]⟩) P E' s1)
  (h:∀ h' tk a c,(∀ b o,s.heap.get? b=Ga o->h'.get? b=Ga o)->s.heap.objs.size<=a->h'.get? a=Ga (seqObj "list" out.toArray c)->Q (.ref a) { s with heap:=h',toks:=tk }) :
  wpAny (model prog w) A (call (.builtin "sorted") [v]) Q E s:=by
 have sl:vs.length<=sizeLine:=by rw[sizeLine_eq];omega
 refine Calls.call_function_entry kind_sorted plain_sorted entry_sorted (args_sorted1 _) ?_;unfold Builtin.«sorted»;refine dv (m:=checkCount "sorted" 1 1 _) (dw (dv (hcol _ _ _ rfl λh1 tk k1 t1=>dv (wpAny_newList ?_ sl))));obtain⟨o1,ho1⟩:=t1;have hsz:s.heap.objs.size<=h1.objs.size:=uJ (jg ho1);have hoL:(h1.push (seqObj "list" vs.toArray 0)).get? h1.objs.size=Ga (seqObj "list" vs.toArray 0):=jm _ rfl;have keep:∀ b o,s.heap.get? b=Ga o->(h1.push (seqObj "list" vs.toArray 0)).get? b=Ga o:=λb o q=>jb _ (k1 b o q);refine dv (wpAny_holding (wpAny_call_entry slot_list_sort ⟨_,hoL,rfl⟩ entry_list_sort ?_ (args_list_sort _)));refine hs { s with heap:=h1.push (seqObj "list" vs.toArray 0),toks:=tk } h1.objs.size 0 _ _ keep hsz hoL λh' c kk hc=>⟨_,rfl,dw ⟨_,rfl,h h' tk h1.objs.size c (λb o e=>kk b o (jB (jf (jg e) hsz)) (keep b o e)) hsz hc⟩⟩
def zZ:List Int->List Int->Bool
 | [],[]=>false
 | [],_::_=>true
 | _::_,[]=>false
 | x::xs,y::ys=>if x==y then zZ xs ys else decide (x<y)
def LA:D->D->Option Bool
 | .int i,.int j=>Ga (decide (i<j))
 | .tuple xs,.tuple ys=>(lg xs).bind λis=>(lg ys).bind λjs=>Ga (zZ is js)
 | _,_=>Gb
def Oe:D->Bool
 | .int _=>true
 | _=>false
def Kh:D->Bool
 | .tuple (x::xs)=>(lg (x::xs)).isSome
 | _=>false
def zv (ds:List D):Bool:=ds.all Oe||ds.all Kh
def EI (ds:List D)(i j:Nat):Option Bool:=(ds[i]?).bind λa=>(ds[j]?).bind λb=>LA a b
def oK (ds:List D):Option (List D):=if ds.length<2 then Ga ds else if (decide (ds.length<64)&&zv ds)=true then(Aa (EI ds) (JE ds.length)).bind λp=>(if p.size<=64 then Ga (p.toList.map λi=>ds.getD i .none) else Gb) else Gb
def Pm {b fin:Bool}{Q:Bool->Gh->Prop}:∀ {is js:List Int} {us ws:List Gg} {i:Nat},IntsAre us is->IntsAre ws js->(i=0->b=true)->fin=decide (is.length<js.length)->Q (zZ is js) s->PySem.W.KatLex prog w A b fin Q (us.zip ws) i s
 | [],[],_,_,i,.nil,.nil,_,hf,q=>by
  rwa[hf]
 | [],y::ys,_,_,i,.nil,.cons _ _ _,_,hf,q=>by
  have e:decide (([]:List Int).length<(y::ys).length)=true:=Gc (Nat.succ_pos _);rwa[hf,e]
 | _::_,[],_,_,i,.cons _ _ _,.nil,_,hf,q=>by
  rwa[hf]
 | x::is,y::js,_,_,i,.cons _ t h1,.cons _ u h2,hb,hf,q=>by
  show wpAny _ _ (eqBool (.int x t) (.int y u)) _ _ s;refine wpAny_eqBool_int ?_;have q':Q (if (x==y)=true then zZ is js else decide (x<y)) s:=q;cases hxy:(x==y) with
  | true =>
   rw[hxy,Ge rfl] at q';rw[Ge rfl];exact Pm (i:=i+1) h1 h2 (λz=>absurd z (Nat.succ_ne_zero _)) (by rw[hf];simp only[jr,Nat.add_lt_add_iff_right]) q'
  | false =>
   rw[hxy,Gf jV] at q';rw[Gf jV];by_cases hi:i=0
   .subst hi;rw[hb rfl];exact oneLt_int q'
   .have e:(b&&i==0)=false:=by rw[beq_eq_false_iff_ne.mpr hi,qZ]
    rw[e];exact PySem.W.kat_one _ _ (lt_int q')
def OD:∀ {is:List Int} {xs:List V} {us:List Gg},dM X.K F (is.map jO) xs->eC xs us->IntsAre us is
 | [],_,_,.nil,r=>by cases r;exact .nil
 | i::is,_,_,.cons h t,r=>by
  cases r with
  | cons r1 r2 =>
   cases h;obtain⟨tk,rfl⟩:=r1;exact .cons _ _ (OD t r2)
def WF(I:dE X ω σ H s)(g:dA F H)(r:eU X.K F (.tuple (is.map jO)) v)(ru:eL v u):∃ a o its n,u=.ref a/\s.heap.get? a=Ga o/\o.cls=.type "tuple"/\o.data=.seq its.toArray n/\IntsAre its is:=by
 cases r with
 | tup h q =>
  cases ru;have⟨its,rv,⟨o,e,c,n,d⟩,_⟩:=I.tuple (iu g h);exact⟨_,o,its,n,rfl,e,c,d,OD q rv⟩
def zxW(h:Kh d=true):∃ i is,d=.tuple ((i::is).map jO):=by
 cases d with
 | tuple xs =>
  cases xs with
  | nil=>cases h
  | cons x xs =>
   have h':(lg (x::xs)).isSome=true:=h;have⟨is,e⟩:=qx.mp h';have e2:=DF e;cases is with
   | nil=>cases e2
   | cons i is=>exact⟨i,is,by rw[e2]⟩
 | _=>cases h
def zAO(h:Oe d=true):∃ i,d=.int i:=by cases d<;>first|exact⟨_,rfl⟩|cases h
def Mj:∀ is:List Int,lg (is.map jO)=Ga is
 | []=>rfl
 | i::is=>by
  show(lg (is.map jO)).bind (λr=>Ga (i::r))=_;rw[Mj is];rfl
def zCS (is js:List Int):LA (.tuple (is.map jO)) (.tuple (js.map jO))=Ga (zZ is js):=by
 show(lg _).bind _=_;rw[Mj];show(lg _).bind _=_;rw[Mj];rfl
def BU(rv:eC xs its)(rr:dM X.K F ds xs)(e:ds[i]?=Ga d):∃ v u,eU X.K F d v/\eL v u/\its.getD i jC=u:=by
 have⟨v,e1,r1⟩:=rr.get e;have⟨u,e2,r2⟩:=rv.get e1;exact⟨v,u,r1,r2,by rw[jF,e2];rfl⟩
def YK(I:dE X ω σ H s)(g:dA F H)(rv:eC xs its)(rr:dM X.K F ds xs)(h2:2<=its.length)(ok:zv ds=true){s1:Gh}(k:∀ b o,s.heap.get? b=Ga o->s1.heap.get? b=Ga o) :
  ∃ κ,(∀ Q:SortKind->Gh->Prop,Q κ s1->wpAny (model X.prog X.w) A (keyKind' its.toArray) Q (λ_ _=>False) s1)/\∀ i j b (C:Bool->Gh->Prop),EI ds i j=Ga b->C b s1->v8 X.prog X.w A κ its i j C s1:=by
 have hlen:ds.length=its.length:=rr.length.trans rv.length;have look:∀ (i j:Nat) (b:Bool),EI ds i j=Ga b->∃ d e,ds[i]?=Ga d/\ds[j]?=Ga e/\LA d e=Ga b:=λi j b h=>by
  have⟨d,e1,h⟩:=dz h;have⟨e,e2,h⟩:=dz h;exact⟨d,e,e1,e2,h⟩
 unfold zv at ok;rw[v9] at ok;rcases ok with ok|ok
 .have ai:∀ (i:Nat) (d:D),ds[i]?=Ga d->∃ n,d=jO n:=λi d e=>zAO (k6.mp ok d (jW e));have av:∀ v∈its,∃ n t,v=uO n t:=λv hv=>by
   have⟨i,hi⟩:=List.mem_iff_getElem?.mp hv;have hl:i<ds.length:=by rw[hlen];exact(je.mp hi).1
   have⟨n,hn⟩:=ai i _ (jn hl);have⟨v',u,r1,r2,e⟩:=BU rv rr (jn hl);rw[hn] at r1;cases r1;obtain⟨t,rfl⟩:=r2;rw[jF,hi] at e;exact⟨n,t,e⟩
  refine⟨oneType',λQ q=>PySem.W.kas_kind (T:=.type "int") h2 (λv hv=>?_) (by decide) (by decide) q,λi j b C e c=>?_⟩
  .obtain⟨n,t,rfl⟩:=av v hv;exact qU rfl
  .obtain⟨d,d2,e1,e2,e3⟩:=look i j b e;obtain⟨n,rfl⟩:=ai i d e1;obtain⟨m,rfl⟩:=ai j d2 e2;have⟨v1,u1,r1,r2,x1⟩:=BU rv rr e1;have⟨v2,u2,r3,r4,x2⟩:=BU rv rr e2;cases r1;cases r3;obtain⟨t,rfl⟩:=r2;obtain⟨t2,rfl⟩:=r4;unfold v8;rw[x1,x2];cases e3;exact PySem.W.kat_lt_int c
 .have ai:∀ (i:Nat) (d:D),ds[i]?=Ga d->∃ n is,d=uL ((n::is).map jO):=λi d e=>zxW (k6.mp ok d (jW e));have tup:∀ (i:Nat) (d:D),ds[i]?=Ga d->∃ n is a o us k,d=uL ((n::is).map jO)/\its.getD i jC=jH a/\s1.heap.get? a=Ga o/\o.cls=.type "tuple"/\o.data=.seq us k/\IntsAre us.toList (n::is):=λi d e=>by
   obtain⟨n,is,rfl⟩:=ai i d e;have⟨v,u,r1,r2,x1⟩:=BU rv rr e;obtain⟨a,o,us,kk,rfl,e1,c,dd,hi⟩:=WF I g r1 r2;exact⟨n,is,a,o,us.toArray,kk,rfl,x1,k a o e1,c,dd,by simpa using hi⟩
  have kt:∀ (ws:List Gg) (es:List D),(∀ (i:Nat) v,ws[i]?=Ga v->∃ n is a o us kk,v=jH a/\s1.heap.get? a=Ga o/\o.cls=.type "tuple"/\o.data=.seq us kk/\IntsAre us.toList (n::is))->∃ fs,PySem.W.KatTups s1.heap ws fs/\fs.length=ws.length/\∀ v∈fs,∃ n t,v=uO n t:=by
   intro ws es;induction ws with
   | nil=>intro _;exact⟨[],.nil,rfl,λv hv=>by simp at hv⟩
   | cons v r ih =>
    intro hall;obtain⟨n,is,a,o,us,kk,rfl,e1,c,dd,hi⟩:=hall 0 v rfl;obtain⟨fs,h1,h2,h3⟩:=ih λi v e=>hall (i+1) v (by simpa using e);cases hu:us.toList with
    | nil=>rw[hu] at hi;cases hi
    | cons f fr =>
     rw[hu] at hi;cases hi with
     | cons _ t hi' =>
      have hf:us[0]?=Ga (uO n t):=by rw[<- kS,hu];rfl
      refine⟨uO n t::fs,.cons e1 c dd hf h1,by rw[jr,jr,h2],λv hv=>?_⟩;rcases jz.mp hv with rfl|hv
      .exact⟨n,t,rfl⟩
      .exact h3 v hv
  obtain⟨fs,t1,t2,t3⟩:=kt its ds λi v e=>by
   have hl:i<ds.length:=by rw[hlen];exact(je.mp e).1
   have⟨n,is,a,o,us,kk,_,x1,x2⟩:=tup i _ (jn hl);rw[jF,e] at x1;exact⟨n,is,a,o,us,kk,x1,x2⟩
  refine⟨tuples' true,λQ q=>PySem.W.kat_kind (T:=.type "int") t1 (by omega) (λv hv=>?_) (by decide) q,λi j b C e c=>?_⟩
  .obtain⟨n,t,rfl⟩:=t3 v hv;exact qU rfl
  .obtain⟨d,d2,e1,e2,e3⟩:=look i j b e;obtain⟨n,is,a,o,us,kk,rfl,x1,y1,_,z1,w1⟩:=tup i d e1;obtain⟨n',is',a',o',us',kk',rfl,x2,y2,_,z2,w2⟩:=tup j d2 e2;unfold v8;rw[x1,x2];rw[zCS] at e3;cases e3;refine PySem.W.kat_lt y1 z1 y2 z2 (Pm w1 w2 (λ_=>rfl) ?_ c);have l1:=w1.length;have l2:=w2.length;rw[jP] at l1 l2;rw[l1,l2]
def Ux{v:Gg}{Q:VK}(I:dE X ω σ H s)(g:dA F H)(rv:eC xs its)(rr:dM X.K F ds xs)(e:oK ds=Ga rs)
  (hcol:∀ (A':Around) (Q':List Gg->Gh->Prop) (E':Gg->Gh->Prop),A'.handled=X.A.handled->(∀ h' tk,(∀ b o,s.heap.get? b=Ga o->h'.get? b=Ga o)->(∃ o,h'.get? s.heap.objs.size=Ga o)->Q' its { s with heap:=h',toks:=tk })->wpAny (model X.prog X.w) A' (collect v) Q' E' s)
  (q:∀ a ys,H a=Gb->dM X.K F rs ys->Q (.ref a) (upd H a (.lst ys))):wX X (call (.builtin "sorted") [v]) (EP X ω σ Q) X.xe s:=by
 have hlen:ds.length=its.length:=rr.length.trans rv.length;have fin:∀ (out:List Gg) (ys:List V) (h':Heap) (tk:Nat) (a c:Nat),eC ys out->out.length<=sizeLine->dM X.K F rs ys->(∀ b o,s.heap.get? b=Ga o->h'.get? b=Ga o)->s.heap.objs.size<=a->h'.get? a=Ga (seqObj "list" out.toArray c) ->
   EP X ω σ Q (.ref a) { s with heap:=h',toks:=tk }:=λout ys h' tk a c rvo hz2 rro k ha hc =>
  ⟨.ref _,_,I.laid (t':=tk) (o:=.lst ys) k ha ⟨by rwa[rvo.length],out,c,rvo,hc⟩,rfl,q _ ys (I.hok.fresh ha) rro⟩
 unfold oK at e;split at e
 .rename_i hs;cases e;refine QB (out:=its) (by omega) hcol (λs1 a n P E' k ha ho hP=>zwC ho (by omega) λh' c kk hc=>hP h' c kk hc) λh' tk a c k ha hc=>fin its xs h' tk a c rv (by rw[sizeLine_eq];omega) rr k ha hc
 .rename_i hs;split at e
  .rename_i ok;rw[ju,decide_eq_true_eq] at ok;have⟨pm,e1,e2⟩:=dz e;split at e2;rotate_left
   .cases e2
   rename_i hpm;cases e2;have h2:2<=its.length:=by omega
   rw[hlen] at e1;refine QB (out:=pm.toList.map λi=>its.getD i jC) (by omega) hcol (λs1 a n P E' k ha ho hP=>YA ho h2 (by omega) e1 (λs2 k2=>YK I g rv rr h2 ok.2 λb o eb=>k2 b o (jB (jf (jg eb) ha)) (k b o eb)) λh' c kk hc=>hP h' c kk hc) λh' tk a c k ha hc=>?_;refine fin _ (pm.toList.map λi=>xs.getD i .non) h' tk a c ?_ ?_ ?_ k ha hc
   .have:∀ l:List Nat,eC (l.map λi=>xs.getD i V.non) (l.map λi=>its.getD i jC):=λl=>by
     induction l with
     | nil=>exact .nil
     | cons i l ih =>
      refine .cons ?_ ih;dsimp only;rw[jF,jF];cases hx:xs[i]? with
      | none=>rw[rv.none_of hx];rfl
      | some v=>have⟨u,e,r⟩:=rv.get hx;rwa[e]
    exact this _
   .rw[jk,jP,sizeLine_eq];omega
   .have:∀ l:List Nat,dM X.K F (l.map λi=>ds.getD i .none) (l.map λi=>xs.getD i V.non):=λl=>by
     induction l with
     | nil=>exact .nil
     | cons i l ih =>
      refine .cons ?_ ih;dsimp only;rw[jF,jF];cases hx:ds[i]? with
      | none =>
       have:xs[i]?=Gb:=kR (by rw[<- rr.length];exact vi.mp hx);rw[this];exact .non
      | some d=>have⟨v,e,r⟩:=rr.get hx;rwa[e]
    exact this _
  .cases e
def zwD:gk X (.builtin "sorted") (λvs H Q=>∃ F ds rs p xs,vs=[.ref p]/\dA F H/\fQ X.K H p xs/\dM X.K F ds xs/\oK ds=Ga rs/\∀ a ys,H a=Gb->dM X.K F rs ys->Q (.ref a) (upd H a (.lst ys))):=by
 intro ω s σ H vs us Q I r h;obtain⟨F,ds,rs,p,xs,rfl,g,hl,rr,e,q⟩:=h;obtain⟨u,rfl,ru⟩:=iP r;cases ru;have⟨its,rv,pl,hz⟩:=I.list hl;refine Ux I g rv rr e (λA' Q' E' _ k=>collect_list pl.isList (k _ s.toks (λb o q=>?_) ⟨_,get?_update_seq (jm _ rfl) _⟩) (rv.length▸hz)) q;have hlt:b<s.heap.objs.size:=jg q;rwa[Heap.get?_update_ne _ _ _ _ (jB hlt),Heap.get?_push_ne _ _ _ (jB hlt)]
def zAP{f:FL}(hg:Gl X "sorted")(hm:X.mg "sorted"=Gb)(ha:rq X e f)(hs:Sb X e:=by rfl):PO X (.Call (.Name "sorted" p) [e] [] pos) (λψ=>(f ψ).bind oK):=by
 refine fG (xQ zwD hg hm boot_sorted ha (hs:=hs)) λσ H Q=>?_;rintro⟨H0,F,ψ,rs,r,e,q⟩;have⟨ds,e1,e⟩:=dz e;refine⟨H0,F,ψ,ds,r,e1,λp xs H1 F1 g1 f1 fh1 n1 hl rr=>⟨F1,ds,rs,p,xs,rfl,fh1,hl,rr,e,λa ys ha ry=>?_⟩⟩;have s2:dA H1 (upd H1 a (.lst ys)):=dA.new ha;exact q a ys _ F1 (g1.trans s2) f1 (fh1.trans s2) n1 (g1.free ha) (fh1.free ha) dH ry
def GU:D->D->Option D:=tY λi j=>.int (if j<i then j else i)
def ZL{g:FV}{id:String}{op:Int->Int->Int}(hc:gk X (.builtin id) (λxs H Q=>∃ i j,xs=[.int i,.int j]/\Q (.int (op i j)) H))(hg:Gl X x)(hm:X.mg x=Gb)(hv:bootBuiltins x=Ga (.builtin id))(ha:PV X a f)(hb:PV X b g)
  (hn:x≠"__name__":=by decide) (hdb:Nd x:=by decide) (hs:starEach [a,b] X.env=(false,eval a X.env)::starEach [b] X.env:=by rfl) (hs2:Sb X b:=by rfl) :
  PV X (.Call (.Name x p) [a,b] [] pos) (λψ=>(f ψ).bind λx=>(g ψ).bind λy=>tY (λi j=>.int (op i j)) x y):=by
 refine fG (oa hc hg hm hv (eY ha (eY hb fY hs2) hs) hn hdb hs (by unfold Sc;rw[hs2];rfl)) λσ H Q=>?_;rintro⟨H0,F,ψ,d,r,e,q⟩;have⟨d1,e1,e3⟩:=dz e;have⟨d2,e2,e4⟩:=dz e3;clear e e3;refine⟨H0,F,ψ,d1,r,e1,λv H1 F1 g1 f1 fh1 n1 rv=>⟨H0,F1,ψ,d2,r.grow g1 f1 fh1 n1,e2,λv2 H2 F2 g2 f2 fh2 n2 rv2=>?_⟩⟩;cases rv<;>first|(cases e4;done)|skip
 cases rv2<;>first|(cases e4;done)|skip
 cases e4;exact⟨_,_,rfl,q _ H2 F2 (g1.trans g2) (f1.trans f2) fh2 (n1.trans n2 g1) (.int _)⟩
def XR{g:FV}(hc:X.calm=true)(hg:Gl X "min")(hm:X.mg "min"=Gb)(ha:PV X a f)(hb:PV X b g)(hs:starEach [a,b] X.env=(false,eval a X.env)::starEach [b] X.env:=by rfl)(hs2:Sb X b:=by rfl) :
  PV X (.Call (.Name "min" p) [a,b] [] pos) (λψ=>(f ψ).bind λx=>(g ψ).bind λy=>GU x y):=ZL (Dv hc) hg hm boot_min ha hb (hs:=hs) (hs2:=hs2)
def pB (c:FB)(g:FS):Nat->FS
 | 0,_=>Gb
 | n+1,ψ=>(c (frz ψ)).bind λb=>if b then(g ψ).bind λo=>match o with
   | .nx e=>pB c g n e
   | .ct e=>pB c g n e
   | .bk e=>Ga (.nx e)
   | .rt d=>Ga (.rt d)
   | .ro ds=>Ga (.ro ds)
   | .rc d e=>Ga (.rc d e)
  else Ga (.nx ψ)
def zCT (n:Nat)(hp:PassesOwn (model X.prog X.w) X.A X.env X.xe)(hc:PB X c fc)(hb:fT X body g):im X (.While c body [] pos) (pB fc g n):=by
 refine iR (Fe hp hc hb) λE σ H=>?_;rintro⟨H0,F,ψ,o,r,e,p⟩;refine⟨λm σ H=>∃ F2 ψ,RS X.K H0 F2 H ψ σ/\dA F F2/\eN F F2 H0/\pB fc g m ψ=Ga o,⟨n,F,ψ,r,.refl _,.refl _ _,e⟩,?_⟩;rintro m σ' H' ⟨F2,env2,r2,f2,n2,e2⟩;cases m with
 | zero=>cases e2
 | succ m =>
  have⟨b,x1,x2⟩:=dz (show(fc (frz env2)).bind _=Ga o from e2);refine⟨H0,H',frz env2,b,r2.frz,x1,λH3 g3=>?_⟩;have r3:=r2.later g3;have p2:=p.mono f2 n2;cases b with
  | false =>
   cases x2;exact mZ (p2 σ' H3 F2 (.refl _) (.refl _ _) r3)
  | true =>
   have⟨o1,x3,x4⟩:=dz (show(g env2).bind _=Ga o from x2);refine mP ⟨λσ4 H4=>∃ F4 ψ,RS X.K H0 F4 H4 ψ σ4/\dA F F4/\eN F F4 H0/\pB fc g m ψ=Ga o,λσ4 H4 h4=>⟨m,uP _,h4⟩,H0,F2,env2,o1,r3,x3,?_⟩;cases o1 with
   | nx e5=>exact λσ6 H6 F6 f6 n6 r6=>⟨F6,e5,r6,f2.trans f6,n2.up n6,x4⟩
   | ct e5=>exact λσ6 H6 F6 f6 n6 r6=>⟨F6,e5,r6,f2.trans f6,n2.up n6,x4⟩
   | bk e5=>cases x4;exact p2
   | rt d=>cases x4;exact p2
   | ro d=>cases x4;exact p2
   | rc a d=>cases x4;exact p2
variable {op:CmpOp}{body:Expr}{vs:Array Gg}
def AZ{k:D->D->Option D}{g h:FV}(ho:gj X (compareOp op) r)(ho':gj X (compareOp op') r')(hr:nX X.K r k)(hr':nX X.K r' k')(ha:PV X a f)(hb:PV X b g)(hc:PV X c h)
  (hm:lastMarks [op,op'] [b,c]=false:=by with_unfolding_all rfl) :
  PB X (.Compare a [op,op'] [b,c] pos) (λψ=>((f ψ).bind λx=>(g ψ).bind λy=>((k x y).bind gI).bind λt=>if t then(h ψ).bind λz=>k' y z else Ga (.bool false)).bind gI):=by
 refine tJ (Fk ho ho' ha hb hc hm) λσ H Q ⟨H0,F,ψ,bb,rs,e0,q⟩=>?_;have⟨d,e,eb⟩:=dz e0;cases zr eb;exact Vo hr hr' ⟨H0,F,ψ,_,rs,e,λv H' F' g _ _ _ r=>by cases r;exact⟨bb,rfl,q H' g⟩⟩
abbrev zR (k k':D->D->Option D)(f g h:FV):FB:=λψ=>((f ψ).bind λx=>(g ψ).bind λy=>((k x y).bind gI).bind λt=>if t then(h ψ).bind λz=>k' y z else Ga (.bool false)).bind gI
def UB {t:FT}{g:FS}(I:En->Prop):∀ {ds:List D} {ψ:En},I ψ->(∀ d∈ds,∀ ψ,I ψ->∃ e1 e2,t d ψ=Ga e1/\g e1=Ga (.nx e2)/\I e2)->∃ e,gB t g ds ψ=Ga (.nx e)/\I e
 | [],ψ,h,_=>⟨ψ,rfl,h⟩
 | x::r,ψ,h,st=>by
  have⟨e1,e2,q1,q2,q3⟩:=st x jh ψ h;have⟨e,z1,z2⟩:=UB I (ds:=r) q3 (λd hd=>st d (jd _ hd));refine⟨e,?_,z2⟩;unfold gB;rwa[q1,jp,q2]
abbrev FP:=En->Option (Option Int)
def tPt (K:ja)(f:FP):TO:=λσ H Q=>∃ H0 F ψ o,RS K H0 F H ψ σ/\f ψ=Ga o/\∀ H' F',dA H H'->dA F F'->dA F' H'->eN F F' H->Q o H'
abbrev BC (X:Cx)(e:Option Expr)(f:FP):Prop:=L2.PO X e (tPt X.K f)
abbrev zK:FP:=λ_=>Ga Gb
def Kb:D->Option (Option Int)
 | .int i=>Ga (Ga i)
 | _=>Gb
abbrev pX (f:FV):FP:=λψ=>(f ψ).bind Kb
def cutD (xs:List D)(lo hi:Option Int):List D:=(xs.drop (HT.sIx xs.length 0 lo)).take (HT.sIx xs.length xs.length hi-HT.sIx xs.length 0 lo)
def dSl:D->Option Int->Option Int->Option D
 | .list xs,lo,hi=>Ga (.list (cutD xs lo hi))
 | .tuple xs,lo,hi=>if HT.sIx xs.length 0 lo=0/\HT.sIx xs.length xs.length hi=xs.length then Gb else Ga (.tuple (cutD xs lo hi))
 | _,_,_=>Gb
def dM.cut(r:dM K F ds xs)(lo hi:Option Int):dM K F (cutD ds lo hi) (nh xs lo hi):=by
 unfold cutD nh;rw[r.length];exact(r.drop _).take _
def oV:BC X Gb zK:=by
 intro ω s σ H Q I h;obtain⟨H0,F,ψ,o,r,e,q⟩:=h;cases e;exact HZ ω s σ H Q I (q H F (.refl _) (.refl _) r.fh (.refl _ _))
def nz(h:PV X e f):BC X (Ga e) (pX f):=by
 intro ω s σ H Q I hw;obtain⟨H0,F,ψ,o,r,e1,q⟩:=hw;have⟨d,e2,e3⟩:=dz e1;refine HJ h ω s σ H Q I ⟨H0,F,ψ,d,r,e2,λv H' F' g1 f1 fh1 n1 rv=>?_⟩;cases rv<;>first|(cases e3;done)|skip
 cases e3;exact⟨_,rfl,q H' F' g1 f1 fh1 n1⟩
def EV:List Int->Option Int
 | []=>Gb
 | i::r=>Ga (r.foldl (λa b=>if b<a then b else a) i)
def EE:List Int->Option Int
 | []=>Gb
 | i::r=>Ga (r.foldl (λa b=>if a<b then b else a) i)
def yM (ds:List D):Option D:=(lg ds).bind λis=>(EV is).bind λm=>Ga (.int m)
def Hk (ds:List D):Option D:=(lg ds).bind λis=>(EE is).bind λm=>Ga (.int m)
def Bb:∀ (r:List Int) (i:Int),(r.foldl (λa b=>if b<a then b else a) i=i\/r.foldl (λa b=>if b<a then b else a) i∈r)/\r.foldl (λa b=>if b<a then b else a) i<=i/\∀ a∈r,r.foldl (λa b=>if b<a then b else a) i<=a
 | [],i=>⟨.inl rfl,vX _,λa h=>by cases h⟩
 | b::r,i=>by
  have⟨h1,h2,h3⟩:=Bb r (if b<i then b else i);rw[JP];refine⟨?_,?_,λa ha=>?_⟩
  .rcases h1 with z|z
   .by_cases hb:b<i
    .rw[Ge hb] at z ⊢;exact .inr (by rw[z];exact jh)
    .rw[Gf hb] at z ⊢;exact .inl z
   .exact .inr (jd _ z)
  .refine qL h2 ?_;split
   .rename_i hb;exact Int.le_of_lt hb
   .exact vX _
  .rcases jz.mp ha with rfl|ha
   .refine qL h2 ?_;split
    .exact vX _
    .rename_i hb;exact Int.not_lt.mp hb
   .exact h3 a ha
def Bl:∀ (r:List Int) (i:Int),(r.foldl (λa b=>if a<b then b else a) i=i\/r.foldl (λa b=>if a<b then b else a) i∈r)/\i<=r.foldl (λa b=>if a<b then b else a) i/\∀ a∈r,a<=r.foldl (λa b=>if a<b then b else a) i
 | [],i=>⟨.inl rfl,vX _,λa h=>by cases h⟩
 | b::r,i=>by
  have⟨h1,h2,h3⟩:=Bl r (if i<b then b else i);rw[JP];refine⟨?_,?_,λa ha=>?_⟩
  .rcases h1 with z|z
   .by_cases hb:i<b
    .rw[Ge hb] at z ⊢;exact .inr (by rw[z];exact jh)
    .rw[Gf hb] at z ⊢;exact .inl z
   .exact .inr (jd _ z)
  .refine qL ?_ h2;split
   .rename_i hb;exact Int.le_of_lt hb
   .exact vX _
  .rcases jz.mp ha with rfl|ha
   .refine qL ?_ h2;split
    .exact vX _
    .rename_i hb;exact Int.not_lt.mp hb
   .exact h3 a ha
def zxZ(h:EV is=Ga m):m∈is/\∀ a∈is,m<=a:=by
 cases is with
 | nil=>cases h
 | cons i r =>
  cases h;have⟨h1,h2,h3⟩:=Bb r i;refine⟨?_,λa ha=>?_⟩
  .rcases h1 with z|z
   .rw[z];exact jh
   .exact jd _ z
  .rcases jz.mp ha with rfl|ha
   .exact h2
   .exact h3 a ha
def zx0(h:EE is=Ga m):m∈is/\∀ a∈is,a<=m:=by
 cases is with
 | nil=>cases h
 | cons i r =>
  cases h;have⟨h1,h2,h3⟩:=Bl r i;refine⟨?_,λa ha=>?_⟩
  .rcases h1 with z|z
   .rw[z];exact jh
   .exact jd _ z
  .rcases jz.mp ha with rfl|ha
   .exact h2
   .exact h3 a ha
def Vv{p:Gj}(I:dE X ω σ H s)(hl:fQ X.K H p (is.map V.int))(hm:m∈is):∃ ys,s.heap.IsList p (intItems ys)/\0<ys.size/\(∀ r,r<ys.size->numAt ys r∈is)/\∃ j,j<ys.size/\numAt ys j=m:=by
 have⟨its,rv,pl,hz⟩:=I.list hl;have hi:IntsAre its is:=BM rv;have⟨ys,ey⟩:=hi.allInts.items;have en:is=ys.toList.map (·.1):=hi.numsOf.symm.trans (by rw[<- nums_intItems,<- ey]);have el:is.length=ys.size:=by rw[en,jk,jP]
 have⟨j,hj,ej⟩:=PySem.mem_getD hm;refine⟨ys,by rw[<- ey];exact pl.isList,by omega,λr h=>?_,j,by omega,?_⟩
 .rw[numAt_eq,<- en];exact PySem.getD_mem (by omega)
 .rw[numAt_eq,<- en,ej]
def zx2 (hc:X.calm=true):gk X (.builtin "min") (λxs H Q=>∃ (p:Gj) (is:List Int) (m:Int),xs=[.ref p]/\fQ X.K H p (is.map V.int)/\EV is=Ga m/\Q (.int m) H):=by
 intro ω s σ H xs us Q I r h;obtain⟨p,is,m,rfl,hl,hm,q⟩:=h;have⟨hm,hle⟩:=zxZ hm;obtain⟨u,rfl,ru⟩:=iP r;cases ru;have⟨ys,hl',hne,mem,j,hj,ej⟩:=Vv I hl hm;refine min_intList (I.ok.hd hc) hl' hne λv h' tk hv hk=>?_;obtain⟨t,rfl⟩:=intItems_at hv;have⟨b1,b2⟩:=argBest_lt (numAt ys) (ys.size-1);exact⟨.int m,H,I.kept hk,⟨t,by rw[Int.le_antisymm (ej▸b2 j (by omega)) (hle _ (mem _ (by omega)))]⟩,q⟩
def zx3 (hc:X.calm=true):gk X (.builtin "max") (λxs H Q=>∃ (p:Gj) (is:List Int) (m:Int),xs=[.ref p]/\fQ X.K H p (is.map V.int)/\EE is=Ga m/\Q (.int m) H):=by
 intro ω s σ H xs us Q I r h;obtain⟨p,is,m,rfl,hl,hm,q⟩:=h;have⟨hm,hle⟩:=zx0 hm;obtain⟨u,rfl,ru⟩:=iP r;cases ru;have⟨ys,hl',hne,mem,j,hj,ej⟩:=Vv I hl hm;refine max_intList (I.ok.hd hc) hl' hne λv h' tk hv hk=>?_;obtain⟨t,rfl⟩:=intItems_at hv;have⟨b1,b2⟩:=argBest_gt (numAt ys) (ys.size-1);exact⟨.int m,H,I.kept hk,⟨t,by rw[Int.le_antisymm (hle _ (mem _ (by omega))) (ej▸b2 j (by omega))]⟩,q⟩
def zEC{fl:FL}(hc:X.calm=true)(hg:Gl X "min")(hm:X.mg "min"=Gb)(ha:rq X e fl)(hs:Sb X e:=by rfl) :
  PV X (.Call (.Name "min" p) [e] [] pos) (oW yM fl):=by
 refine fG (xQ (zx2 hc) hg hm boot_min ha (hs:=hs)) λσ H Q=>?_;rintro⟨H0,F,ψ,d,r,e,q⟩;have⟨ds,e1,e⟩:=dz e;have⟨is,e2,e⟩:=dz e;have⟨m,e3,e⟩:=dz e;cases e;refine⟨H0,F,ψ,ds,r,e1,λp xs H1 F1 g1 f1 fh1 n1 hl rr=>⟨p,is,m,rfl,?_,e3,q _ H1 F1 g1 f1 fh1 n1 (.int _)⟩⟩;rw[DF e2] at rr;rwa[<- rr.ints_inv]
def zED{fl:FL}(hc:X.calm=true)(hg:Gl X "max")(hm:X.mg "max"=Gb)(ha:rq X e fl)(hs:Sb X e:=by rfl) :
  PV X (.Call (.Name "max" p) [e] [] pos) (oW Hk fl):=by
 refine fG (xQ (zx3 hc) hg hm boot_max ha (hs:=hs)) λσ H Q=>?_;rintro⟨H0,F,ψ,d,r,e,q⟩;have⟨ds,e1,e⟩:=dz e;have⟨is,e2,e⟩:=dz e;have⟨m,e3,e⟩:=dz e;cases e;refine⟨H0,F,ψ,ds,r,e1,λp xs H1 F1 g1 f1 fh1 n1 hl rr=>⟨p,is,m,rfl,?_,e3,q _ H1 F1 g1 f1 fh1 n1 (.int _)⟩⟩;rw[DF e2] at rr;rwa[<- rr.ints_inv]
def pN:List D->Option (List Bool)
 | []=>Ga []
 | .bool b::r=>(pN r).bind λbs=>Ga (b::bs)
 | _=>Gb
def Vc:∀ {ds:List D} {bs:List Bool},pN ds=Ga bs->ds=bs.map kP
 | [],bs,h=>by cases h;rfl
 | .bool b::r,bs,h=>by
  have⟨cs,e1,e2⟩:=dz (show(pN r).bind (λbs=>Ga (b::bs))=Ga bs from h);cases e2;rw[Vc e1];rfl
 | .none::_,_,h=>by cases h
 | .int _::_,_,h=>by cases h
 | .str _::_,_,h=>by cases h
 | .list _::_,_,h=>by cases h
 | .tuple _::_,_,h=>by cases h
 | .dict _::_,_,h=>by cases h
def dM.bools_inv {K:ja}{F:Hp}:∀ {bs:List Bool} {vs:List V},dM K F (bs.map kP) vs->vs=bs.map V.bl
 | [],_,h=>by cases h;rfl
 | b::r,_,h=>by
  cases h with
  | cons h t=>cases h;rw[dM.bools_inv t];rfl
def oX (ds:List D):Option D:=(pN ds).bind λbs=>Ga (.bool (bs.all id))
def zx4 (bs:List Bool):(kF bs.length).all (λi=>bs.getD i false)=bs.all id:=by
 rw[uI,k6,k6];constructor
 .intro h x hx;obtain⟨i,hi,rfl⟩:=List.getElem_of_mem hx;have:=h i (kY.mpr hi);rw[jF,jn hi] at this;exact this
 .intro h i hi;have hi:=kY.mp hi;rw[jF,jn hi];exact h _ (qC hi)
def zAQ {bs:List Bool}(rv:eC (bs.map V.bl) its):∀ (i:Nat) (v:Gg),its.toArray[i]?=Ga v->v=ur (bs.getD i false):=by
 intro i v hv;have hv':its[i]?=Ga v:=by simpa using hv
 have hlen:(bs.map V.bl).length=its.length:=rv.length;have:i<its.length:=(je.mp hv').1;have hk:i<bs.length:=by rw[jk] at hlen;omega
 obtain⟨w',e1,e2⟩:=rv.get (i:=i) (x:=.bl bs[i]) (by rw[jE,jn hk];rfl);rw[hv'] at e1;cases e1;cases e2;rw[jF,jn hk];rfl
def zx5 (hc:X.calm=true):gk X (.builtin "all") (λxs H Q=>∃ (p:Gj) (bs:List Bool),xs=[.ref p]/\fQ X.K H p (bs.map V.bl)/\Q (.bl (bs.all id)) H):=by
 intro ω s σ H xs us Q I r h;obtain⟨p,bs,rfl,hl,q⟩:=h;obtain⟨u,rfl,ru⟩:=iP r;cases ru;have⟨its,rv,pl,hz⟩:=I.list hl;have hp:p<s.heap.objs.size:=by obtain⟨o,n,e,_⟩:=pl;exact jg e
 refine call_all_walk (wpAny_pyIter_list pl.isList ⟨s.heap.objs.size,[s.heap.objs.size,p],[s.heap.objs.size],_,_,_,λj=>bs.getD j false,rfl,Walks.list (show X.A.in1.handled=Gb from I.ok.hd hc) _ p (jB hp) its.toArray,⟨⟨_,jm _ rfl,rfl,rfl⟩,?_⟩,?_,?_⟩)
 .obtain⟨o,n,e,c,_,d⟩:=pl;exact⟨o,jb _ e,c,n,d⟩
 .intro i v s1 Q1 E1 hv hQ;rw[zAQ rv i v hv];exact wpAny_truthy_bool hQ
 .intro h' tk hk;have el:its.toArray.size=bs.length:=by rw[ji,<- rv.length,jk]
  rw[el,zx4];refine⟨.bl (bs.all id),H,I.kept λb o e=>hk b o ?_ (jb _ e),rfl,q⟩;intro z;cases jD.mp z;exact absurd (jg e) (ka _)
def BD{fl:FL}(hc:X.calm=true)(hg:Gl X "all")(hm:X.mg "all"=Gb)(ha:rq X e fl)(hs:Sb X e:=by rfl) :
  PV X (.Call (.Name "all" p) [e] [] pos) (oW oX fl):=by
 refine fG (xQ (zx5 hc) hg hm boot_all ha (hs:=hs)) λσ H Q=>?_;rintro⟨H0,F,ψ,d,r,e,q⟩;have⟨ds,e1,e⟩:=dz e;have⟨bs,e2,e⟩:=dz e;cases e;refine⟨H0,F,ψ,ds,r,e1,λp xs H1 F1 g1 f1 fh1 n1 hl rr=>⟨p,bs,rfl,?_,q _ H1 F1 g1 f1 fh1 n1 (.bl _)⟩⟩;rw[Vc e2] at rr;rwa[<- rr.bools_inv]
def WN:D->Option D
 | .int i=>Ga (.int i)
 | .bool b=>Ga (.int (if b then 1 else 0))
 | _=>Gb
abbrev gw:FS:=λ_=>Gb
def mB:im X st gw:=by
 intro ω s σ H D I hw;obtain⟨H0,F,ψ,o,r,e,p⟩:=hw;cases e
def zwF:typeLookup (.type "list_reverseiterator") "__len__"=pure Gb:=by rw[typeLookup_type,builtinLookup_eq_fast];ext
def zAR:typeLookup (.type "list_reverseiterator") "__length_hint__"=pure (Ga (.builtin "list_reverseiterator.__length_hint__")):=by rw[typeLookup_type,builtinLookup_eq_fast];ext
def zAS {x:Gj}{Q:Bool->Gh->Prop}(hT:s.TypeIs (.ref x) "list_reverseiterator")(hQ:Q false s):wpAny (model prog w) A (kz (.ref x)) Q E s:=by
 unfold kz;refine dv (wpAny_specialOf hT zwF ?_);show wpAny _ _ (specialOf (jH x) (jv "__length_hint__") >>= _) _ _ _;refine dv (wpAny_specialOf hT zAR ?_);generalize hid:("list_reverseiterator.__length_hint__":String)=id0
 wp_delta
 rw[show splitId id0=Ga ("list_reverseiterator","__length_hint__") from by subst hid;decide +kernel];subst hid;refine dv (wpAny_isInstance (T:="list_reverseiterator") (b:=true) hT (by rw[isSubtype_type];ext) ?_);refine wpAny_ite_split (λz=>absurd z (by decide)) λ_=>?_;refine wpAny_ite_split (λ_=>?_) λz=>absurd (by nofun) z;refine wpAny_ite_split (λz=>absurd z (by nofun)) λ_=>?_;exact dw hQ
def ZB {I:Gj}{wr:List Gj}{P:Nat->Gg->Prop}{St:Nat->Heap->Prop}
  (W:Walks prog w A.in1.in1 I fp wr n P St) (hT:∀ i (s:Gh),St i s.heap->s.TypeIs (.ref I) "list_reverseiterator")
  (hint:∀ (s1:Gh) (Q1:Bool->Gh->Prop) (E1:Gg->Gh->Prop),s1.TypeIs (.ref I) "list_reverseiterator"->Q1 false s1->wpAny (model prog w) A.in1.in1 (kz (.ref I)) Q1 E1 s1)
  (st0:St 0 s.heap) (hfp:s.heap.objs.size∉fp) (hI:I∈fp) (hn:n<=sizeLine)
  (hQ:∀ h' tk acc c,(∀ b o,b∉wr->s.heap.get? b=Ga o->h'.get? b=Ga o)->h'.get? s.heap.objs.size=Ga { cls:=.type "list",data:=.seq acc c }->ItemsOf P acc n->Q (.ref s.heap.objs.size) { s with heap:=h',toks:=tk }) :
  wpAny (model prog w) A (call (.type "list") [.ref I]) Q E s:=by
 have W':=W.toS;refine callType_codes (Q₁:=λob s1=>ob=jH s.heap.objs.size/\s1={ s with heap:=s.heap.push { cls:=.type "list",data:=.seq #[] } }) PySem.F.called_list (PySem.F.typeCall_list_1 _) PySem.F.entry_list_init (code_list_new _ ⟨rfl,rfl⟩) λob s1 z=>?_;obtain⟨rfl,rfl⟩:=z;have n0:(s.heap.push { cls:=.type "list",data:=.seq #[] }).get? s.heap.objs.size=Ga { cls:=.type "list",data:=.seq #[] }:=jm _ rfl;have nI:s.heap.objs.size≠I:=λz=>hfp (z▸hI);refine⟨⟨_,n0,rfl⟩,PySem.F.args_list_init_2 _ _,?_⟩;show wpAny _ _ (uU (.ref s.heap.objs.size) >>= λold=>qD (.ref s.heap.objs.size) (λ_=>#[]) >>= λ_=>letGo old.toList.reverse >>= λ_=>jY (.ref s.heap.objs.size) (.ref I) .none) _ _ _;refine dv ?_;unfold uU;refine dv (wpAny_seqItems n0 rfl (dw ?_));show wpAny _ _ (updateSeq s.heap.objs.size (λ_=>#[]) >>= λ_=>letGo (#[]:Array Gg).toList.reverse >>= λ_=>jY (.ref s.heap.objs.size) (.ref I) .none) _ _ _;refine dv (wpAny_updateSeq n0 rfl ?_);have n1:=jI (j7 (λ_=>(#[]:Array Gg))) n0 rfl;have kp:∀ b o,s.heap.get? b=Ga o->((s.heap.push { cls:=.type "list",data:=.seq #[] }).update s.heap.objs.size (j7 (λ_=>(#[]:Array Gg)))).get? b=Ga o:=λb o e =>
  (jN _ _ (kW (jB (jg e)))).trans (jb _ e)
 have st1:=W.frame 0 _ _ st0 λb _ o e=>kp b o e;generalize (s.heap.push { cls:=.type "list",data:=.seq #[] }).update s.heap.objs.size (j7 (λ_=>(#[]:Array Gg)))=h1 at n1 kp st1;refine dv (wpAny_letGo ?_);unfold jY;refine dv (wpAny_typeOf (hT 0 { s with heap:=h1 } st1) ?_);rw[show ud (.ref s.heap.objs.size) (.ref I)=false from by simp[ud,nI]];simp only[show(k8 "list_reverseiterator"==k8 "list")=false by decide,show(k8 "list_reverseiterator"==k8 "tuple")=false by decide,vT,kH,if_false];refine dv (W.self 0 _ _ _ st1 ?_);refine dv (wpAny_holding (hint _ _ _ (hT 0 { s with heap:=h1 } st1) ?_));refine wpAny_ite_split (λz=>absurd z (by decide)) λ_=>?_;refine dw ⟨plainId_quiet PySem.F.plain_extend_loop _,codeAny_extend_loopS W' hn s.heap.objs.size hfp .none n 0 { s with heap:=h1 } #[] _ rfl (ku _) st1 n1 (ItemsOf.nil P) λs' acc c m nn it=>?_⟩;refine⟨rfl,?_⟩;rw[Moved.eq_with m];refine hQ s'.heap s'.toks acc c (λb o hb e=>m.heap b o (λz=>?_) (kp b o e)) nn it;rcases jz.mp z with z|z
 .exact absurd (jg e) (by rw[z];exact ka _)
 .exact hb z
abbrev MC (f:FL):FL:=λψ=>(f ψ).bind λxs=>Ga xs.reverse
def Ko:∀ (xs:List V) (us:List Gg),xs.length=us.length->(∀ (i:Nat) (x:V) (u:Gg),xs[i]?=Ga x->us[i]?=Ga u->eL x u)->eC xs us
 | [],[],_,_=>.nil
 | [],_::_,h,_=>by cases h
 | _::_,[],h,_=>by cases h
 | x::xs,u::us,h,r=>.cons (r 0 x u rfl rfl) (Ko xs us (qe h) λi y z e1 e2=>r (i+1) y z e1 e2)
def OZ{f:FL}{pos2:Pos}(hc:X.calm=true)(hg:Gl X "list")(hm:X.mg "list"=Gb)(hg2:Gl X "reversed")(hm2:X.mg "reversed"=Gb)(ha:rq X e f)(hs:Sb X e:=by rfl)
  (hs2:starEach [.Call (.Name "reversed" p2) [e] [] pos2] X.env=[(false,eval (.Call (.Name "reversed" p2) [e] [] pos2) X.env)]:=by rfl) :
  PO X (.Call (.Name "list" p) [.Call (.Name "reversed" p2) [e] [] pos2] [] pos) (MC f):=by
 intro ω s σ H Q I h;obtain⟨H0,F,ψ,ds,r,e0,q⟩:=h;have⟨d1,e1,e2⟩:=dz e0;cases e2;clear e0;refine Call_ (oA I hg hm boot_list (PyProof.Rows.callWith_type1 ?_ hs2 (by rfl)));rw[hs2];refine Ji ?_;refine Call_ (oA I hg2 hm2 boot_reversed (PyProof.Rows.callWith_type1 (eV (eY ha fY hs pos2 ω s σ H (λvs H2=>∃ l xs F2,vs=[.ref l]/\fQ X.K H2 l xs/\dA H H2/\dA F F2/\dA F2 H2/\eN F F2 H/\dM X.K F2 d1 xs) I
  ⟨H0,F,ψ,d1,r,e1,λa xs H1 F1 g1 f1 fh1 n1 hl rr=>⟨a,xs,F1,rfl,hl,g1,f1,fh1,n1,rr⟩⟩) λus s1 ⟨vs,H2,I2,rvs,l,xs,F2,ev,hl,g2,f2,fh2,n2,rr⟩=>?_) hs (by rfl)))
 subst ev;obtain⟨u,rfl,ru⟩:=iP rvs;cases ru;have⟨its,rv,pl,hz⟩:=I2.list hl;have ll:l<s1.heap.objs.size:=by obtain⟨o,n,e,_⟩:=pl;exact jg e
 refine call_reversed_list pl.isList ?_;refine Jt ?_;have I3:dE X ω σ H2 { s1 with heap:=s1.heap.push (revObj l ((its.toArray.size:Int)-1)),toks:=s1.toks }:=I2.kept λb o e=>jb _ e;have hit:(s1.heap.push (revObj l ((its.toArray.size:Int)-1))).IsRevIter s1.heap.objs.size l ((its.toArray.size:Int)-1):=⟨_,jm _ rfl,rfl,rfl⟩;have hl3:(s1.heap.push (revObj l ((its.toArray.size:Int)-1))).IsList l its.toArray:=by obtain⟨o,n,e,c,_,d⟩:=pl;exact⟨o,jb _ e,c,n,d⟩
 have W:=Walks.listRev (prog:=X.prog) (w:=X.w) (A:=X.A.in1.in1) (show X.A.in1.in1.handled=Gb from I2.ok.hd hc) s1.heap.objs.size l (jB ll) its.toArray;refine ZB W (λi s2 z=>z.2.1.typeIs) (λs2 Q2 E2 z1 z2=>zAS z1 z2) ⟨ku _,(by rwa[show(its.toArray.size:Int)-1-((0:Nat):Int)=(its.toArray.size:Int)-1 by omega]),hl3⟩ ?_ (by simp) ?_ λh' tk acc c k na it=>?_
 .rw[vb];simp only[jz,jQ,or_false,not_or];exact⟨Nat.succ_ne_self _,uw (qu ll)⟩
 .rwa[ji,<- rv.length]
 .have sz:acc.size=its.length:=by rw[it.1,ji]
  have vr:eC xs.reverse acc.toList:=by
   refine Ko _ _ (by have a:=rv.length;have b:=jP (xs:=acc);rw[qc];omega) λi x u hx hu=>?_;have hu':=it.2 i u (by rwa[<- kS]);have li:i<xs.length:=by have:=(je.mp hx).1;rw[qc] at this;exact this
   rw[List.getElem?_reverse li] at hx;have⟨u',e1,e2⟩:=rv.get hx;have e3:its[its.length-1-i]?=Ga u:=by rw[ji,vN] at hu';exact hu'
   rw[<- rv.length,e1] at e3;cases e3;exact e2
  have hS:s1.heap.objs.size<(s1.heap.push (revObj l ((its.toArray.size:Int)-1))).objs.size:=by rw[vb];exact uP _
  have f3:H2 (s1.heap.push (revObj l ((its.toArray.size:Int)-1))).objs.size=Gb:=I3.fresh;have I4:dE X ω σ (upd H2 (s1.heap.push (revObj l ((its.toArray.size:Int)-1))).objs.size (.lst xs.reverse)) { s1 with heap:=h',toks:=tk }:=by
   refine dE.laid (X:=X) (s:=s1) (t':=tk) I2 (λb o e=>k b o ?_ (jb _ e)) (uJ hS) ?_
   .intro z;cases jD.mp z;exact absurd (jg e) (ka _)
   .refine⟨by rwa[qc],acc.toList,c,vr,?_⟩;rwa[vY]
  have s2:dA H2 (upd H2 (s1.heap.push (revObj l ((its.toArray.size:Int)-1))).objs.size (.lst xs.reverse)):=dA.new f3;exact⟨.ref _,_,I4,rfl,q _ xs.reverse _ F2 (g2.trans s2) f2 (fh2.trans s2) n2 (g2.free f3) (fh2.free f3) dH rr.reverse⟩
def ya{n:Int}(hm:∃ t,X.mg x=Ga (.int n t))(hg:Gl X x:=by rfl)(hd:Nd x:=by decide):PV X (.Name x pos) (λ_=>Ga (.int n)):=by
 obtain⟨t,h⟩:=hm;exact Uf (v:=.int n) h ⟨_,rfl⟩ (λ_ _=>.int _) hg hd
variable {a b:Gj}{c:dZ}
def zx6:∀ h1 h2:Heap,lG a ks as ep h1->(∀ o,h1.get? a=Ga o->h2.get? a=Ga o)->lG a ks as ep h2:=by
 rintro h1 h2 ⟨o,es,ho,r⟩ k;exact⟨o,es,k _ ho,r⟩
def QJ(p:lG a ks as ep h):gH P w H h a (.ext (lG a ks as ep)):=by
 have⟨o,es,ho,r⟩:=id p;exact⟨p,⟨o,ho⟩,zx6⟩
def OT(ok:HOk P w H h)(e:H a=Ga (.ext (lG a ks as ep))):lG a ks as ep h:=(show gH P w H h a (.ext _) from ok a _ e).1
def ZG:nU []:=⟨λ_ h=>(by cases h),λ_ h=>(by cases h),List.nodup_nil,ku _⟩
def iG (ks:List D)(as:List Gj):List (D×Gj×Gg):=(ks.zip as).map λp=>(p.1,p.2,ur true)
def Rq(ks:List D)(as:List Gj):re ks as=(iG ks as).map (entryOfKey (wf P w)):=by
 unfold re iG;rw[uz];rfl
def Ep:∀ {ks:List D} {as:List Gj},ks.length=as.length->(iG ks as).map (·.1)=ks
 | [],[],_=>rfl
 | [],_::_,h=>by cases h
 | _::_,[],h=>by cases h
 | k::ks,a::as,h=>congrArg (k::·) (Ep (ks:=ks) (as:=as) (qe h))
def OP:∀ {ks:List D} {as:List Gj} (k:D) (b:Gj),ks.length=as.length->iG ks as++[(k,b,ur true)]=iG (ks++[k]) (as++[b])
 | [],[],k,b,_=>rfl
 | [],_::_,_,_,h=>by cases h
 | _::_,[],_,_,h=>by cases h
 | j::ks,a::as,k,b,h=>congrArg ((j,a,ur true)::·) (OP (ks:=ks) (as:=as) k b (qe h))
def Va:∀ {ks:List D} {as:List Gj} (k:D),(iG ks as).map (putAt k (.bool true))=iG ks as
 | [],[],k=>rfl
 | [],_::_,_=>rfl
 | _::_,[],_=>rfl
 | j::ks,a::as,k=>by
  show putAt k (.bool true) (j,a,ur true)::(iG ks as).map (putAt k (.bool true))=(j,a,ur true)::iG ks as;rw[Va (ks:=ks) (as:=as) k];refine congrArg (·::iG ks as) ?_;unfold putAt;split<;>rfl
def Qt:∀ {ks:List D} {as:List Gj} {x:D×Gj×Gg},x∈iG ks as->∃ i:Nat,ks[i]?=Ga x.1/\as[i]?=Ga x.2.1
 | [],[],x,h=>by cases h
 | [],_::_,x,h=>by cases h
 | _::_,[],x,h=>by cases h
 | k::ks,a::as,x,h=>by
  rcases jz.mp (show x∈(k,a,ur true)::iG ks as from h) with rfl|h
  .exact⟨0,rfl,rfl⟩
  .obtain⟨i,h1,h2⟩:=Qt h;exact⟨i+1,h1,h2⟩
def Uw(hl:ks.length=as.length)(k:D):(atKey (iG ks as) k).isSome=decide (k∈ks):=by
 unfold atKey;rw[Option.isSome_map];rw[uI,List.find?_isSome,decide_eq_true_eq];constructor
 .rintro⟨x,hx,e⟩;have:x.1=k:=of_decide_eq_true e;rw[<- this,<- Ep hl];exact ue.mpr ⟨x,hx,rfl⟩
 .intro h;rw[<- Ep hl] at h;have⟨x,hx,e⟩:=ue.mp h;exact⟨x,hx,Gc e⟩
noncomputable def mq (ks:List D)(k:D):List D:=if k∈ks then ks else ks++[k]
def SI (q:dM X.K F ks (as.map V.ref)):ks.length=as.length:=by have:=q.length;rw[jk] at this;exact this
def XG (I:dE X ω σ H s)(g:dA F H)(e:H a=Ga (.ext (lG a ks as ep)))(ok:nU ks)(q:dM X.K F ks (as.map V.ref)):s.heap.DictOfH (wf X.prog X.w) a (iG ks as):=by
 have⟨o,es,ho,hc,hd,he⟩:=OT I.hok e;refine⟨o,es,ep,ho,hc,hd,he.trans (Rq ks as),λx hx=>?_,by rw[Ep (SI q)];exact ok.nd⟩;have⟨i,h1,h2⟩:=Qt hx;have⟨v,e1,e2⟩:=q.get h1;rw[jE,h2] at e1;cases e1;exact⟨ok.key _ (jW h1),eU.reads I g e2 (Lk (ok.key _ (jW h1))) rfl⟩
def zyC:PE X (.Dict [] [] pos) (λσ H Q=>∀ p,H p=Gb->(p==sysModules)=false->Q (.ref p) (upd H p (.ext (lG p [] [] 0)))):=λω s σ H Q I h =>
 wpAny_Dict_empty ⟨.ref s.heap.objs.size,_,I.laid (a:=s.heap.objs.size) (o:=.ext (lG s.heap.objs.size [] [] 0)) (t':=s.toks) (λ_ _ q=>jb _ q) (jw _) (QJ ⟨_,#[],jm _ rfl,⟨rfl,rfl,rfl⟩,rfl,rfl⟩),rfl,
  h _ (I.hok.fresh (jw _)) (beq_eq_false_iff_ne.mpr (kW (jB I.big)))⟩
abbrev Ml (i:Nat):FS:=λψ=>Ga (.nx (ψ.set i (.dic [])))
def zAU (i:Nat)(hN:X.N.Nodup)(hi:X.N[i]?=Ga x:=by rfl)(hx:rE X.env.scope x:=by ac_rfl)
  (hs:swapsWith (.Dict [] [] p) (Ga (.Name x pos')) pos.line X.env=pure false:=by rfl) (hf:Sd X x:=by ac_rfl) :
  im X (.Assign [.Name x pos'] (.Dict [] [] p) pos) (Ml i):=by
 intro ω s σ H D I hw;refine pG hN hi hx zyC hs hf ω s σ H D I ?_;obtain⟨H0,F,ψ,o,r,e,p⟩:=hw;cases e;have hl:i<σ.length:=by rw[I.len];exact(je.mp hi).1
 intro a ha sm;have g:dA H (upd H a (.ext (lG a [] [] 0))):=dA.new ha;exact p _ _ F (.refl _) (.refl _ _) ((r.later g).putG hl ⟨a,[],0,rfl,dH,r.fh.free ha,r.h0.free ha,.nil,sm,ZG⟩ λj s o _ ej=>r.ne_free ha j s o ej)
def Nx (K:ja):Cu:=λo i v H Q=>∃ a ks as ep k b F,o=.ref a/\i=.ref b/\v=.bl true/\H a=Ga (.ext (lG a ks as ep))/\nU ks/\dA F H/\dM K F ks (as.map V.ref)/\eU K F k (.ref b)/\eQ k 8=true /\
 ∀ as' ep',(if k∈ks then as'=as else as'=as++[b])->Q (upd H a (.ext (lG a (mq ks k) as' ep')))
def zCV (hu:X.A.units+100<cLine):Io X (Nx X.K):=by
 intro ω s σ H o i v ov iv u Q I ro ri rv h;obtain⟨a,ks,as,ep,k,b,F,rfl,rfl,rfl,ha,ok,g,q,rk,kk,hQ⟩:=h;cases ro;cases ri;cases rv;have hD:=XG I g ha ok q;have hl:=SI q;have⟨bs,rd⟩:=eU.reads I g rk (Lk kk) (u:=.ref b) rfl;refine wpAny_setItem_heap (knd:=wf X.prog X.w) (show X.A.units+1+20<cLine by omega) ⟨kk,_,rd⟩ hD (λh' hm hs=>?_) ?_
 .obtain⟨o',es',ep',ho,hc,hd,he,_,_⟩:=id hm;have fin:∀ as',(if k∈ks then as'=as else as'=as++[b])->storedH (iG ks as) k b (.bool true)=iG (mq ks k) as'->∃ H',dE X ω σ H' { s with heap:=h',toks:=s.toks+oF k }/\Q H':=λas' c e=>by
   refine⟨_,Bd I (by rw[ha];trivial) hs ⟨o',ho⟩ (QJ ⟨o',es',ho,hc,hd,?_⟩),hQ as' ep' c⟩;rw[he,e,<- Rq]
  by_cases hm2:k∈ks
  .refine fin as (by rw[Ge hm2]) ?_;have:(atKey (iG ks as) k).isSome=true:=by rw[Uw hl,Gc hm2]
   unfold storedH mq;rw[Ge this,Ge hm2,Va]
  .refine fin (as++[b]) (by rw[Gf hm2]) ?_;have:¬(atKey (iG ks as) k).isSome=true:=by rw[Uw hl,Gd hm2];exact jV
   unfold storedH mq;rw[Gf this,Gf hm2,OP k b hl]
 .show(iG ks as).length<=sizeLine;have:(iG ks as).length=ks.length:=by rw[<- jk (f:=λx:D×Gj×Gg=>x.1),Ep hl]
  rw[this,sizeLine_eq];exact jX ok.len (by decide)
def Ce:D->Bool
 | .tuple _=>true
 | _=>false
def zwG(h:Ce d=true):∃ xs,d=.tuple xs:=by cases d<;>first|exact⟨_,rfl⟩|cases h
noncomputable def EO (i:Nat)(f:FV):FS:=λψ=>(f ψ).bind λk=>match ψ[i]? with
 | some (.dic ks)=>if (eQ k 8&&Ce k)=true/\ks.length<1000000 then Ga (.nx (ψ.set i (.dic (mq ks k)))) else Gb
 | _=>Gb
def zAV{k:D}(ok:nU ks)(hk:eQ k 8=true)(ht:∃ xs,k=.tuple xs)(hl:ks.length<1000000):nU (mq ks k):=by
 unfold mq;split
 .exact ok
 .rename_i hn;refine⟨λx hx=>?_,λx hx=>?_,?_,by rwa[jA]⟩
  .rcases kI.mp hx with z|z
   .exact ok.key x z
   .rwa[jD.mp z]
  .rcases kI.mp hx with z|z
   .exact ok.tup x z
   .rwa[jD.mp z]
  .rw[List.nodup_append];refine⟨ok.nd,uY.mpr ⟨by simp,List.nodup_nil⟩,λx hx y hy=>?_⟩;rw[jD.mp hy];exact λz=>hn (z▸hx)
def zAW (i:Nat){ke:Expr}{pt:Pos}{jt}(hu:X.A.units+100<cLine)(hk:PV X ke f)(hN:X.N[i]?=Ga x:=by rfl)(hv:lK X.env.scope x:=by ac_rfl)
  (hd:Nd x:=by decide) (hcd:(x==("__classdict__":Str))=false:=by decide)
  (hs:swapsWithSole [.Subscript (.Name x p) ke p2] (.Constant (.bool true) jt pt) pos.line X.env=pure false:=by rfl) (hw:swappedStores [.Subscript (.Name x p) ke p2] (.Constant (.bool true) jt pt) X.env=pure Gb:=by rfl)
  (h1:(assignEach [.Subscript (.Name x p) ke p2] X.env).map (·.2)=[assign (.Subscript (.Name x p) ke p2) X.env]:=by rfl)
  (ha:∀ v,assign (.Subscript (.Name x p) ke p2) X.env v=(do
   let ov <- holding [v] (eval (.Name x p) X.env)
   let iv <- holding [v,ov] (eval ke X.env)
   standAt p2
   holding [v,ov,iv] (setItem ov iv v)
   release [v,ov,iv] []):=by intro _;rfl) :
  im X (.Assign [.Subscript (.Name x p) ke p2] (.Constant (.bool true) jt pt) pos) (EO i f):=by
 refine iR (Dp (HF (pos:=pt)) (MN (gz (pos:=p) hN hv hd hcd) hk (zCV hu) ha) hs hw h1) λE σ H=>?_;rintro⟨H0,F,ψ,o,r,e,p⟩;have⟨k,e1,e2⟩:=dz e;clear e;split at e2;rotate_left
 .cases e2
 rename_i ks z;split at e2;rotate_left
 .cases e2
 rename_i c;cases e2;obtain⟨c1,c2⟩:=c;rw[ju] at c1;obtain⟨xs,rfl⟩:=zwG c1.2;have⟨u,x3,a,as,ep,x4,ha1,fa,h0a,rr,sm,ok⟩:=r.sl i _ z;subst x4;refine⟨.ref a,x3,H0,F,ψ,.tuple xs,r,e1,λv H1 F1 g1 f1 fh1 n1 rv=>?_⟩;have r1:=r.grow g1 f1 fh1 n1;have⟨u,x5,a',as',ep',x6,ha2,fa2,h0a2,lv,sm2,ok2⟩:=r1.sl i _ z;subst x6;rw[x3] at x5;cases x5;cases rv with
 | @tup b vs _ hb rb =>
  refine⟨a,ks,as',ep',.tuple xs,b,F1,rfl,rfl,rfl,ha2,ok2,fh1,lv,.tup hb rb,c1.1,λas2 ep2 hc=>?_⟩;refine p σ _ F1 f1 (n1.dn r.h0) (r1.chgG z rfl x3 ⟨a,as2,ep2,rfl,dH,fa2,h0a2,?_,sm2,zAV ok2 c1.1 ⟨_,rfl⟩ c2⟩);unfold mq;split at hc
  .rename_i hm;rw[Ge hm,hc];exact lv
  .rename_i hm;rw[Gf hm,hc,JQ];exact lv.append (.cons (.tup hb rb) .nil)
def Vf:List (D×D)->Bool
 | (.none,.none)::_=>true
 | _=>false
def zCW (ks:List D):Vf (ks.map λk=>(k,kP true))=false:=by
 cases ks with
 | nil=>rfl
 | cons k r=>cases k<;>rfl
def sU:D->Option (List D)
 | .dict kvs=>if Vf kvs=true then Gb else Ga (kvs.map (·.1))
 | _=>Gb
def OW (ks:List D):sU (.dict (ks.map λk=>(k,kP true)))=Ga ((ks.map λk=>(k,kP true)).map (·.1)):=by
 unfold sU;dsimp only;rw[zCW,Gf jV]
def Qa:∀ {ks:List D} {as:List Gj} {i:Nat} {b:Gj},ks.length=as.length->as[i]?=Ga b->∃ e,(re ks as)[i]?=Ga e/\e.key=.ref b
 | [],[],i,b,_,h=>by simp at h
 | [],_::_,_,_,h,_=>by cases h
 | _::_,[],_,_,h,_=>by cases h
 | k::ks,a::as,0,b,_,h=>by cases h;exact⟨_,rfl,rfl⟩
 | k::ks,a::as,i+1,b,hl,h=>Qa (ks:=ks) (as:=as) (i:=i) (b:=b) (qe hl) h
def zAX(hl:ks.length=as.length):(re ks as).length=as.length:=by
 unfold re;rw[jk,List.length_zip,hl,Nat.min_self]
def zCX{d:Gj}(p:lG d ks as ep h):mx h d (re ks as).toArray ep:=by
 obtain⟨o,es,ho,hc,hd,he⟩:=p;refine⟨o,ho,hc,?_⟩;rwa[<- he,vY]
def zt8:typeLookup (.type "dict") "__len__"=pure (Ga (.builtin "dict.__len__")):=by rw[typeLookup_type,builtinLookup_eq_fast];ext
def zyD {x:Gj}{Q:Bool->Gh->Prop}(hT:s.TypeIs (.ref x) "dict")(hQ:Q false s):wpAny (model prog w) A (kz (.ref x)) Q E s:=by
 unfold kz;refine dv (wpAny_specialOf hT zt8 ?_);generalize hid:("dict.__len__":String)=id0
 wp_delta
 rw[show splitId id0=Ga ("dict","__len__") from by subst hid;decide +kernel];subst hid;refine dv (wpAny_isInstance (T:="dict") (b:=true) hT (by rw[isSubtype_type];ext) ?_);refine wpAny_ite_split (λz=>absurd z (by decide)) λ_=>?_;refine wpAny_ite_split (λ_=>?_) λz=>absurd (by nofun) z;exact dv (wpAny_typeOf hT (dw hQ))
def zAY {d:Gj}{es:Array DictEntry}(hh:A.handled=Gb)(sm:(d==sysModules)=false)(hd:mx s.heap d es ep)(hn:es.size<=sizeLine)
  (hQ:∀ h' tk acc c,(∀ b o,s.heap.get? b=Ga o->h'.get? b=Ga o)->h'.get? s.heap.objs.size=Ga { cls:=.type "list",data:=.seq acc c }->ItemsOf (λi v=>∃ e,es[i]?=Ga e/\v=e.key) acc es.size->Q (.ref s.heap.objs.size) { s with heap:=h',toks:=tk }) :
  wpAny (model prog w) A (call (.type "list") [.ref d]) Q E s:=by
 have hlt:d<s.heap.objs.size:=by obtain⟨o,e,_⟩:=hd;exact jg e
 refine callType_codes (Q₁:=λob s1=>ob=jH s.heap.objs.size/\s1={ s with heap:=s.heap.push { cls:=.type "list",data:=.seq #[] } }) PySem.F.called_list (PySem.F.typeCall_list_1 _) PySem.F.entry_list_init (code_list_new _ ⟨rfl,rfl⟩) λob s1 z=>?_;obtain⟨rfl,rfl⟩:=z;have n0:(s.heap.push { cls:=.type "list",data:=.seq #[] }).get? s.heap.objs.size=Ga { cls:=.type "list",data:=.seq #[] }:=jm _ rfl;refine⟨⟨_,n0,rfl⟩,PySem.F.args_list_init_2 _ _,?_⟩;show wpAny _ _ (uU (.ref s.heap.objs.size) >>= λold=>qD (.ref s.heap.objs.size) (λ_=>#[]) >>= λ_=>letGo old.toList.reverse >>= λ_=>jY (.ref s.heap.objs.size) (.ref d) .none) _ _ _;refine dv ?_;unfold uU;refine dv (wpAny_seqItems n0 rfl (dw ?_));show wpAny _ _ (updateSeq s.heap.objs.size (λ_=>#[]) >>= λ_=>letGo (#[]:Array Gg).toList.reverse >>= λ_=>jY (.ref s.heap.objs.size) (.ref d) .none) _ _ _;refine dv (wpAny_updateSeq n0 rfl ?_);have n1:=jI (j7 (λ_=>(#[]:Array Gg))) n0 rfl;have kp:∀ b o,s.heap.get? b=Ga o->((s.heap.push { cls:=.type "list",data:=.seq #[] }).update s.heap.objs.size (j7 (λ_=>(#[]:Array Gg)))).get? b=Ga o:=λb o e =>
  (jN _ _ (kW (jB (jg e)))).trans (jb _ e)
 generalize (s.heap.push { cls:=.type "list",data:=.seq #[] }).update s.heap.objs.size (j7 (λ_=>(#[]:Array Gg)))=h1 at n1 kp;have hd1:mx h1 d es ep:=hd.kept λo e=>kp d o e;refine dv (wpAny_letGo ?_);unfold jY;refine dv (wpAny_typeOf (T:="dict") (mx.ty (s:={ s with heap:=h1 }) hd1) ?_);rw[show ud (.ref s.heap.objs.size) (.ref d)=false from by simp[ud,uw hlt]];simp only[show(k8 "dict"==k8 "list")=false by decide,show(k8 "dict"==k8 "tuple")=false by decide,vT,kH,if_false];refine dv (zAF (s:={ s with heap:=h1 }) sm hd1 ?_);have kp2:∀ b o,h1.get? b=Ga o->(h1.push { cls:=.type "dict_keyiterator",data:=.fields #[.ref d,.int 0 0,.int es.size 0,.int ep 0] }).get? b=Ga o:=λb o e=>jb _ e;have it0:(h1.push { cls:=.type "dict_keyiterator",data:=.fields #[.ref d,.int 0 0,.int es.size 0,.int ep 0] }).IsKeyIter h1.objs.size d 0 es.size ep:=⟨_,jm _ rfl,rfl,rfl⟩;have dI:d≠h1.objs.size:=by obtain⟨o,e,_⟩:=hd1;exact jB (jg e)
 have sI:s.heap.objs.size≠h1.objs.size:=jB (jg n1);have hd2:=hd1.kept λo e=>kp2 d o e;have n2:=kp2 _ _ n1;generalize h1.push { cls:=.type "dict_keyiterator",data:=.fields #[.ref d,.int 0 0,.int es.size 0,.int ep 0] }=h2 at kp2 it0 hd2 n2;refine dv (wpAny_holding (zyD (mx.ty (s:={ s with heap:=h2 }) hd2) ?_));refine wpAny_ite_split (λ_=>?_) λz=>absurd (by decide) z;refine dv (wpAny_rule (dv ?_));show wpAny _ _ (updateSeq s.heap.objs.size (·.push .none) >>= λ_=>updateSeq s.heap.objs.size (·.pop)) _ _ _;refine dv (wpAny_updateSeq n2 rfl ?_);have n3:=jI (j7 (·.push jC)) n2 rfl;refine wpAny_updateSeq (hz:=by seq_fits) n3 rfl ?_;have n4:=jI (j7 (·.pop)) n3 rfl;have kp3:∀ b o,b≠s.heap.objs.size->h2.get? b=Ga o->((h2.update s.heap.objs.size (j7 (·.push jC))).update s.heap.objs.size (j7 (·.pop))).get? b=Ga o :=
  λb o hb e=>(jN _ _ (kW hb)).trans ((jN _ _ (kW hb)).trans e)
 have it4:=it0.at λo e=>kp3 _ o (kW sI) e;have hd4:=hd2.kept λo e=>kp3 _ o (jB hlt) e;generalize (h2.update s.heap.objs.size (j7 (·.push jC))).update s.heap.objs.size (j7 (·.pop))=h4 at n4 kp3 it4 hd4;have W:=(zxH (prog:=prog) (w:=w) (A:=A.in1.in1) (show A.in1.in1.handled=Gb from hh) h1.objs.size d dI es ep).toS;refine dw ⟨plainId_quiet PySem.F.plain_extend_loop _,codeAny_extend_loopS W hn s.heap.objs.size ?_ .none es.size 0 { s with heap:=h4 } #[] _ rfl (ku _) ⟨it4,hd4⟩ n4 (ItemsOf.nil _) λs' acc c m nn it=>?_⟩
 .simp only[jz,jQ,or_false,not_or];exact⟨sI,uw hlt⟩
 .refine⟨rfl,?_⟩;rw[Moved.eq_with m];refine hQ s'.heap s'.toks acc c (λb o e=>m.heap b o (λz=>?_) (kp3 _ _ (jB (jg e)) (kp2 _ _ (kp b o e)))) nn it;simp only[jz,jQ,or_false] at z;rcases z with z|z
  .exact absurd (jg e) (by rw[z];exact ka _)
  .exact absurd (jg (kp b o e)) (by rw[z];exact ka _)
def zwH (hc:X.calm=true):gk X (.type "list") (λxs H Q=>∃ (d:Gj) (ks:List D) (as:List Gj) (ep:Nat),xs=[.ref d]/\(d==sysModules)=false/\H d=Ga (.ext (lG d ks as ep))/\ks.length=as.length/\as.length<=1000000/\∀ l,H l=Gb->Q (.ref l) (upd H l (.lst (as.map V.ref)))):=by
 intro ω s σ H xs us Q I r h;obtain⟨d,ks,as,ep,rfl,sm,hd,hl,hz,q⟩:=h;obtain⟨u,rfl,ru⟩:=iP r;cases ru;have sz:(re ks as).toArray.size=as.length:=by rw[ji,zAX hl]
 have hz':as.length<=sizeLine:=by rw[sizeLine_eq];exact jX hz (by decide)
 refine zAY (es:=(re ks as).toArray) (ep:=ep) (I.ok.hd hc) sm (zCX (OT I.hok hd)) (by rwa[sz]) λh' tk acc c k na it=>?_;rw[sz] at it;have vr:eC (as.map V.ref) acc.toList:=by
  refine Ko _ _ (by have a1:=it.1;have a2:=jP (xs:=acc);rw[jk];omega) λi x u hx hu=>?_;obtain⟨e,e1,e2⟩:=it.2 i u (by rwa[<- kS]);rw[jE] at hx;obtain⟨b,hb,rfl⟩:=uV.mp hx;have⟨e',e3,e4⟩:=Qa hl hb;rw[vN,e3] at e1;cases e1;rw[e2,e4];rfl
 refine⟨.ref _,_,dE.laid (X:=X) (s:=s) (a:=s.heap.objs.size) (o:=.lst (as.map V.ref)) (t':=tk) I k (jw _) ⟨by rwa[jk],acc.toList,c,vr,?_⟩,rfl,q _ I.fresh⟩;rwa[vY]
def zCY(hc:X.calm=true)(hg:Gl X "list")(hm:X.mg "list"=Gb)(ha:PV X e f)(hs:Sb X e:=by rfl):PO X (.Call (.Name "list" p) [e] [] pos) (ip sU f):=by
 refine fG (Bt (zwH hc) hg hm boot_list ha (hs:=hs)) λσ H Q=>?_;rintro⟨H0,F,ψ,ds,r,e,q⟩;have⟨d',e1,e⟩:=dz e;refine⟨H0,F,ψ,_,r,e1,λv H1 F1 g1 f1 fh1 n1 rv=>?_⟩;cases rv<;>first|(cases e;done)|skip
 rename_i a ks as ep sm ha ok rr;rw[OW] at e;cases e;rw[Sv] at q;have hl:ks.length=as.length:=by have:=rr.length;rw[jk] at this;exact this
 refine⟨a,ks,as,ep,rfl,sm,fh1 _ _ ha,hl,by rw[<- hl];exact ok.len,λl hl'=>?_⟩;have s2:dA H1 (upd H1 l (.lst (as.map V.ref))):=dA.new hl';exact q l _ _ F1 (g1.trans s2) f1 (fh1.trans s2) n1 (g1.free hl') (fh1.free hl') dH rr
def zwI:wx X "list.extend" (λx vs H Q=>∃ l b xs zs,x=.ref l/\vs=[.ref b]/\H l=Ga (.lst xs)/\fQ X.K H b zs/\xs.length+zs.length<=1000000/\Q .non (upd H l (.lst (xs++zs)))):=by
 intro ω s σ H x vs v us Q I rx rv h;obtain⟨l,b,xs,zs,rfl,rfl,hH,hB,hz,q⟩:=h;cases rx;obtain⟨u,rfl,ru⟩:=rv.one;cases ru;have⟨z,its,n,r,hl,e⟩:=I.lstM hH;have⟨its2,r2,⟨o2,n2,e2,c2,k2,d2⟩,z2⟩:=I.list hB;have hl2:=r2.length;have hsz:its.length+its2.length<=sizeLine:=by rw[sizeLine_eq];omega
 refine wpAny_call_entry qz ⟨_,e,rfl⟩ PySem.F.entry_list_extend ?_ (PySem.F.args_list_extend_2 _ _);show wpAny _ _ (jY (.ref l) (.ref b) .none) _ _ s;unfold jY;refine dv (wpAny_typeOf (T:="list") ⟨o2,e2,c2⟩ ?_);rw[Ge (by simp)];refine dv (listItems_at e2 d2 ?_);refine dv (listItems_at e rfl ?_);rw[Gf (by
  rw[show vm (its.toArray.size+its2.toArray.size)=false from EF (by rw[ji,ji];exact hsz),qZ];exact jV)]
 refine dv (listUpdate_at e rfl ?_ (by rw[ji];omega) (by rw[Array.size_append,ji,ji];omega));refine dw ?_;exact⟨_,rfl,.non,_,I.lset (t':=s.toks) (its':=its++its2) hH e (by simp) (r.append r2) (by rw[jA];omega),rfl,q⟩
def Cb (ds es:List D):Option (List D):=if ds.length+es.length<=1000000 then Ga (ds++es) else Gb
abbrev Xg (i:Nat)(f:FV):FS:=λψ=>(go i ψ).bind λds=>(f ψ).bind λd=>(An d).bind λes=>(Cb ds es).bind λrs=>Ga (.nx (ψ.set i (.own rs)))
def zAZ (i:Nat){p3:Pos}(h:PV X e f)(hN:X.N[i]?=Ga x:=by rfl)(hv:lK X.env.scope x:=by ac_rfl)
  (hst:Sb X e:=by rfl) (hline:(p2.endLine==p3.line)=true:=by rfl)
  (hd:Nd x:=by decide) (hcd:(x==("__classdict__":Str))=false:=by decide)
  (hs:swapsWith (.Call (.Attribute (.Name x p) "extend" p2) [e] [] p3) Gb pos.line X.env=pure false:=by rfl) :
  im X (.Expr (.Call (.Attribute (.Name x p) "extend" p2) [e] [] p3) pos) (Xg i f):=by
 refine iR (AW (pQ vB qz PySem.F.type_list_extend zwI (gz (pos:=p) hN hv hd hcd) (eY h fY hst) rfl (by rw[hst];rfl) hline hst rfl) hs) λE σ H=>?_;rintro⟨H0,F,ψ,o,r,e,p⟩;have⟨ds,e1,e⟩:=dz e;have⟨d,e2,e⟩:=dz e;have⟨es,e3,e⟩:=dz e;have⟨rs,e4,e⟩:=dz e;cases e;cases Pd e3;unfold Cb at e4;split at e4;rotate_left
 .cases e4
 rename_i hz;cases e4;unfold go at e1;split at e1;rotate_left
 .cases e1
 rename_i ds' z;cases e1;have⟨u,e3,a,xs,e4,ha,fa,h0a,rr⟩:=r.sl i _ z;subst e4;refine⟨.ref a,e3,.inl ⟨rfl,xs,fQ.of ha⟩,H0,F,ψ,.list es,r,e2,λv H' F' g f1 fh n rv=>?_⟩;have r2:=r.grow g f1 fh n;have⟨u2,e5,a2,xs2,e6,ha2,fa2,h0a2,lv⟩:=r2.sl i _ z;rw[e3] at e5;cases e5;cases e6;cases rv with
 | lst hb rb =>
  refine⟨a,_,xs2,_,rfl,rfl,ha2,fh.seq hb,?_,?_⟩
  .rwa[<- lv.length,<- rb.length]
  .exact p σ _ F' f1 (n.dn r.h0) (r2.chg z e3 (lv.append rb))
def Hj {K:ja}{F:Hp}:∀ (ks:List Int),dM K F (ks.map jO) (ks.map V.int)
 | []=>.nil
 | k::ks=>.cons (.int k) (Hj ks)
def butC (H:Hp)(cs:List Gj):Hp:=λb=>if b∈cs then Gb else H b
def AR(h:b∈cs):butC H cs b=Gb:=Ge h
def lB(h:b∉cs):butC H cs b=H b:=Gf h
def IM(h:butC H cs b=Ga o):b∉cs/\H b=Ga o:=by
 by_cases hb:b∈cs
 .rw[AR hb] at h;cases h
 .rw[lB hb] at h;exact⟨hb,h⟩
def putC (G H:Hp)(cs:List Gj):Hp:=λb=>if b∈cs then G b else H b
def DA(h:b∈cs):putC G H cs b=G b:=Ge h
def tZ(h:b∉cs):putC G H cs b=H b:=Gf h
def NX (H:Hp)(c:Gj):Prop:=∃ o v,H c=Ga (.frz o (.own c))/\o.data=.cell v
def iq (H:Hp)(cs:List Gj):Prop:=∀ c∈cs,NX H c
def PN(m:iq H cs)(g:fA H l):fA (butC H cs) l :=
 ⟨g.1,λpos cv e=>by
  have⟨c,o,vs,v,e1,e2,e3,e4⟩:=g.2 pos cv e;refine⟨c,o,vs,v,e1,?_,e3,e4⟩;rw[lB λz=>?_]
  .exact e2
  .obtain⟨o',v',h1,h2⟩:=m c z;rw[e2] at h1;cases h1;rw[e3] at h2;cases h2⟩
def Ek(n:∀ c∈cs,H c=Gb):∀ c o,H c=Ga o->putC G H cs c=Ga o:=λc o h=>by
 rwa[tZ λz=>by rw[n c z] at h;cases h]
def dA.withC(m:iq H cs)(s:dA (butC H cs) H')(n:∀ c∈cs,H' c=Gb):dA H (putC H H' cs):=λb o h=>by
 by_cases hb:b∈cs
 .rw[DA hb];have⟨o',v',h1,_⟩:=m b hb;rw[h1] at h;cases h;exact h1
 .rw[tZ hb];exact((s b o (by rwa[lB hb])).from λ_ z=>PN m z).to λ_ z=>z.sub (Ek n)
def dA.withC2(mF:iq F cs)(e:∀ c∈cs,F c=H c)(s:dA F' H')(nF:∀ c∈cs,F' c=Gb)(n:∀ c∈cs,H' c=Gb):dA (putC F F' cs) (putC H H' cs):=λb o h=>by
 by_cases hb:b∈cs
 .rw[DA hb] at h ⊢;have⟨o',v',h1,_⟩:=mF b hb;rw[h1] at h;cases h;rwa[<- e b hb]
 .rw[tZ hb] at h ⊢;refine((s b o h).from λl z=>?_).to λ_ z=>z.sub (Ek n);refine⟨z.1,λpos cv e=>?_⟩;have⟨c,x,vs,v,e1,e2,e3,e4⟩:=z.2 pos cv e;refine⟨c,x,vs,v,e1,?_,e3,e4⟩;rw[tZ λq=>?_] at e2
  .exact e2
  .rw[DA q] at e2;have⟨o',v',h1,h2⟩:=mF c q;rw[e2] at h1;cases h1;rw[e3] at h2;cases h2
mutual
def eU.butC {K:ja}{F:Hp}{cs:List Gj}(m:iq F cs):∀ {d:D} {v:V},eU K F d v->eU K (T3.butC F cs) d v
 | _,_,.non=>.non
 | _,_,.bl b=>.bl b
 | _,_,.int i=>.int i
 | _,_,.str x=>.str x
 | _,_,.tup h r=>.tup (by
   rcases h with (h|⟨o,h⟩)|h
   .exact .inl (.inl (by rwa[lB λz=>by have⟨o',v',h1,_⟩:=m _ z;rw[h] at h1;cases h1]))
   .exact .inl (.inr ⟨o,by rwa[lB λz=>by have⟨o',v',h1,_⟩:=m _ z;rw[h] at h1;cases h1]⟩)
   .exact .inr h) (dM.butC m r)
 | _,_,.lst h r=>.lst (by
   rcases h with (h|⟨o,h⟩)|h
   .exact .inl (.inl (by rwa[lB λz=>by have⟨o',v',h1,_⟩:=m _ z;rw[h] at h1;cases h1]))
   .exact .inl (.inr ⟨o,by rwa[lB λz=>by have⟨o',v',h1,_⟩:=m _ z;rw[h] at h1;cases h1]⟩)
   .exact .inr h) (dM.butC m r)
 | _,_,.dic hs h ok r=>.dic hs (by rwa[lB λz=>by have⟨o',v',h1,_⟩:=m _ z;rw[h] at h1;cases h1]) ok (dM.butC m r)
 | _,_,.dcs h r=>.dcs (by
   rcases h with h|⟨o,h⟩
   .exact .inl (by rwa[lB λz=>by have⟨o',v',h1,_⟩:=m _ z;rw[h] at h1;cases h1])
   .exact .inr ⟨o,by rwa[lB λz=>by have⟨o',v',h1,_⟩:=m _ z;rw[h] at h1;cases h1]⟩) (fv.butC m r)
def dM.butC {K:ja}{F:Hp}{cs:List Gj}(m:iq F cs):∀ {ds:List D} {vs:List V},dM K F ds vs->dM K (T3.butC F cs) ds vs
 | _,_,.nil=>.nil
 | _,_,.cons h t=>.cons (eU.butC m h) (dM.butC m t)
def fv.butC {K:ja}{F:Hp}{cs:List Gj}(m:iq F cs):∀ {l:List (Str×D)} {w:List (fJ×V)},fv K F l w->fv K (T3.butC F cs) l w
 | _,_,.nil=>.nil
 | _,_,.cons h t=>.cons (eU.butC m h) (fv.butC m t)
end
def HOk.butC {P:Program}{w:World}{H:Hp}{h:Heap}{cs:List Gj}(m:iq H cs)(x:HOk P w H h):HOk P w (T3.butC H cs) h:=λa o e=>by
 have⟨hb,e⟩:=IM e;refine(x a o e).stay (λ_ _ _ q=>q) (λb q=>?_) λb xs q=>?_
 .rwa[lB λz=>by have⟨o',v',h1,_⟩:=m _ z;rw[q] at h1;cases h1]
 .rwa[lB λz=>by have⟨o',v',h1,_⟩:=m _ z;rw[q] at h1;cases h1]
def Un.putC {fs:List Gj}{H H':Hp}{h h':Heap}{cs:List Gj}(m:iq H cs)(u:Un fs [] (T3.butC H cs) H' h h')(n:∀ c∈cs,H' c=Gb):Un fs [] H (T3.putC H H' cs) h h':=by
 have out:∀ {b:Gj},H b=Gb->b∉cs:=λ{b} e z=>by have⟨o',v',h1,_⟩:=m _ z;rw[e] at h1;cases h1
 have bn:∀ {b:Gj},H b=Gb->T3.butC H cs b=Gb:=λ{b} e=>by rwa[lB (out e)]
 refine⟨λb o q nb hb hx=>u.keep b o q (bn nb) hb hx,λb o q nb hb hx=>u.slot b o q (bn nb) hb hx,λb o q nb hx=>by rw[tZ (out nb)];exact u.free b o q (bn nb) hx,u.there,λb xs q=>?_,λb o x q=>?_,λb ps q=>?_⟩
 .have nb:b∉cs:=λz=>by have⟨o',v',h1,_⟩:=m _ z;rw[q] at h1;cases h1
  rw[tZ nb];exact u.tups b xs (by rwa[lB nb])
 .by_cases nb:b∈cs
  .rwa[DA nb]
  .rw[tZ nb];exact u.frzs b o x (by rwa[lB nb])
 .have nb:b∉cs:=λz=>by have⟨o',v',h1,_⟩:=m _ z;rw[q] at h1;cases h1
  rw[tZ nb];exact u.tbls b ps (by rwa[lB nb])
def HOk.putC {P:Program}{w:World}{H H':Hp}{h h':Heap}{cs:List Gj}(m:iq H cs)(x:HOk P w H' h')(n:∀ c∈cs,H' c=Gb)(k:∀ c∈cs,∀ o v,H c=Ga (.frz o (.own c))->o.data=.cell v->h'.get? c=Ga o):HOk P w (T3.putC H H' cs) h':=λa o e=>by
 by_cases ha:a∈cs
 .rw[DA ha] at e;have⟨o',v',h1,h2⟩:=m a ha;rw[h1] at e;cases e;have g:=k a ha o' v' h1 h2;exact⟨g,o',g⟩
 .rw[tZ ha] at e;exact(x a o e).stay (λ_ _ _ q=>q) (λb q=>Ek n b _ q) λb xs q=>Ek n b _ q
structure sZ (x:Str)(fr:List Str)(scope:Scope):Prop where
 kind:scope.kind=.function
 co:scope.isCoroutine=false
 gen:scope.isGenerator=false
 nocell:∀ y∈scope.names,y.2≠.cell
 par:scope.names.lookup x=Ga .local
 free:∀ y∈scope.names,y.2=.free->y.1∈fr
 frf:∀ y∈fr,scope.names.lookup y=Ga .free
 nd:(x::fr).Nodup
structure tz (K:ja)(F:Hp)(fr:List Str)(ds:List D)(cl:List (Str×Gj))(cs:List Gj):Prop where
 look:∀ (j:Nat) (y:Str) (d:D),fr[j]?=Ga y->ds[j]?=Ga d->∃ c o u v,cl.lookup y=Ga c/\c∈cs/\F c=Ga (.frz o (.own c))/\o.data=.cell (Ga u)/\eL v u/\eU K F d v
 all:∀ y c,cl.lookup y=Ga c->c∈cs
 has:∀ y∈fr,∃ c,cl.lookup y=Ga c
 cells:iq F cs
 inj:∀ x y c,cl.lookup x=Ga c->cl.lookup y=Ga c->x=y
 len:ds.length=fr.length
 only:∀ c∈cs,∃ y,cl.lookup y=Ga c
def iq.mono(s:dA F F')(m:iq F cs):iq F' cs:=λc h=>by
 have⟨o,v,h1,h2⟩:=m c h;exact⟨o,v,s _ _ h1,h2⟩
def tz.mono {K:ja}{F F':Hp}{fr:List Str}{ds:List D}{cl:List (Str×Gj)}{cs:List Gj}(s:dA F F')(x:tz K F fr ds cl cs):tz K F' fr ds cl cs :=
 ⟨λj y d h1 h2=>by
  have⟨c,o,u,v,e1,e2,e3,e4,e5,e6⟩:=x.look j y d h1 h2;exact⟨c,o,u,v,e1,e2,s _ _ e3,e4,e5,e6.mono s⟩,x.all,x.has,x.cells.mono s,x.inj,x.len,x.only⟩
def mM (f:Gj)(o:Obj):Heap->Prop:=λh=>h.get? f=Ga o
def Fc (K:ja)(params:Arguments)(body:Expr)(scope:Scope)(fr:List Str)(ds:List D):dZ where
 C:=λf F H=>∃ name qual cl pm c ctv cs o vs,∃ v:Str×Tok,F f=Ga (.ext (mM f (vq name qual params body scope cl pm c ctv)))/\H c=Ga (.frz o (.own c))/\o.data=.fields vs/\vs[1]?=Ga (.str v.1 v.2)/\tz K F fr ds cl cs
 mono:=λf F F' H H' s z ⟨name,qual,cl,pm,c,ctv,cs,o,vs,v,h1,h2,h3,h4,h5⟩=>⟨name,qual,cl,pm,c,ctv,cs,o,vs,v,s _ _ h1,z _ _ h2,h3,h4,h5.mono s⟩
def tm (P:Program)(w:World)(K:ja)(mg:Str->Option Gg)(base:Heap)(N:List Str)(qual:Str)(scope:Scope)(f:Gj)(cd:Gg)(cl:List (Str×Gj))(A:Around)(outer:List Env)(s:Gh)(H:Hp):Cx where
 prog:=P
 w:=w
 K:=K
 mg:=mg
 base:=base
 A:=A.deeper (uW qual scope s.heap.objs.size f cd cl)
 N:=N
 s₀:=s
 H₀:=H
 env:=uW qual scope s.heap.objs.size f cd cl
 outer:=outer
 stack:=uW qual scope s.heap.objs.size f cd cl::outer
 ex:=[]
 fn:=λ_=>false
 calm:=true
 pn:=[]
 xe:=λ_ _=>False
variable {f:Gj}{Q:Unit->Gh->Prop}
def ZE (S:sZ x fr scope)(hd:A.handled=Gb)(e0:mm P w K mg base A outer s H)(g:dA F H)(cP:tz K F fr ds cl cs)(ru:eL v u){vs:List V}(hvs:vs.length=ds.length)
  (hv:∀ (j:Nat) (y:Str) (v:V),fr[j]?=Ga y->vs[j]?=Ga v->∃ c o u,cl.lookup y=Ga c/\F c=Ga (.frz o (.own c))/\o.data=.cell (Ga u)/\eL v u)
 {tk:Nat} (hns:h1.Ns s.heap.objs.size (λy=>[(x,u)].reverse.lookup y)) (hk:∀ b o,s.heap.get? b=Ga o->h1.get? b=Ga o) :
  dE (tm P w K mg base (x::fr) q scope f cd cl A outer s (T3.butC H cs)) [] (Ga v::vs.map Ga) (T3.butC H cs) { s with heap:=h1,toks:=tk }:=by
 have mH:iq H cs:=cP.cells.mono g;have noA:∀ b:Gj,b∉(tm P w K mg base (x::fr) q scope f cd cl A outer s (T3.butC H cs)).ex:=λb z=>absurd (show b∈([]:List Gj) from z) (by simp);have cell:∀ y c,cl.lookup y=Ga c->∃ v,h1.IsCell c v:=λy c e=>by
  have⟨o,v,h2,h3⟩:=mH c (cP.all y c e);exact⟨v,o,hk _ _ (e0.hok c _ h2).1,h3⟩
 refine⟨⟨e0.mod,S.kind,rfl,rfl,jw _,λy z c h1 h2=>cP.inj y z c h1 h2,λy hy=>?_,λy c hf _=>(by cases hf),λ_=>hd,qW e0.frames,.inr ⟨rfl,rfl⟩,λb z=>absurd z (noA b),λb o e=>?_,e0.bsz,λb _ _=>noA b,λb z=>absurd z (noA b),e0.funs,λb hb=>?_⟩,
  rfl,e0.bare,Un.kept hk,⟨_,hns,λi y v' e1 e2 e3=>?_⟩,λy c h=>cell y c h,?_,λy c h=>?_,λp hp=>absurd (show p∈([]:List (Gj×Obj)) from hp) (by simp),L2.HOk.kept (T3.HOk.butC mH e0.hok) hk,?_⟩
 .have hy:scope.names.lookup y=Ga .cell\/scope.names.lookup y=Ga .free:=hy;rcases hy with hy|hy
  .exact absurd rfl (S.nocell _ (kO hy))
  .exact cP.has y (S.free _ (kO hy) rfl)
 .obtain⟨h2,h3⟩:=e0.bs b o e;exact⟨h2,by
   show T3.butC H cs b=Gb;by_cases hb:b∈cs
   .exact AR hb
   .rwa[lB hb]⟩
 .show T3.butC H cs b=Gb;by_cases hc:b∈cs
  .exact AR hc
  .rw[lB hc];exact e0.frf b hb
 .cases i with
  | zero =>
   have e1:Ga x=Ga y:=e1;cases e1;have e2:Ga (Ga v)=Ga (Ga v'):=e2;cases e2;refine⟨u,ru,.inl ⟨S.par,?_⟩⟩;simp
  | succ j =>
   have e1:(x::fr)[j+1]?=Ga y:=e1;have e1:fr[j]?=Ga y:=by rw[uo] at e1;exact e1
   have e2:(Ga v::vs.map Ga)[j+1]?=Ga (Ga v'):=e2;rw[uo] at e2;rw[jE] at e2;cases z:vs[j]? with
   | none=>rw[z] at e2;cases e2
   | some v2 =>
    rw[z] at e2;cases e2;have⟨c,o,u2,h2,h3,h4,h5⟩:=hv j y _ e1 z;refine⟨u2,h5,.inr ⟨.inr (S.frf y (jW e1)),c,h2,o,hk _ _ (e0.hok c _ (g _ _ h3)).1,h4⟩⟩
 .have n:=e0.hok.fresh (jw s.heap.objs.size);show T3.butC H cs s.heap.objs.size=Gb;by_cases hc:s.heap.objs.size∈cs
  .exact AR hc
  .rwa[lB hc]
 .exact AR (cP.all y c h)
 .show(Ga v::vs.map Ga).length=(x::fr).length;rw[jr,jk,jr,hvs,cP.len]
theorem Pr {K:ja}{F:Hp}{cl:List (Str×Gj)}{cs:List Gj}:∀ {fr:List Str} {ds:List D},ds.length=fr.length->(∀ (j:Nat) (y:Str) (d:D),fr[j]?=Ga y->ds[j]?=Ga d->∃ c o u v,cl.lookup y=Ga c/\c∈cs/\F c=Ga (.frz o (.own c))/\o.data=.cell (Ga u)/\eL v u/\eU K F d v) ->
  ∃ vs:List V,vs.length=ds.length/\dM K F ds vs/\∀ (j:Nat) (y:Str) (v:V),fr[j]?=Ga y->vs[j]?=Ga v->∃ c o u,cl.lookup y=Ga c/\F c=Ga (.frz o (.own c))/\o.data=.cell (Ga u)/\eL v u
 | [],[],_,_=>⟨[],rfl,.nil,λj y v h _=>by simp at h⟩
 | [],_::_,h,_=>by simp at h
 | _::_,[],h,_=>by simp at h
 | y::fr,d::ds,h,hl=>by
  obtain⟨vs,h1,h2,h3⟩:=Pr (fr:=fr) (ds:=ds) (by simpa using h) λj y d e1 e2=>hl (j+1) y d (by simpa using e1) (by simpa using e2);have⟨c,o,u,v,e1,e2,e3,e4,e5,e6⟩:=hl 0 y d rfl rfl;refine⟨v::vs,by simpa using h1,.cons e6 h2,λj z v' q1 q2=>?_⟩;cases j with
  | zero =>
   have q1:Ga y=Ga z:=q1;have q2:Ga v=Ga v':=q2;cases q1;cases q2;exact⟨c,o,u,e1,e3,e4,e5⟩
  | succ j=>exact h3 j z v' (by simpa using q1) (by simpa using q2)
def RS.vals(g:dA F H):∀ {ds:List D} {vs:List V},dM K F ds vs->RS K H F H (ds.map Sl.val) (vs.map Ga):=λ{ds vs} r=>by
 refine⟨.refl _,g,λi s e=>?_,λi j a s t o1 o2 e1=>?_⟩
 .rw[jE] at e;cases z:ds[i]? with
  | none=>rw[z] at e;cases e
  | some d =>
   rw[z] at e;cases e;have⟨v,h1,h2⟩:=r.get z;exact⟨Ga v,by rw[jE,h1];rfl,v,rfl,h2⟩
 .rw[jE] at e1;cases z:ds[i]? with
  | none=>rw[z] at e1;cases e1
  | some d=>rw[z] at e1;cases e1;cases o1
def zC0(g:fA (butC F cs) l):fA F l:=g.sub λc o h=>(IM h).2
def dA.butC2(m:iq H cs)(s:dA F H):dA (T3.butC F cs) (T3.butC H cs):=λb o h=>by
 have⟨hb,h⟩:=IM h;rw[lB hb];exact((s b o h).from λ_ z=>zC0 z).to λ_ z=>PN m z
def zC1(S:sZ x fr scope)
  (hbind:∀ (name qual:Str) (cl:List (Str×Gj)) (pm:Gg) (c:Gj) (ctv u:Gg),bindArgs (vI name qual params body scope cl pm (.ref c) ctv) ⟨[u],[]⟩=pure [(x,u)])
  (hb:∀ (qual:Str) (f:Gj) (cd:Gg) (cl:List (Str×Gj)) (A:Around) (outer:List Env) (s:Gh) (H:Hp),eP k (A.deeper (uW qual scope s.heap.objs.size f cd cl))->PV (tm P w K mg base (x::fr) qual scope f cd cl A outer s H) body fb)
  (hC:(Fc K params body scope fr ds).C f F H) {r:D} {Q:VK} (hr:eP (k+1) A) (e0:mm P w K mg base A outer s H) (g:dA F H) (ru:eL v u) (rv:eU K F d v) (e:fb (.val d::ds.map .val)=Ga r)
  (hq:∀ v' H' F',dA H H'->dA F F'->dA F' H'->eN F F' H->eU K F' r v'->Q v' H') :
  codeAny (model P w) A (.call (.ref f) ⟨[u],[]⟩) (CR dS outer P w H s Q E0) s:=by
 obtain⟨name,qual,cl,pm,c,ctv,cs,o,vs0,qt,hf,hc,hod,hv1,cP⟩:=hC;have of_:s.heap.get? f=Ga (vq name qual params body scope cl pm c ctv):=(e0.hok f _ (g _ _ hf)).1;have oc:s.heap.get? c=Ga o:=(e0.hok c _ hc).1;have lim:s.heap.NoLimit:=e0.mod.nolimit.keeps λb o e=>(e0.bs b o e).1;have mF:=cP.cells;have mH:iq H cs:=cP.cells.mono g;have nfr:∀ c∈cs,c∉gE outer:=λc hc hz=>by
  have⟨o',v',h1,_⟩:=mH c hc;rw[e0.frf c hz] at h1;cases h1
 refine codeAny_of_tree ?_;show wpAny _ A.in1 (callAny (.ref f) _) _ _ s;simp only[callAny];refine dv (wpAny_load of_ ?_);simp only[callFunction,S.co,S.gen];refine dv (m:=field (.ref c) 1) (wpAny_field oc hod hv1 (dv (dw ?_)));rw[hbind];refine dv (dw ?_);refine dv (wpAny_newFunctionEnv S.nocell (by intro y hy;rw[jD.mp hy];exact S.par) (λh1 hns hsb=>?_) S.kind);have hk:∀ b o,s.heap.get? b=Ga o->h1.get? b=Ga o:=λb o e=>hsb.extBut b o (jB (jg e)) (jb _ e);refine dv (wpAny_enterFrame (lim.keeps hk) hr.depth (dw (And.intro rfl ?_)));show codeAny _ _ (.expr body (uW qt.1 scope s.heap.objs.size f (.ref c) cl)) _ _;have⟨vs,hvs,rvs,hv⟩:=Pr cP.len cP.look;have I:=ZE (q:=qt.1) (f:=f) (cd:=.ref c) S hr.hd e0 g cP ru hvs hv (tk:=s.toks+1) hns hk;refine PySem.W.kla_codeExpr (wpAny_mono (hb qt.1 f (.ref c) cl A outer s (T3.butC H cs) (hr.deeper _) [] _ _ _ (λv' H'=>(∀ c∈cs,H' c=Gb)->Q v' (T3.putC H H' cs)) I ?_) (λu' s' h=>?_) λe' s' h=>h.elim)
 .refine⟨T3.butC H cs,T3.butC F cs,.val d::ds.map .val,r,RS.vals (g.butC2 mH) (ds:=d::ds) (vs:=v::vs) (.cons (rv.butC mF) (rvs.butC mF)),e,λv' H' F' g1 f1 fh1 n1 rv' n=>?_⟩;have nF:∀ c∈cs,F' c=Gb:=λc hc=>fh1.free (n c hc);refine hq v' _ (T3.putC F F' cs) (g1.withC mH n) (f1.withC mF nF) (fh1.withC2 mF (λc hc=>?_) nF n) (λb o h nb=>?_) (rv'.mono (dA.of (Ek nF)))
  .obtain⟨o',v2,h2,_⟩:=mF c hc;rw[h2];exact(g _ _ h2).symm
  .have hb:b∉cs:=λz=>by have⟨o',v2,h2,_⟩:=mF b z;rw[nb] at h2;cases h2
   rw[tZ hb] at h;have:=n1 b o h (by rwa[lB hb]);rw[lB hb] at this;exact this
 .obtain⟨v',H',J,rel,qb⟩:=h;have n:∀ c∈cs,H' c=Gb:=λc hc=>by
   have⟨y,hy⟩:=cP.only c hc;exact J.freeC y c hy
  have J':Un (gE outer) [] (T3.butC H cs) H' s.heap s'.heap:=J.base;exact⟨v',T3.putC H H' cs,J.os,J.bare,T3.Un.putC mH J' n,T3.HOk.putC (h:=s.heap) mH J.hok n (λc hc o v h1 h2=>J'.keep c o (e0.hok c _ h1).1 (AR hc) (nfr c hc) (by simp)),rel,qb n⟩
structure mC (P:Program)(w:World)(K:ja)(mg:Str->Option Gg)(base:Heap)(k:Nat)(c:dZ)(φ:D->Option D):Prop where
 obj:∀ f F H h,c.C f F H->dA F H->HOk P w H h->∃ o fd,h.get? f=Ga o/\o.data=.func fd
 run:∀ (f:Gj) (F H:Hp) (A:Around) (outer:List Env) (s:Gh) (u:Gg) (v:V) (d r:D) (Q:VK),c.C f F H->eP k A->mm P w K mg base A outer s H->dA F H->eL v u->eU K F d v->φ d=Ga r ->
  (∀ v' H' F',dA H H'->dA F F'->dA F' H'->eN F F' H->eU K F' r v'->Q v' H')->codeAny (model P w) A (.call (.ref f) ⟨[u],[]⟩) (CR dS outer P w H s Q E0) s
def zwJ(S:sZ x fr scope)
  (hbind:∀ (name qual:Str) (cl:List (Str×Gj)) (pm:Gg) (c:Gj) (ctv u:Gg),bindArgs (vI name qual params body scope cl pm (.ref c) ctv) ⟨[u],[]⟩=pure [(x,u)])
  (hb:∀ (qual:Str) (f:Gj) (cd:Gg) (cl:List (Str×Gj)) (A:Around) (outer:List Env) (s:Gh) (H:Hp),eP k (A.deeper (uW qual scope s.heap.objs.size f cd cl))->PV (tm P w K mg base (x::fr) qual scope f cd cl A outer s H) body fb) :
  mC P w K mg base (k+1) (Fc K params body scope fr ds) λd=>fb (.val d::ds.map .val) where
 obj:=λf F H h ⟨name,qual,cl,pm,c,ctv,cs,o,vs,qt,hf,_⟩ g hok=>⟨_,_,(hok f _ (g _ _ hf)).1,rfl⟩
 run:=λf F H A outer s u v d r Q hC hr e0 g ru rv e hq=>zC1 S hbind hb hC hr e0 g ru rv e hq
open Classical in
noncomputable def mS (i:Nat)(c:dZ)(φ:D->Option D)(f:FV):FV:=λψ=>if ψ[i]?=Ga (.fn c) then(f ψ).bind φ else Gb
def zC2 (i:Nat){ex:Expr}{f:FV}(hC:mC X.prog X.w X.K X.mg X.base k c φ)(hr:eP k X.A)(ha:PV X ex f)(hN:X.N[i]?=Ga y:=by rfl)(hv:lK X.env.scope y:=by ac_rfl)
  (hd:Nd y:=by decide) (hcd:(y==("__classdict__":Str))=false:=by decide) (hs:Sb X ex:=by rfl):PV X (.Call (.Name y p) [ex] [] pos) (mS i c φ f):=by
 intro ω s σ H Q I h;obtain⟨H0,F,ψ,d,r,e,q⟩:=h;unfold mS at e;split at e;rotate_left
 .cases e
 rename_i hi;have⟨d1,e1,e2⟩:=dz e;have⟨u,e3,g,e4,hg⟩:=r.sl i _ hi;subst e4;refine wpAny_Call_Name_kw (eV (gz (pos:=p) hN hv hd hcd ω s σ H (λv H1=>v=.ref g/\H1=H) I ⟨.ref g,e3,rfl,rfl⟩) λu1 s1 ⟨v1,H1,I1,rel,z1,z2⟩=>?_);subst z1;subst z2;obtain rfl:u1=jH g:=rel;refine PySem.W.callWith_of (P:=λh=>∃ o fd,h.get? g=Ga o/\o.data=.func fd) (by rw[hs];rfl) (λh ⟨o,fd,h1,h2⟩=>⟨.frame,.inl rfl,?_⟩) ?_
 .obtain⟨cl0,dc0,dt0,sl0⟩:=o;have h2:dt0=.func fd:=h2;subst h2;exact(PySem.W.Looks.ld (part:=Gb) h1).andThen .now
 .have hp:PA X [ex] (Gz (tV X.K f) Fd):=eY ha fY hs;rw[hs];refine uC ?_;have hw:=hp pos ω s1 σ H1 (λvs H2=>∃ v F2,vs=[v]/\dA H1 H2/\dA F F2/\dA F2 H2/\eN F F2 H1/\eU X.K F2 d1 v) I1 ⟨H0,F,ψ,d1,r,e1,λv H2 F2 g2 f2 fh2 n2 rv=>⟨v,F2,rfl,g2,f2,fh2,n2,rv⟩⟩;rw[hs] at hw;refine eV hw λus s2 ⟨vs,H2,I2,rvs,v,F2,z,g2,f2,fh2,n2,rv⟩=>?_;subst z;cases rvs with
  | cons ru rn =>
   cases rn;have hg2:=c.mono g F F2 H1 H2 f2 g2.fz hg;refine⟨hC.obj g F2 H2 _ hg2 fh2 I2.hok,?_⟩;refine wpAny_call (codeAny_mono (hC.run g F2 H2 X.A X.stack s2 _ v d1 d Q hg2 hr I2.env0 fh2 ru rv e2 λv' H' F' g3 f3 fh3 n3 rv3=>q v' H' F' (g2.trans g3) (f2.trans f3) fh3 (n2.trans n3 g2) rv3) λr s' hq=>?_);cases r with
   | error e=>exact hq.elim
   | ok fl =>
    cases fl with
    | ret u=>exact I2.after hq
    | next=>exact False.elim hq
    | brk=>exact False.elim hq
    | cont=>exact False.elim hq
def yR (K:ja)(p:Nat)(c:dZ)(fm:List D->Option D):Sp:=λvs H Q _=>∃ (F:Hp) (g:Gj) (us:List V) (ds:List D) (d:D),vs=us.take p++.ref g::us.drop p/\c.C g F H/\dA F H/\dM K F ds us/\fm ds=Ga d /\
 ∀ v H' F',dA H H'->dA F F'->dA F' H'->eN F F' H->eU K F' d v->Q v H'
def startP (c:dZ):Nat->Nat->List D->En
 | 0,n,ds=>.fn c::iQ (n-1) ds
 | p+1,n,d::ds=>.val d::startP c p (n-1) ds
 | _+1,_,[]=>[]
abbrev startF (n:Nat)(c:dZ)(ds:List D):En:=startP c 0 n ds
def xu (p np n:Nat)(c:dZ)(g:FS)(ds:List D):Option D:=if ds.length+1=np then eZ (g (startP c p n ds)) else Gb
variable {u:Option V}{p:Nat}
def RS.cons(r:RS K H0 F H ψ σ){s:Sl}(q:lL K H0 F H s u)(o:ic s=false):RS K H0 F H (s::ψ) (u::σ):=by
 refine⟨r.h0,r.fh,λi t e=>?_,λi j a t1 t2 o1 o2 e1 e2 e3 e4=>?_⟩
 .cases i with
  | zero=>cases e;exact⟨u,rfl,q⟩
  | succ i=>exact r.sl i t e
 .cases i with
  | zero=>cases e1;rw[o] at o1;cases o1
  | succ i =>
   cases j with
   | zero=>cases e2;rw[o] at o2;cases o2
   | succ j=>rw[r.ap i j a t1 t2 o1 o2 e1 e2 e3 e4]
def QW{us:List V}:L2.start N (v::us)=Ga v::L2.start N.tail us:=by
 unfold L2.start;rw[kh,kM,jr,qE]
 congr 3
 omega
def RS.startP {K:ja}{F H:Hp}{c:dZ}{g:Gj}(h:dA F H)(q:c.C g F H):∀ (p:Nat) {N:List Str} {ds:List D} {us:List V},dM K F ds us->p<=ds.length->RS K H F H (T3.startP c p N.length ds) (L2.start N (us.take p++.ref g::us.drop p))
 | 0,N,ds,us,r,_=>by
  show RS K H F H (.fn c::iQ (N.length-1) ds) (L2.start N (.ref g::us));rw[QW,show N.length-1=N.tail.length by rw[qE]];exact(RS.start (N:=N.tail) h r).cons ⟨g,rfl,q⟩ rfl
 | p+1,N,_,_,.cons (d:=d) (v:=v) hd t,hp=>by
  show RS K H F H (.val d::T3.startP c p (N.length-1) _) (L2.start N (v::_));rw[QW,show N.length-1=N.tail.length by rw[qE]];exact(RS.startP h q p (N:=N.tail) t (Nat.le_of_succ_le_succ hp)).cons ⟨v,rfl,hd⟩ rfl
def RS.startF {K:ja}{F H:Hp}{N:List Str}{c:dZ}{ds:List D}{g:Gj}{us:List V}(h:dA F H)(r:dM K F ds us)(q:c.C g F H):RS K H F H (T3.startF N.length c ds) (L2.start N (.ref g::us)):=RS.startP h q 0 r (ku _)
def zC3(p:Nat)(x:α)(us:List α):(us.take p++x::us.drop p).length=us.length+1:=by
 rw[jA,jr,<- vV,<- jA,List.take_append_drop]
def Iu (F:le K x qual st f fd)(S:dD N ps (defScope st))(hp:p<ps.length)
  (hb:He dS P w K mg base N qual st f k λX _=>fT X.nox (defBody st) g) :
  dJ P w K mg base dS (k+1) f fd ps (yR K p c (xu p ps.length N.length c g)):=by
 have hr0:∀ {ds:List D} {d:D},xu p ps.length N.length c g ds=Ga d->ds.length+1=ps.length/\(g (startP c p N.length ds)=Ga (.rt d)\/∃ xs,d=.list xs/\g (startP c p N.length ds)=Ga (.ro xs)):=λ{ds d} h=>by
  unfold xu at h;split at h
  .rename_i z;refine⟨z,?_⟩;unfold eZ at h;split at h
   .rename_i e;cases h;exact .inl e
   .rename_i e;cases h;exact .inr ⟨_,rfl,e⟩
   .cases h
  .cases h
 refine F.ok S (λvs H Q E h=>?_) (λcdv A outer s H vs Q E hr h=>?_)
 .obtain⟨F0,g0,us,ds,d,rfl,_,_,r,e,_⟩:=h;rw[zC3,<- r.length];exact(hr0 e).1
 .obtain⟨F0,g0,us,ds,d,rfl,hC,hs,r,e,q⟩:=h;have hp2:p<=ds.length:=by have:=(hr0 e).1;omega
  rcases(hr0 e).2 with z|⟨xs,rfl,z⟩
  .exact⟨_,hb hr,H,F0,_,_,RS.startP hs hC p r hp2,z,λv H' F' g1 f1 fh1 n1 rv=>q v H' F' g1 f1 fh1 n1 rv⟩
  .refine⟨_,hb hr,H,F0,_,_,RS.startP hs hC p r hp2,z,λa ys H' F' g1 f1 fh1 n1 ha fa ha' rr=>?_⟩;have sF:dA F' (upd F' a (.lst ys)):=dA.new fa;refine q (.ref a) H' (upd F' a (.lst ys)) g1 (f1.trans sF) (dA.upL fh1 ha' trivial) (λb o h nb=>?_) (.lst (fQ.of dH) (rr.mono sF));by_cases hb:b=a
   .subst hb;exact ha
   .rw[dG hb] at h;exact n1 b o h nb
open Classical in
noncomputable def mD (i:Nat)(c:dZ)(fm:List D->Option D)(g:FL):FV:=λψ=>if ψ[i]?=Ga (.fn c) then(g ψ).bind fm else Gb
variable {g:FL}{p:Pos}{v:Gg}
def Ps (i:Nat)(F:Fq X dS k f fd ps (yR X.K 0 c fm))(hr:eP k X.A)(hm:X.mg x=Ga (.ref f))(hk:jR X.K (.ref f)=true)(hb:fS X.K fd ps [])(ha:PL X es g)(hg:Gl X x:=by rfl)
  (hN:X.N[i]?=Ga y:=by rfl) (hv:lK X.env.scope y:=by ac_rfl) (hd:Nd y:=by decide) (hcd:(y==("__classdict__":Str))=false:=by decide)
  (hdb:Nd x:=by decide) (he:starEach (.Name y py::es) X.env=(false,eval (.Name y py) X.env)::starEach es X.env:=by rfl) (hpl:Sc X pos es:=by rfl) :
  PV X (.Call (.Name x p) (.Name y py::es) [] pos) (mD i c fm g):=by
 refine fG (iV F hr hg hm hk hb .nil iC (eY (gz (pos:=py) hN hv hd hcd) ha.pa he) hdb he hpl) λσ H Q=>?_;rintro⟨H0,F,ψ,d,r,e,q⟩;unfold mD at e;split at e;rotate_left
 .cases e
 rename_i hi;have⟨ds,e1,e2⟩:=dz e;have⟨u,e3,h,e4,hh⟩:=r.sl i _ hi;subst e4;refine⟨.ref h,e3,H0,F,ψ,ds,r,e1,λvs H1 F1 g1 f1 fh1 n1 rv=>⟨F1,h,vs,ds,d,by rw[jJ];rfl,c.mono _ _ _ _ _ f1 g1.fz hh,fh1,rv,e2,λv H2 F2 g2 f2 fh2 n2 rv2=>?_⟩⟩;exact q v H2 F2 (g1.trans g2) (f1.trans f2) fh2 (n1.trans n2 g1) rv2
def gJ (P:Program)(w:World)(K:ja)(mg:Str->Option Gg)(base:Heap)(k:Nat)(φ:D->Option D):dZ where
 C:=λf F H=>∀ F' H',dA F F'->Fz H H'->dA F' H'->(∀ h,HOk P w H' h->∃ o fd,h.get? f=Ga o/\o.data=.func fd) /\
  ∀ (A:Around) (outer:List Env) (s:Gh) (u:Gg) (v:V) (d r:D) (Q:VK),eP k A->mm P w K mg base A outer s H'->eL v u->eU K F' d v->φ d=Ga r ->
   (∀ v' H2 F2,dA H' H2->dA F' F2->dA F2 H2->eN F' F2 H'->eU K F2 r v'->Q v' H2)->codeAny (model P w) A (.call (.ref f) ⟨[u],[]⟩) (CR dS outer P w H' s Q E0) s
 mono:=λf F F' H H' s z h F2 H2 s2 z2=>h F2 H2 (s.trans s2) λb x q=>z2 b x (z b x q)
def Sw (P:Program)(w:World)(K:ja)(mg:Str->Option Gg)(base:Heap)(k:Nat)(φ:D->Option D):mC P w K mg base k (gJ P w K mg base k φ) φ where
 obj:=λf F H h hC g hok=>(hC F H (.refl _) (λ_ _ q=>q) g).1 h hok
 run:=λf F H A outer s u v d r Q hC hr e0 g ru rv e hq=>(hC F H (.refl _) (λ_ _ q=>q) g).2 A outer s u v d r Q hr e0 ru rv e hq
def zA0(x:mC P w K mg base k c φ)(h:c.C f F H):(gJ P w K mg base k φ).C f F H:=λF' H' s z g =>
 have h':=c.mono f F F' H H' s z h
 ⟨λhp hok=>x.obj f F' H' hp h' g hok,λA outer st u v d r Q hr e0 ru rv e hq=>x.run f F' H' A outer st u v d r Q h' hr e0 g ru rv e hq⟩
structure zC (X:Cx)(c0 P:Gj):Prop where
 code:X.env.code=.ref c0
 hd:∀ h,X.K.In h->PySem.W.CodeHd h c0 P
 bm:∃ bm o,X.mg "__builtins__"=Ga (.ref bm)/\bm≠builtinsNs/\bm≠mainGlobals/\X.K.lookup bm=Ga o/\o.cls=.type "module"/\o.dict=Ga builtinsNs/\o.data=.plain
structure AB (params:Arguments)(body:Expr)(scope:Scope)(cl:List (Str×Gj))(H:Hp)(f:Gj)(H':Hp):Prop where
 same:dA H H'
 new:H f=Gb
 ex:∃ name qual pm c ctv o vs,∃ v:Str×Tok,H' f=Ga (.ext (mM f (vq name qual params body scope cl pm c ctv)))/\H' c=Ga (.frz o (.own c))/\o.data=.fields vs/\vs[1]?=Ga (.str v.1 v.2)
def Xp (ψ:Env)(fr:List Str)(params:Arguments)(body:Expr)(scope:Scope)(P:Gj):TE:=λ_ H Q=>∃ ps,H P=Ga (.tbl ps)/\fA H ps.toList /\
 ∀ f cl H',AB params body scope cl H f H'->(∀ y a,cl.lookup y=Ga a->ψ.cells.lookup y=Ga a)->(∀ y∈fr,∃ a,cl.lookup y=Ga a)->Q (.ref f) H'
def zrA{m:List Gg}(t:TriplesOk l):codeAmong pos (l++m)=(codeAmong pos l).or (codeAmong pos m):=by
 fun_induction TriplesOk l with
 | case1=>simp[codeAmong]
 | case2 a b c d e rest ih =>
  simp only[kM,codeAmong];split
  .rfl
  .exact ih t
 | case3=>cases t
def XU {m:List Gg}(t:TriplesOk l)(u:TriplesOk m):TriplesOk (l++m):=by
 fun_induction TriplesOk l with
 | case1=>exact u
 | case2 a b c d e rest ih=>exact ih t
 | case3=>cases t
def dA.tbl {H:Hp}{P:Gj}{ps qs:Array Gg}(hP:H P=Ga (.tbl ps))(g:fA H ps.toList->fA (upd H P (.tbl qs)) qs.toList):dA H (upd H P (.tbl qs)):=λb o h=>by
 by_cases hb:b=P
 .subst hb;rw[hP] at h;cases h;rw[dH];exact⟨qs,rfl,g⟩
 .rw[dG hb];exact .of h λl z=>z.updG λx u q=>by rw[hP] at q;cases q
variable {P y:Gj}{g:FS}{c:Str}
def Yw{c:Gj}{ps:Array Gg}{o:Obj}{v:Str×Tok}(hP:H P=Ga (.tbl ps))(hc:H c=Ga (.frz o (.own c)))(h1:o.data=.fields vs)(h2:vs[1]?=Ga (.str v.1 v.2))(g:fA H ps.toList) :
  fA (upd H P (.tbl (ps++#[rawInt pos.line,rawInt pos.col,.ref c]))) (ps++#[rawInt pos.line,rawInt pos.col,.ref c]).toList:=by
 have ne:c≠P:=λz=>by subst z;rw[hP] at hc;cases hc
 have e:(ps++#[rawInt pos.line,rawInt pos.col,jH c]).toList=ps.toList++[rawInt pos.line,rawInt pos.col,jH c]:=by simp
 rw[e];refine⟨XU g.1 trivial,λp cv hcv=>?_⟩;rw[zrA g.1] at hcv;cases z:codeAmong p ps.toList with
 | some cv' =>
  rw[z] at hcv;cases hcv;have⟨c2,o2,vs2,v2,e1,e2,e3⟩:=g.2 p _ z;exact⟨c2,o2,vs2,v2,e1,by rwa[dG (λq=>by subst q;rw[hP] at e2;cases e2)],e3⟩
 | none =>
  rw[z] at hcv;have hcv:codeAmong p [rawInt pos.line,rawInt pos.col,jH c]=Ga cv:=hcv;unfold rawInt codeAmong at hcv;split at hcv
  .cases hcv;exact⟨c,o,vs,v,rfl,by rwa[dG ne],h1,h2⟩
  .unfold codeAmong at hcv;cases hcv
def zEE (L:zC X c0 P)(outs:∀ y∈scope.names,y.2=.free->X.env.scope.names.lookup y.1=Ga .cell\/X.env.scope.names.lookup y.1=Ga .free)(hfr:∀ y∈fr,(y,jZ)∈scope.names)
  (hdef:defaultsOf params X.env=([],[]):=by rfl):PE X (.Lambda params body scope lpos) (Xp X.env fr params body scope P):=by
 intro ω s σ H Q I h;obtain⟨ps,hP,gt,q⟩:=h;refine PySem.W.kla_eval hdef ?_;obtain⟨cl,ecl,c1,c2,_⟩:=Fw (ψ:=X.env) scope.names [] (λy hy hf=>I.ok.has y.1 (outs y hy hf)) (λx c h=>by simp at h);have hcl:closureFor scope X.env=pure cl:=by rw[VT,ecl];rfl
 have hPo:s.heap.get? P=Ga (Ja ps):=I.hok P _ hP;have C:=L.hd _ I.kIn;have hg:=I.mod.glob.keeps I.bk;have nb:∀ b o,X.base.get? b=Ga o->b≠P:=λb o e z=>by subst z;rw[(I.bs b o e).2] at hP;cases hP
 have hgP:mainGlobals≠P:=by have⟨o,es,ep,e,_⟩:=I.mod.glob;exact nb _ o e
 have hbm:s.heap.BuiltinsAt X.mg P:=by
  have⟨bm,o,b1,b2,b3,b4,b5⟩:=L.bm;have b6:=I.mod.kin bm o b4;exact⟨bm,o,b1,b2,b3,nb bm o b6,I.bk bm o b6,b5⟩
 have lt:∀ b o,H b=Ga o->b<s.heap.objs.size:=λb o e=>I.hok.lt e;cases hc:codeAmong lpos ps.toList with
 | none =>
  refine PySem.W.kla_makeFunction hcl I.ok.glob hg L.code C hPo gt.1 hc hgP hbm (λc' ctv h' tk hx hge hlt hrec htb=>?_);obtain⟨c2',oc,vs,t,e2,hoc,hd,hv⟩:=hrec;cases e2;generalize hob:vq ("<lambda>":Str) (X.env.qual++"<lambda>") params body scope cl ((X.mg "__name__").getD .none) c' ctv=ob;have nP:∀ b,H b=Gb->b≠P:=λb e z=>by subst z;rw[hP] at e;cases e
  have ltc:∀ b,b<s.heap.objs.size->b≠c':=λb h=>jB (jf h hge);have ltf:∀ b,b<s.heap.objs.size->b≠h'.objs.size:=λb h=>jB (jf h (jX hge (uJ hlt)));have Pc:P≠c':=ltc P (lt P _ hP);have Pf:P≠h'.objs.size:=ltf P (lt P _ hP);have cf:c'≠h'.objs.size:=jB hlt;have nc:H c'=Gb:=I.hok.fresh hge;have nf:H h'.objs.size=Gb:=I.hok.fresh (jX hge (uJ hlt));have keep:∀ b o,b≠P->s.heap.get? b=Ga o->(h'.push ob).get? b=Ga o:=λb o ne e=>jb _ (hx b o ne e);have H1e:∀ b o,b≠P->H b=Ga o->(upd (upd (upd H c' (.frz oc (.own c'))) P (.tbl (ps++#[rawInt lpos.line,rawInt lpos.col,.ref c']))) h'.objs.size (.ext (mM h'.objs.size ob))) b=Ga o:=λb o ne e=>by
   have:=lt b o e;rwa[dG (ltf b this),dG ne,dG (ltc b this)]
  have sa:dA H (upd H c' (.frz oc (.own c'))):=dA.new nc;have hPa:(upd H c' (.frz oc (.own c'))) P=Ga (.tbl ps):=by rwa[dG Pc]
  have sb:dA (upd H c' (.frz oc (.own c'))) (upd (upd H c' (.frz oc (.own c'))) P (.tbl (ps++#[rawInt lpos.line,rawInt lpos.col,.ref c']))):=dA.tbl hPa λg=>Yw hPa dH hd (v:=(_,_)) hv g;have nfb:(upd (upd H c' (.frz oc (.own c'))) P (.tbl (ps++#[rawInt lpos.line,rawInt lpos.col,.ref c']))) h'.objs.size=Gb:=by rwa[dG (kW Pf),dG (kW cf)]
  have sc:dA _ (upd (upd (upd H c' (.frz oc (.own c'))) P (.tbl (ps++#[rawInt lpos.line,rawInt lpos.col,.ref c']))) h'.objs.size (.ext (mM h'.objs.size ob))):=dA.new nfb;have same:=sa.trans (sb.trans sc);have H1P:(upd (upd (upd H c' (.frz oc (.own c'))) P (.tbl (ps++#[rawInt lpos.line,rawInt lpos.col,.ref c']))) h'.objs.size (.ext (mM h'.objs.size ob))) P=Ga (.tbl (ps++#[rawInt lpos.line,rawInt lpos.col,.ref c'])):=by rw[dG Pf,dH]
  have H1c:(upd (upd (upd H c' (.frz oc (.own c'))) P (.tbl (ps++#[rawInt lpos.line,rawInt lpos.col,.ref c']))) h'.objs.size (.ext (mM h'.objs.size ob))) c'=Ga (.frz oc (.own c')):=by rw[dG cf,dG (kW Pc),dH]
  have H1f:(upd (upd (upd H c' (.frz oc (.own c'))) P (.tbl (ps++#[rawInt lpos.line,rawInt lpos.col,.ref c']))) h'.objs.size (.ext (mM h'.objs.size ob))) h'.objs.size=Ga (.ext (mM h'.objs.size ob)):=dH;have H1n:∀ b,b<s.heap.objs.size->H b=Gb->(upd (upd (upd H c' (.frz oc (.own c'))) P (.tbl (ps++#[rawInt lpos.line,rawInt lpos.col,.ref c']))) h'.objs.size (.ext (mM h'.objs.size ob))) b=Gb:=λb hb e=>by
   rwa[dG (ltf b hb),dG (nP b e),dG (ltc b hb)]
  have H1i:∀ b o,(upd (upd (upd H c' (.frz oc (.own c'))) P (.tbl (ps++#[rawInt lpos.line,rawInt lpos.col,.ref c']))) h'.objs.size (.ext (mM h'.objs.size ob))) b=Ga o->b=h'.objs.size\/b=P\/b=c'\/(b≠P/\H b=Ga o):=λb o e=>by
   by_cases z1:b=h'.objs.size
   .exact .inl z1
   .by_cases z2:b=P
    .exact .inr (.inl z2)
    .by_cases z3:b=c'
     .exact .inr (.inr (.inl z3))
     .rw[dG z1,dG z2,dG z3] at e;exact .inr (.inr (.inr ⟨z2,e⟩))
  generalize (upd (upd (upd H c' (.frz oc (.own c'))) P (.tbl (ps++#[rawInt lpos.line,rawInt lpos.col,.ref c']))) h'.objs.size (.ext (mM h'.objs.size ob)))=H1 at H1e same H1P H1c H1f H1n H1i;clear sb sc nfb hPa sa;have U:Un X.fs9 [] H H1 s.heap (h'.push ob):=by
   refine⟨λb o e n _ _=>keep b o (nP b n) e,λb o e n _ _=>⟨o.slots,keep b o (nP b n) e⟩,λb o e n _=>H1n b (jg e) n,λb o e _=>?_,λb xs e=>H1e b _ (λz=>by subst z;rw[hP] at e;cases e) e,λb o u e=>H1e b _ (λz=>by subst z;rw[hP] at e;cases e) e,λb qs e=>?_⟩
   .by_cases z:b=P
    .subst z;exact⟨_,jb _ htb⟩
    .exact⟨o,keep b o z e⟩
   .by_cases z:b=P
    .subst z;rw[hP] at e;cases e;exact⟨_,H1P⟩
    .exact⟨#[],by rw[H1e b _ z e];simp⟩
  have K1:HOk X.prog X.w H1 (h'.push ob):=λb o e=>by
   rcases H1i b o e with rfl|rfl|rfl|⟨z,e'⟩
   .rw[H1f] at e;cases e;have g:(h'.push ob).get? h'.objs.size=Ga ob:=by rw[<- hob];exact jm _ rfl
    exact⟨g,⟨_,g⟩,λh1 h2 p k=>k _ p⟩
   .rw[H1P] at e;cases e;exact jb _ htb
   .rw[H1c] at e;cases e;have g:=jb ob hoc;exact⟨g,_,g⟩
   .refine(I.hok b o e').stay (λc u hcu r=>keep c u ?_ r) (λc r=>H1e c _ (λw=>by subst w;rw[hP] at r;cases r) r) λc xs r=>H1e c _ (λw=>by subst w;rw[hP] at r;cases r) r;rcases hcu with rfl|w
    .exact z
    .intro w2;subst w2;rw[hP] at w;cases w
  refine⟨.ref h'.objs.size,H1,I.un (t':=tk) U K1,rfl,q h'.objs.size cl H1 ⟨same,nf,("<lambda>":Str),X.env.qual++"<lambda>",(X.mg "__name__").getD .none,c',ctv,oc,vs,(_,t),?_,H1c,hd,hv⟩ c1 λy hy=>c2 y (hfr y hy)⟩;rw[H1f,<- hob]
 | some cv =>
  obtain⟨c,o,vs,v,rfl,hcH,hod,hv⟩:=gt.2 lpos cv hc;refine PySem.W.kla_makeFunctionHit hcl I.ok.glob hg L.code C hPo gt.1 hc hbm (λctv h' tk hk hsz=>?_);generalize hob:({ cls:=.type "function",data:=.func (vI ("<lambda>":Str) (X.env.qual++"<lambda>") params body scope cl ((X.mg "__name__").getD .none) (.ref c) ctv) }:Obj)=ob;have nf:H h'.objs.size=Gb:=I.hok.fresh hsz;have keep:∀ b o,s.heap.get? b=Ga o->(h'.push ob).get? b=Ga o:=λb o e=>jb _ (hk b o e);have g:(h'.push ob).get? h'.objs.size=Ga ob:=by rw[<- hob];exact jm _ rfl
  have I':dE X ω σ (upd H h'.objs.size (.ext (mM h'.objs.size ob))) { s with heap:=h'.push ob,toks:=tk }:=I.laid keep hsz ⟨g,⟨_,g⟩,λh1 h2 p k=>k _ p⟩;refine⟨.ref h'.objs.size,_,I',rfl,q h'.objs.size cl _ ⟨dA.new nf,nf,("<lambda>":Str),X.env.qual++"<lambda>",(X.mg "__name__").getD .none,c,ctv,o,vs,v,?_,?_,hod,hv⟩ c1 λy hy=>c2 y (hfr y hy)⟩
  .rw[dH,<- hob]
  .rwa[dG (λz=>by rw[z] at hcH;rw[nf] at hcH;cases hcH)]
def iZ (h:Heap)(H:Hp)(cs:List Gj):Hp:=λb=>if b∈cs then(h.get? b).map (λo=>HO.frz o (.own b)) else H b
def DH(hb:b∈cs):iZ h H cs b=(h.get? b).map (λo=>HO.frz o (.own b)):=Ge hb
def Aw(hb:b∉cs):iZ h H cs b=H b:=Gf hb
def yO (n:∀ c∈cs,H c=Gb):∀ c o,H c=Ga o->iZ h H cs c=Ga o:=λc o e=>by
 rwa[Aw λz=>by rw[n c z] at e;cases e]
def zwK (hc:∀ c∈cs,∃ o v,h.get? c=Ga o/\o.data=.cell v):iq (iZ h H cs) cs:=λc z=>by
 have⟨o,v,e1,e2⟩:=hc c z;exact⟨o,v,by rw[DH z,e1];rfl,e2⟩
variable {P:Program}
def zA1 (hc:∀ c∈cs,∃ o v,h.get? c=Ga o/\o.data=.cell v)(n:∀ c∈cs,H c=Gb)(x:HOk P w H h):HOk P w (iZ h H cs) h:=λa o e=>by
 by_cases ha:a∈cs
 .obtain⟨o1,v,e1,e2⟩:=hc a ha;rw[DH ha,e1] at e;cases e;exact⟨e1,_,e1⟩
 .rw[Aw ha] at e;exact(x a o e).stay (λ_ _ _ q=>q) (λb q=>yO n b _ q) λb xs q=>yO n b _ q
def zC4 (hc:∀ c∈cs,∃ o v,h.get? c=Ga o/\o.data=.cell v)(g:fA (iZ h H cs) l):fA H l :=
 ⟨g.1,λpos cv e=>by
  have⟨c,x,vs,v,e1,e2,e3,e4⟩:=g.2 pos cv e;refine⟨c,x,vs,v,e1,?_,e3,e4⟩;by_cases z:c∈cs
  .obtain⟨o1,v1,h1,h2⟩:=hc c z;rw[DH z,h1] at e2;cases e2;rw[e3] at h2;cases h2
  .rw[Aw z] at e2;exact e2⟩
def zyH (hc:∀ c∈cs,∃ o v,h.get? c=Ga o/\o.data=.cell v)(n:∀ c∈cs,H c=Gb)(s:dA F H):dA (iZ h F cs) (iZ h H cs):=λb o e=>by
 by_cases hb:b∈cs
 .obtain⟨o1,v,e1,e2⟩:=hc b hb;rw[DH hb,e1] at e ⊢;cases e;exact rfl
 .rw[Aw hb] at e ⊢;exact((s b o e).from λ_ z=>zC4 hc z).to λ_ z=>z.sub (yO n)
def wM (n:Nat)(Pt:Gj)(ds:List D):En:=(iQ n ds).set (n-1) (.tab Pt)
def xM (np n:Nat)(Pt:Gj)(g:FS)(ds:List D):Option D:=if ds.length=np then eZ (g (wM n Pt ds)) else Gb
def spT (K:ja)(Pt:Gj)(fm:List D->Option D):Sp:=λvs H Q _=>∃ (F:Hp) (ds:List D) (d:D),(∃ ps,H Pt=Ga (.tbl ps)/\fA H ps.toList)/\dA F H/\dM K F ds vs/\fm ds=Ga d/\∀ v H' F',dA H H'->dA F F'->dA F' H'->eN F F' H->eU K F' d v->Q v H'
def RS.putN(r:RS K H0 F H ψ σ){s:Sl}(hu:σ[i]?=Ga u)(q:lL K H0 F H s u)(o:ic s=false):RS K H0 F H (ψ.set i s) σ:=by
 refine⟨r.h0,r.fh,λj t e=>?_,λj k a t1 t2 o1 o2 e1 e2 e3 e4=>?_⟩
 .by_cases h:i=j
  .subst h;by_cases hl:i<ψ.length
   .rw[jx hl] at e;cases e;exact⟨u,hu,q⟩
   .rw[kR (by simpa using hl)] at e;cases e
  .rw[jq h] at e;exact r.sl j t e
 .have f1:∀ (j:Nat) (t:Sl),ic t=true->(ψ.set i s)[j]?=Ga t->ψ[j]?=Ga t:=λj t ow e=>by
   by_cases h:i=j
   .subst h;by_cases hl:i<ψ.length
    .rw[jx hl] at e;cases e;rw[o] at ow;cases ow
    .rw[kR (by simpa using hl)] at e;cases e
   .rw[jq h] at e;exact e
  exact r.ap j k a t1 t2 o1 o2 (f1 j t1 o1 e1) (f1 k t2 o2 e2) e3 e4
def XA (F:le K x qual st f fd)(S:dD N ps (defScope st))(hN:0<N.length)(hpn:ps.length<=N.length)
  (hb:∀ cdv,fd.code=cdv->∀ (A:Around) (outer:List Env) (s:Gh) (H:Hp) (E:XK),eP k (A.deeper (envOfC qual (defScope st) s.heap.objs.size f cdv))->fT (fN dS P w K mg base N qual (defScope st) f cdv A outer s H E).nox (defBody st) g) :
  dJ P w K mg base dS (k+1) f fd ps (spT K Pt (xM ps.length N.length Pt g)):=by
 have hr0:∀ {ds:List D} {d:D},xM ps.length N.length Pt g ds=Ga d->ds.length=ps.length/\(g (wM N.length Pt ds)=Ga (.rt d)\/∃ xs,d=.list xs/\g (wM N.length Pt ds)=Ga (.ro xs)):=λ{ds d} h=>by
  unfold xM at h;split at h
  .rename_i z;refine⟨z,?_⟩;unfold eZ at h;split at h
   .rename_i e;cases h;exact .inl e
   .rename_i e;cases h;exact .inr ⟨_,rfl,e⟩
   .cases h
  .cases h
 obtain⟨oc,od,kV,doc,pm,an,cdv,ct,osl,rfl,lk,hcd'⟩:=F.ex;have hb:=hb cdv rfl;refine rl lk hcd' S (λvs H Q E h=>?_) λA outer s H vs Q E hr h=>?_
 .obtain⟨F0,ds,d,_,_,r,e,_⟩:=h;rw[<- r.length];exact(hr0 e).1
 .obtain⟨F0,ds,d,ht,hs,r,e,q⟩:=h;have rs:RS K H F0 H (wM N.length Pt ds) (L2.start N vs):=by
   refine(RS.start (N:=N) hs r).putN (u:=((L2.start N vs)[N.length-1]?).getD Gb) ?_ ht rfl;have hl:N.length-1<(L2.start N vs).length:=by
    unfold L2.start;rw[jA,jk,uc];have:=r.length;have:=(hr0 e).1;omega
   rw[jn hl];rfl
  rcases(hr0 e).2 with z|⟨xs,rfl,z⟩
  .exact⟨_,(hb A outer s H E hr).nox,H,F0,_,_,rs,z,λv H' F' g1 f1 fh1 n1 rv=>q v H' F' g1 f1 fh1 n1 rv⟩
  .refine⟨_,(hb A outer s H E hr).nox,H,F0,_,_,rs,z,λa ys H' F' g1 f1 fh1 n1 ha fa ha' rr=>?_⟩;have sF:dA F' (upd F' a (.lst ys)):=dA.new fa;refine q (.ref a) H' (upd F' a (.lst ys)) g1 (f1.trans sF) (dA.upL fh1 ha' trivial) (λb o h nb=>?_) (.lst (fQ.of dH) (rr.mono sF));by_cases hb:b=a
   .subst hb;exact ha
   .rw[dG hb] at h;exact n1 b o h nb
def Lq (F:le K x qual st f fd)(S:dD N ps (defScope st))(hN:0<N.length)(hpn:ps.length<=N.length)
  (hb:He dS P w K mg base N qual st f k λX _=>fT X.nox (defBody st) g) :
  dJ P w K mg base dS (k+1) f fd ps (spT K Pt (xM ps.length N.length Pt g)) :=
 XA F S hN hpn λ_ _ _ _ _ _ _=>hb
def zyI {mb:Str->Option Gg}{fa:Gj}{sp:Sp}{s₁:Gh}{vs:List Gg}
  (KX:K.In s₁.heap) (hns:s₁.heap.Ns mainGlobals mg) (hb:s₁.heap.Ns builtinsNs mb) (hbb:∀ x:Str,x≠"__name__"->mb x=bootBuiltins x) (hlim:s₁.heap.NoLimit) (hg:s₁.gens=#[])
  (ha:s₁.heap.get? a=Ga { cls:=.type "list",data:=.seq vs.toArray }) (hi:IntsAre vs ns) (hl:ns.length<=sizeLine) (hr:eP k callerA)
  (hT:s₁.heap.get? Pt=Ga (Ja #[])) (hKT:K.lookup Pt=Gb) (hTc:isCodeTable s₁.heap Pt)
  (F:∀ base:Heap,K.In base->base.Ns mainGlobals mg->dJ P w K mg base dS k fa fd [x] sp) (hbind:∀ (s:Gh) (u:Gg),BindsTo s fd ⟨[u],[]⟩ [(x,u)])
  (hsp:∀ H:Hp,H Pt=Ga (.tbl #[])->fQ K H a (ns.map V.int)->sp [.ref a] H (λv _=>v=.bl true) λ_ _ _=>False) :
  codeAny (model P w) callerA (.call (.ref fa) ⟨[.ref a],[]⟩) (λr s'=>r=.ok (.ret (.bool true))/\OldK s₁.heap s'.heap/\s'.os=s₁.os/\AllBare s'.gens) s₁:=by
 have rv:=yr hi;have lenV:=hi.length;have aT:a≠Pt:=λz=>by rw[z,hT] at ha;cases ha
 have core:∀ H:Hp,H Pt=Ga (.tbl #[])->(∀ b,b≠Pt->H b=Gb\/∃ o xs,H b=Ga (.frz o (.lst xs)))->fQ K H a (ns.map V.int)->HOk P w H s₁.heap->(∀ b,H b≠Gb->b=a\/b=Pt)->(H a≠Gb->K.lookup a=Gb) ->
   codeAny (model P w) callerA (.call (.ref fa) ⟨[.ref a],[]⟩) (λr s'=>r=.ok (.ret (.bool true))/\OldK s₁.heap s'.heap/\s'.os=s₁.os/\AllBare s'.gens) s₁:=by
  intro H hPt hO hS hok hA hK;have base_of:∀ {b:Gj} {o:Obj},s₁.heap.get? b=Ga o->H b=Gb->(pV s₁.heap H).get? b=Ga o:=λe n=>EL e n;have noA:∀ {b:Gj} {o:Obj} {es:Array DictEntry} {ep:Nat},s₁.heap.get? b=Ga o->o.data=.dict es ep->H b=Gb:=λ{b o es ep} e d=>by
   cases q:H b with
   | none=>rfl
   | some u =>
    rcases hA b (by rw[q];simp) with e'|e'
    .subst e';rw[ha] at e;cases e;have d':Data.seq vs.toArray _=Data.dict es ep:=d;cases d'
    .subst e';rw[hT] at e;cases e;cases d
  have nsK:∀ {b:Gj} {m:Str->Option Gg},s₁.heap.Ns b m->(pV s₁.heap H).Ns b m:=λ{b m} ⟨o,es,ep,e,d,r⟩=>⟨o,es,ep,base_of e (noA e d),d,r⟩;have hKb:K.In (pV s₁.heap H):=λb o e=>base_of (KX b o e) (by
   cases q:H b with
   | none=>rfl
   | some u =>
    rcases hA b (by rw[q];simp) with e'|e'
    .subst e';rw[hK (by rw[q];simp)] at e;cases e
    .subst e';rw[hKT] at e;cases e)
  have hM:Mod K mg (pV s₁.heap H):=⟨hKb,nsK hns,⟨mb,nsK hb,hbb⟩,let ⟨mc,h1,h2⟩:=hlim;⟨mc,nsK h1,h2⟩⟩;have e0:mm P w K mg (pV s₁.heap H) callerA [] s₁ H:=⟨rfl,hM,λb o e=>HX e,Nat.le_of_eq (Dn _ _),trivial,λb hb=>absurd (show b∈([]:List Gj) from hb) (by simp),hok,.of_eq hg⟩;refine codeAny_mono ((F _ hKb (nsK hns)).run callerA [] s₁ H ⟨[.ref a],[]⟩ [.ref a] [.ref a] _ _ hr e0 (hbind s₁ (.ref a)) (.cons rfl .nil) (hsp H hPt hS)) λr s' h=>?_;cases r with
  | error e=>exact h.elim
  | ok fl =>
   cases fl with
   | next=>exact False.elim h
   | brk=>exact False.elim h
   | cont=>exact False.elim h
   | ret u =>
    obtain⟨v,H',os,bare,un,hok',r',q⟩:=h;have q':v=.bl true:=q;subst q';obtain rfl:u=ur true:=r';have keep:∀ b o,b≠Pt->s₁.heap.get? b=Ga o->s'.heap.get? b=Ga o:=λb o hb e=>by
     cases q:H b with
     | none=>exact un.keep b o e q (by intro z;exact absurd (show b∈([]:List Gj) from z) (by simp)) (by simp)
     | some u =>
      rcases hO b hb with z|⟨ob,xs,z⟩
      .rw[q] at z;cases z
      .have z2:=un.frzs b ob _ z;have⟨e1,_⟩:=hok b _ z;have⟨e2,_⟩:=hok' b _ z2;rw[e] at e1;cases e1;exact e2
    have⟨more,hmore⟩:=un.tbls Pt _ hPt;have hT':s'.heap.get? Pt=Ga { cls:=.none,data:=.fields (#[]++more) }:=hok' Pt _ hmore;refine⟨rfl,⟨λb o e=>?_,λb o e=>?_⟩,os,bare⟩
    .by_cases hb:b=Pt
     .subst hb;rw[hT] at e;cases e;exact .inr (.inl ⟨hTc,rfl,#[],more,rfl,hT'⟩)
     .exact .inl (keep b o hb e)
    .by_cases hb:b=Pt
     .subst hb;exact⟨_,hT'⟩
     .exact⟨o,keep b o hb e⟩
 cases hk:K.lookup a with
 | some o =>
  have e:=KX a o hk;rw[ha] at e;cases e;refine core (λb=>if b=Pt then Ga (.tbl #[]) else Gb) (Ge rfl) (λb hb=>.inl (Gf hb)) (.inr ⟨_,vs.toArray,_,hk,rfl,rfl,rfl,by rwa[ji,lenV],by simpa using rv⟩) (λb u z=>?_) (λb z=>?_) λz=>absurd (Gf aT) z
  .by_cases hb:b=Pt
   .have z':=(Ge hb).symm.trans z;cases z';subst hb;exact hT
   .have z':=(Gf hb).symm.trans z;cases z'
  .by_cases hb:b=Pt
   .exact .inr hb
   .exact absurd (Gf hb) z
 | none =>
  refine core (λb=>if b=Pt then Ga (.tbl #[]) else if b=a then Ga (.frz { cls:=.type "list",data:=.seq vs.toArray } (.lst (ns.map V.int))) else Gb) (Ge rfl) (λb hb=>?_) (.inl (.inr ⟨{ cls:=.type "list",data:=.seq vs.toArray },(Gf aT).trans (Ge rfl)⟩)) (λb u z=>?_) (λb z=>?_) λ_=>hk
  .by_cases hba:b=a
   .exact .inr ⟨_,_,(Gf hb).trans (Ge hba)⟩
   .exact .inl ((Gf hb).trans (Gf hba))
  .by_cases hb:b=Pt
   .have z':=(Ge hb).symm.trans z;cases z';subst hb;exact hT
   .replace z:=(Gf hb).symm.trans z;by_cases hba:b=a
    .have z':=(Ge hba).symm.trans z;cases z';subst hba;exact⟨ha,by rwa[jk],vs,_,rv,ha⟩
    .have z':=(Gf hba).symm.trans z;cases z'
  .by_cases hb:b=Pt
   .exact .inr hb
   .by_cases hba:b=a
    .exact .inl hba
    .exact absurd ((Gf hb).trans (Gf hba)) z
def zA2 {l:PySem.W.OpenLaw}{q:Program}{loose:List Str}{XP:(Str->Option Gg)->Heap->Prop}{YP:World->Heap->Prop}{d:DefRec}{K:Params->ja}{sp:ja->Sp}
  (hn:l.most=Ga n) (hn2:n<=sizeLine) (hdf:d.params.defaults=[]) (hr:eP k callerA)
  (hY:∀ (w:World) (h:Heap),YP w h->(K w.params).In h/\h.get? Pt=Ga (Ja #[]))
  (hKT:∀ P,(K P).lookup Pt=Gb) (hTc:∀ (w:World) (h:Heap),(K w.params).In h->isCodeTable h Pt)
  (F:∀ (w:World) (mg:Str->Option Gg) (fa:Gj) (h:Heap),(K w.params).In h->h.Ns mainGlobals mg->mg d.name=Ga (.ref fa) ->
   ∃ fd:Gi,(∀ (s:Gh) (u:Gg),BindsTo s fd ⟨[u],[]⟩ [(x,u)]) /\
    ∀ base:Heap,(K w.params).In base->base.Ns mainGlobals mg->dJ l.prog w (K w.params) mg base dS k fa fd [x] (sp (K w.params)))
  (hsp:∀ (K:ja) (H:Hp) (a:Gj) (ns:List Int),ns.length<=n->H Pt=Ga (.tbl #[])->fQ K H a (ns.map V.int)->sp K [.ref a] H (λv _=>v=.bl true) λ_ _ _=>False) :
  PySem.W.WalkO q loose XP YP l.row.toRowW d [] (λf vs=>PySem.call f vs):=by
 refine Att.attach_call hn hdf λw s₀ s₁ mg mb fa o pm cd doc a vs ns G Y ho hd hcd hmg hobj hints hlen hg=>?_;have⟨KX,hT⟩:=hY w _ Y;have⟨fd,hb,hF⟩:=F w mg fa _ KX G.T.g hmg;exact zyI KX G.T.g G.T.b G.T.builtins G.T.nolimit hg hobj hints (jX hlen hn2) hr hT (hKT _) (hTc w _ KX) hF hb (λH hT hS=>hsp (K w.params) H a ns hlen hT hS)
def zC5(hT:H Pt=Ga (.tbl #[]))(hS:fQ K H a (ns.map V.int))(h:fm [.list (ns.map jO)]=Ga (.bool true)):spT K Pt fm [.ref a] H (λv _=>v=.bl true) λ_ _ _=>False :=
 ⟨H,[.list (ns.map jO)],.bool true,⟨#[],hT,trivial,λpos cv h=>by cases h⟩,.refl _,.cons (.lst hS (dM.ints ns)) .nil,h,λv H' F' _ _ _ _ r=>by cases r;rfl⟩
def zsZ{c P:Gj}(X:K.In h)(e:JF K c P=true):isCodeTable h P:=by
 have⟨o,vs,file,tf,flags,tg,inF,text,tt,e1,e2,e3,e4,_⟩:=Jg X e;exact⟨c,o,vs,e1,e2,e3,e4⟩
open Classical in
noncomputable def wH (it:Nat)(P:Gj)(fm:List D->Option D)(g:FL):FV:=λψ=>if ψ[it]?=Ga (.tab P) then(g ψ).bind fm else Gb
variable {g:FL}{ψ:Env}
def zC6 (it:Nat){P:Gj}(F:Fq X dS k f fd ps (spT X.K P fm))(hr:eP k X.A)(hm:X.mg x=Ga (.ref f))(hk:jR X.K (.ref f)=true)(hb:fS X.K fd ps [])(ha:PL X (e::es) g)(hg:Gl X x:=by rfl)
  (hdb:Nd x:=by decide) (he:Sa X e es:=by rfl) (hpl:Sc X pos es:=by rfl) :
  PV X (.Call (.Name x p) (e::es) [] pos) (wH it P fm g):=by
 refine fG (iV F hr hg hm hk hb .nil iC ha.pa hdb he hpl) λσ H Q=>?_;rintro⟨H0,F,ψ,d,r,e,q⟩;unfold wH at e;split at e;rotate_left
 .cases e
 rename_i hi;have⟨ds,e1,e2⟩:=dz e;have⟨_,_,ht⟩:=r.sl it _ hi;obtain⟨ps0,ht,g0⟩:∃ ps,H0 P=Ga (.tbl ps)/\fA H0 ps.toList:=ht;have⟨qs,hP,hgd⟩:=r.h0 P _ ht;refine⟨H0,F,ψ,ds,r,e1,λvs H1 F1 g1 f1 fh1 n1 rv=>⟨F1,ds,d,?_,fh1,by rwa[jJ],e2,λv H2 F2 g2 f2 fh2 n2 rv2=>?_⟩⟩
 .obtain⟨rs,h1,h2⟩:=g1 P _ hP;exact⟨rs,h1,h2 (hgd g0)⟩
 .exact q v H2 F2 (g1.trans g2) (f1.trans f2) fh2 (n1.trans n2 g1) rv2
structure FnW (K:ja)(x:Str)(st:Stmt)(cd:Gg)(a:Gj)(fd:Gi):Prop where
 e:∃ (od an:Option Gj) (sl:Array (Option Gg)) (oc kV dc pm ct:Gg),J3 K mainGlobals x=Ga (Ga (.ref a))/\K.lookup a=Ga ⟨oc,od,.func fd,sl⟩/\fd=kG x x (defArgs st) (defBody st) (defScope st) .none kV dc pm an cd ct/\uR K cd x=true/\jR K (.ref a)=true
def zaK(X:K.In h)(G:h.Ns mainGlobals mg)(w:FnW K x st cd f fd)
  (hb:∀ (kV doc pm:Gg) (an:Option Gj) (cdv ct:Gg) (us:List Gg),us.length=ps.length->bindArgs (kG x x (defArgs st) (defBody st) (defScope st) .none kV doc pm an cdv ct) ⟨us,[]⟩=pure (ps.zip us):=by first|(exact λ_ _ _ _ _ _ us hl=>(match us,hl with|[_],_=>rfl))|(exact λ_ _ _ _ _ _ us hl=>(match us,hl with|[_,_],_=>rfl))|(exact λ_ _ _ _ _ _ us hl=>(match us,hl with|[_,_,_],_=>rfl))|(exact λ_ _ _ _ _ _ us hl=>(match us,hl with|[_,_,_,_],_=>rfl))|(exact λ_ _ _ _ _ _ us hl=>(match us,hl with|[_,_,_,_,_],_=>rfl))|(exact λ_ _ _ _ _ _ us hl=>(match us,hl with|[_,_,_,_,_,_],_=>rfl))|(exact λ_ _ _ _ _ _ us hl=>(match us,hl with|[_,_,_,_,_,_,_],_=>rfl))):Fn K mg x st ps f fd:=by
 obtain⟨od,an,sl,oc,kV,dc,pm,ct,e1,e2,rfl,e3,e4⟩:=w.e;exact zGV X G e1 e2 e3 e4 hb
def FnW.code {K:ja}{x:Str}{st:Stmt}{f:Gj}{cd:Gg}{fd:Gi}(w:FnW K x st cd f fd):fd.code=cd:=by
 obtain⟨od,an,sl,oc,kV,dc,pm,ct,e1,e2,rfl,e3,e4⟩:=w.e;rfl
def FnW.bt(w:FnW K x st cd f fd){Q:Gi->Prop}(q:∀ (kV doc pm:Gg) (an:Option Gj) (cdv ct:Gg),Q (kG x x (defArgs st) (defBody st) (defScope st) .none kV doc pm an cdv ct)):Q fd:=by
 obtain⟨od,an,sl,oc,kV,dc,pm,ct,e1,e2,rfl,e3,e4⟩:=w.e;exact q _ _ _ _ _ _
def Kx (fs:List Gj)(h0:Heap)(H:Hp)(h h':Heap):Prop :=
 (∀ b o,h.get? b=Ga o->(h0.get? b≠Gb\/H b≠Gb\/∀ vs,o.data≠.fields vs)->∃ sl,h'.get? b=Ga { o with slots:=sl }/\(b∉fs->sl=o.slots)) /\
 ∀ b o vs,h.get? b=Ga o->o.data=.fields vs->∃ o' vs',h'.get? b=Ga o'/\o'.data=.fields vs'/\vs'[2]?=vs[2]?
def Kx.trans (a:Kx fs h0 H h h1)(b:Kx fs h0 H h1 h2):Kx fs h0 H h h2:=by
 refine⟨λc o e q=>?_,λc o vs e d=>?_⟩
 .obtain⟨sl,e1,n1⟩:=a.1 c o e q;have⟨sl2,e2,n2⟩:=b.1 c _ e1 q;exact⟨sl2,e2,λhc=>(n2 hc).trans (n1 hc)⟩
 .obtain⟨o1,v1,e1,d1,z1⟩:=a.2 c o vs e d;have⟨o2,v2,e2,d2,z2⟩:=b.2 c o1 v1 e1 d1;exact⟨o2,v2,e2,d2,z2.trans z1⟩
def Kx.of (k:∀ b o,h.get? b=Ga o->h1.get? b=Ga o):Kx fs h0 H h h1:=⟨λc o e _=>⟨o.slots,k c o e,λ_=>rfl⟩,λc o vs e d=>⟨o,vs,k c o e,d,rfl⟩⟩
def Kx.slots (k:Heap.SlotsOnly fs h h1):Kx fs h0 H h h1:=by
 refine⟨λc o e _=>?_,λc o vs e d=>?_⟩
 .by_cases hc:c∈fs
  .obtain⟨sl,z⟩:=k.2.2 c o e;exact⟨sl,z,λn=>absurd hc n⟩
  .exact⟨o.slots,(k.2.1 c hc).trans e,λ_=>rfl⟩
 .obtain⟨sl,z⟩:=k.2.2 c o e;exact⟨_,vs,z,d,rfl⟩
def Kx.upd(e:h.get? y=Ga oy)(d:oy.data=.fields vs)(n0:h0.get? y=Gb)(nH:H y=Gb)(hi:i≠2):Kx fs h0 H h (h.update y (kf (·.setIfInBounds i v))):=by
 refine⟨λc o ec q=>?_,λc o us ec du=>?_⟩
 .have ne:c≠y:=λz=>by
   subst z;rw[e] at ec;cases ec;rcases q with q|q|q
   .exact q n0
   .exact q nH
   .exact q vs d
  exact⟨o.slots,(jN _ _ (kW ne)).trans ec,λ_=>rfl⟩
 .by_cases z:c=y
  .subst z;rw[e] at ec;cases ec;rw[d] at du;cases du;exact⟨_,_,jI _ e (kA (j8 d _)),j8 d _,by rw[Array.getElem?_setIfInBounds,Gf hi]⟩
  .exact⟨o,us,(jN _ _ (kW z)).trans ec,du,rfl⟩
def Kx.frames{l:List Env}(k:Kx fs h0 H h h1)(hl:h.FunFrames base l):h1.FunFrames base l:=hl.of_keeps λb o e n=>by
 have⟨sl,z,_⟩:=k.1 b o e (.inr (.inr n));exact⟨_,z,rfl⟩
def iU (h0:Heap)(H:Hp)(x:Gj)(cls fl:Gg)(h:Heap):Prop :=
 h0.get? x=Gb/\H x=Gb/\∃ oe vs T oT ts,h.get? x=Ga oe/\(oe.cls=cls/\oe.dict=Gb)/\oe.data=.fields vs/\vs[1]?=Ga (.ref T)/\T≠x/\h.get? T=Ga oT/\oT.data=.fields ts/\ts[3]?=Ga fl/\h0.get? T=Gb/\H T=Gb
variable {x:Gj}{st:List Stmt}
def xg {fl:Gg}(ht:iU h0 H x cls fl s.heap)(h:∀ h',iU h0 H x cls .none h'->(∀ fs,Kx fs h0 H s.heap h')->h'.objs.size=s.heap.objs.size->Q () { s with heap:=h' }):wpAny M A (setFlight (.ref x) Gb) Q E s:=by
 obtain⟨n0,nH,oe,vs,T,oT,ts,he,hc,hd,h1,hT,eT,dT,h3,m0,mH⟩:=ht;have hs3:3<ts.size:=(kj.mp h3).1;unfold setFlight;refine dv (wpAny_field he hd h1 ?_);rw[Ge (show(jH T !=jC)=true by simp)];refine wpAny_setField eT dT hs3 (h _ ⟨n0,nH,oe,vs,T,_,_,(jN _ _ hT).trans he,hc,hd,h1,hT,jI _ eT (kA (j8 dT _)),j8 dT _,by simp[hs3],m0,mH⟩ (λfs=>Kx.upd eT dT m0 mH (by decide)) ?_);simp[vC]
def KD {hd:Gg}{hn:Bool}(hfr:A.frames=Ga (ψ::outer))(hl:s.heap.FunFrames base (ψ::outer))(hf:ψ.frame=Ga L)(he:s.heap.get? x=Ga oe)(hdn:oe.dict=Gb)(hdv:oe.data=.fields vs)(hsz:1<vs.size)
  (n0:h0.get? x=Gb) (nH:H x=Gb) (hz:∀ b o,h0.get? b=Ga o->b<s.heap.objs.size) (hH:∀ b,H b≠Gb->b<s.heap.objs.size)
  (h:∀ h',iU h0 H x oe.cls (rawInt L) h'->Kx (gE (ψ::outer)) h0 H s.heap h'->s.heap.objs.size<=h'.objs.size->Q () { s with heap:=h' }) :
  wpAny M A (do let a <- frameOf ψ;let pl <- entryPlaceOf L hn;let b <- EntryCells.newEntry hd a .none (rawInt L) .none pl;setField (.ref x) 1 b) Q E s:=by
 have nf:x∉gE (ψ::outer):=λhm=>by
  have⟨_,o,ho,hnf⟩:=hl.mem hm;rw[he] at ho;cases ho;exact hnf vs hdv
 refine dv (wpAny_frameOf_fun hfr hl hf λh1 hs1=>?_);refine dv (wpAny_entryPlaceOf λpl hpl=>?_);unfold EntryCells.newEntry newFields;refine dv (wpAny_newObj_type ?_ (hpl.sizeOk5 _ _ _ _ _));have e1:h1.get? x=Ga oe:=(hs1.2.1 x nf).trans he;generalize hob:({ cls:=k8 "traceback",dict:=Gb,data:=Data.fields ([hd,jH L,jC,rawInt L,jC]++(if pl.isEmpty then uQ 6 jC else pl)).toArray }:Obj)=ob;have hob3:∃ ts,ob.data=.fields ts/\ts[3]?=Ga (rawInt L):=by
  subst hob;exact⟨_,rfl,by first|(simp;done)|(rcases hpl with rfl|⟨_,_,_,_,_,_,_,rfl⟩<;>simp)⟩
 obtain⟨ts,dts,h3⟩:=hob3;have frd:ob.isFreed=false:=kA dts;have e2:=jb (h:=h1) ob e1;have hT:(h1.push ob).get? h1.objs.size=Ga ob:=jm h1 frd;have ne:h1.objs.size≠x:=uw (jg e1);have d3:=j8 hdv (·.setIfInBounds 1 (jH h1.objs.size));have T0:h0.get? h1.objs.size=Gb:=by
  cases q:h0.get? h1.objs.size with
  | none=>rfl
  | some u =>
   have:=hz h1.objs.size u q;rw[hs1.1] at this;exact absurd this (ka _)
 have TH:H h1.objs.size=Gb:=by
  cases q:H h1.objs.size with
  | none=>rfl
  | some u =>
   have:=hH h1.objs.size (by rw[q];exact λz=>by cases z);rw[hs1.1] at this;exact absurd this (ka _)
 refine wpAny_setField e2 hdv hsz (h _ ⟨n0,nH,_,_,h1.objs.size,ob,ts,jI _ e2 (kA d3),⟨vH _ _,(show _=oe.dict by first|exact Obj.dict_mapFields _ _|(unfold kf;split<;>rfl)|rfl).trans hdn⟩,d3,by simp[hsz],ne,(jN _ _ (kW ne)).trans hT,dts,h3,T0,TH⟩ ?_ ?_)
 .exact(Kx.slots hs1).trans ((Kx.of λb o e=>jb _ e).trans (Kx.upd e2 hdv n0 nH (by decide)))
 .have:((h1.push ob).update x (kf (·.setIfInBounds 1 (jH h1.objs.size)))).objs.size=h1.objs.size+1:=by simp[vC,Heap.push]
  rw[this,hs1.1];omega
def Um(hfr:A.frames=Ga (ψ::outer))(hl:s.heap.FunFrames base (ψ::outer))(hf:ψ.frame=Ga L)(he:s.heap.get? x=Ga oe)(hc:oe.cls=cls)(hdn:oe.dict=Gb)(hdv:oe.data=.fields vs)(hv:vs[1]?=Ga .none)
  (n0:h0.get? x=Gb) (nH:H x=Gb) (hz:∀ b o,h0.get? b=Ga o->b<s.heap.objs.size) (hH:∀ b,H b≠Gb->b<s.heap.objs.size)
  (h:∀ h',iU h0 H x cls (rawInt L) h'->Kx (gE (ψ::outer)) h0 H s.heap h'->s.heap.objs.size<=h'.objs.size->Q () { s with heap:=h' }):wpAny M A (noteFrame (.ref x) ψ) Q E s:=by
 subst hc;unfold noteFrame;simp only[hf];refine dv (wpAny_field he hdv hv ?_);rw[Gf (by decide)];exact KD hfr hl hf he hdn hdv (kj.mp hv).1 n0 nH hz hH h
def Fx (hfr:A.frames=Ga (ψ::outer))(hl:s.heap.FunFrames base (ψ::outer))(hf:ψ.frame=Ga L)(ht:iU h0 H x cls .none s.heap)(hz:∀ b o,h0.get? b=Ga o->b<s.heap.objs.size)(hH:∀ b,H b≠Gb->b<s.heap.objs.size)
  (h:∀ h',iU h0 H x cls (rawInt L) h'->Kx (gE (ψ::outer)) h0 H s.heap h'->s.heap.objs.size<=h'.objs.size->Q () { s with heap:=h' }):wpAny M A (noteFrame (.ref x) ψ) Q E s:=by
 obtain⟨n0,nH,oe,vs,T,oT,ts,he,⟨hc,hdn⟩,hd,h1,hT,eT,dT,h3,m0,mH⟩:=ht;subst hc;unfold noteFrame;simp only[hf];refine dv (wpAny_field he hd h1 ?_);rw[Ge (show(jH T !=jC)=true by simp)];refine dv (wpAny_field eT dT h3 ?_);rw[Gf (show ¬((jC==rawInt L)=true) by simp[rawInt])];refine dv (wpAny_setField eT dT (kj.mp h3).1 ?_);have k1:∀ fs,Kx fs h0 H s.heap (s.heap.update T (kf (·.setIfInBounds 3 jC))):=λfs=>Kx.upd eT dT m0 mH (by decide);have z1:(s.heap.update T (kf (·.setIfInBounds 3 jC))).objs.size=s.heap.objs.size:=by simp[vC]
 exact KD hfr ((k1 []).frames hl) hf ((jN _ _ hT).trans he) hdn hd (kj.mp h1).1 n0 nH (λb o q=>by rw[z1];exact hz b o q) (λb q=>by rw[z1];exact hH b q) λh' t k z=>h h' t ((k1 _).trans k) (by rw[z1] at z;exact z)
def Pk(hfr:A.frames=Ga (ψ::outer))(hl:s.heap.FunFrames base (ψ::outer))(hf:ψ.frame=Ga L)(he:s.heap.get? x=Ga oe)(hc:oe.cls=cls)(hdn:oe.dict=Gb)(hdv:oe.data=.fields vs)(hv:vs[1]?=Ga .none)
  (n0:h0.get? x=Gb) (nH:H x=Gb) (hz:∀ b o,h0.get? b=Ga o->b<s.heap.objs.size) (hH:∀ b,H b≠Gb->b<s.heap.objs.size)
  (h:∀ h',iU h0 H x cls .none h'->Kx (gE (ψ::outer)) h0 H s.heap h'->s.heap.objs.size<=h'.objs.size->Q () { s with heap:=h' }):wpAny M A (leaving ψ (.ref x)) Q E s:=by
 unfold leaving;refine dv (Um hfr hl hf he hc hdn hdv hv n0 nH hz hH λh1 t1 k1 z1=>?_);exact xg t1 λh2 t2 k2 z2=>h h2 t2 (k1.trans (k2 _)) (by rwa[z2])
def RW (hfr:A.frames=Ga (ψ::outer))(hl:s.heap.FunFrames base (ψ::outer))(hf:ψ.frame=Ga L)(ht:iU h0 H x cls .none s.heap)(hz:∀ b o,h0.get? b=Ga o->b<s.heap.objs.size)(hH:∀ b,H b≠Gb->b<s.heap.objs.size)
  (h:∀ h',iU h0 H x cls .none h'->Kx (gE (ψ::outer)) h0 H s.heap h'->s.heap.objs.size<=h'.objs.size->Q () { s with heap:=h' }):wpAny M A (leaving ψ (.ref x)) Q E s:=by
 unfold leaving;refine dv (Fx hfr hl hf ht hz hH λh1 t1 k1 z1=>?_);exact xg t1 λh2 t2 k2 z2=>h h2 t2 (k1.trans (k2 _)) (by rwa[z2])
def fM (P:Program)(w:World):mz:=λouter H s E e s' =>
 ∃ (x C:Gj) (H':Hp),e=.ref x/\s'.os=s.os/\AllBare s'.gens/\Un (gE outer) [] H H' s.heap s'.heap/\HOk P w H' s'.heap/\iU s.heap H' x (.ref C) .none s'.heap/\E (.ref C) Gb H'
def YB(x:HOk P w H h)(e:H a=Ga o):∃ u,h.get? a=Ga u:=by
 have q:=x a o e;cases o with
 | lst xs=>obtain⟨_,_,_,_,e⟩:=q;exact⟨_,e⟩
 | tup xs=>obtain⟨_,_,_,ob,e,_⟩:=q;exact⟨_,e⟩
 | dK kvs=>obtain⟨_,_,_,_,o,_,_,e,_⟩:=q;exact⟨_,e⟩
 | ins C dx fs=>obtain⟨_,_,_,e,_⟩:=q;exact⟨_,e⟩
 | own _=>obtain⟨o,e⟩:=q;exact⟨_,e⟩
 | frz o u=>exact⟨_,q.1⟩
 | tbl ps=>exact⟨_,q⟩
 | ext φ=>exact q.2.1
def Fu (J:dE X ω σ H s)(hx:X.ex=[])(n:s.heap.get? b=Gb):X.s₀.heap.get? b=Gb:=by
 cases q:X.s₀.heap.get? b with
 | none=>rfl
 | some o =>
  obtain⟨o',e⟩:=J.base.there b o q (by rw[hx];simp);rw[n] at e;cases e
def IA (J:dE X ω σ H s)(n:s.heap.get? b=Gb):H b=Gb:=by
 cases q:H b with
 | none=>rfl
 | some o =>
  have⟨u,e⟩:=YB J.hok q;rw[n] at e;cases e
def zI {o:Obj}(e:sl=o.slots):{ o with slots:=sl }=o:=by subst e;rfl
def Rc (J:dE X ω σ H s)(hx:X.ex=[])(k:Kx (gE X.stack) X.s₀.heap H s.heap h'):Un X.fs9 [] X.H₀ H X.s₀.heap h'/\HOk X.prog X.w H h':=by
 have low:∀ b o,X.s₀.heap.get? b=Ga o->b≠X.env.locals:=λb o e z=>by
  subst z;exact absurd (jg e) (Nat.not_lt.mpr J.ok.above)
 have nx:∀ b:Gj,b∉X.ex:=λb z=>by rw[hx] at z;simp at z
 have nstk:∀ b o,X.s₀.heap.get? b=Ga o->b∉X.fs9->b∉gE X.stack:=λb o e n z=>(jz.mp (J.stkSub b z)).elim (low b o e) n;refine⟨⟨λb o e n hb _=>?_,λb o e n hb _=>?_,λb o e n _=>J.base.free b o e n (nx b),λb o e _=>?_,J.base.tups,J.base.frzs,J.base.tbls⟩,λa o e=>?_⟩
 .have e1:=J.base.keep b o e n hb (nx b);obtain⟨sl,e2,q⟩:=k.1 b o e1 (.inl (by rw[e];exact λz=>by cases z));rw[zI (q (nstk b o e hb))] at e2;exact e2
 .obtain⟨sl,e1⟩:=J.base.slot b o e n hb (nx b);obtain⟨sl2,e2,_⟩:=k.1 b _ e1 (.inl (by rw[e];exact λz=>by cases z));exact⟨sl2,e2⟩
 .obtain⟨o1,e1⟩:=J.base.there b o e (nx b);obtain⟨sl2,e2,_⟩:=k.1 b _ e1 (.inl (by rw[e];exact λz=>by cases z));exact⟨_,e2⟩
 .have tr:∀ b u,H b≠Gb->s.heap.get? b=Ga u->h'.get? b=Ga u:=λb u hb e1=>by
   have⟨sl,e2,q⟩:=k.1 b u e1 (.inr (.inl hb));rw[zI (q λz=>hb (J.stkFree b z))] at e2;exact e2
  exact(J.hok a o e).stay (λb u hb e1=>tr b u (by
   rcases hb with rfl|hb
   .rw[e];exact λz=>by cases z
   .rw[hb];exact λz=>by cases z) e1) (λb z=>z) λb xs z=>z
def Ky {fl:Gg}(J:dE X ω σ H s)(hx:X.ex=[])(t:iU s.heap H' x cls fl h'):iU X.s₀.heap H' x cls fl h':=by
 obtain⟨n0,nH,oe,vs,T,oT,ts,he,hc,hd,h1,hT,eT,dT,h3,m0,mH⟩:=t;exact⟨Fu J hx n0,nH,oe,vs,T,oT,ts,he,hc,hd,h1,hT,eT,dT,h3,Fu J hx m0,mH⟩
variable {E:XK}
def GD(J:dE (fN (fM P w) P w K mg base N qual scope f cd A outer s₀ H₀ E) ω σ H s)(k:Kx (gE (envOfC qual scope s₀.heap.objs.size f cd::outer)) s₀.heap H s.heap h')(t:iU s₀.heap H x (.ref C) .none h')(hE:E (.ref C) Gb H) :
  fM P w outer H₀ s₀ E (.ref x) { s with heap:=h' }:=by
 have⟨u,hok⟩:=Rc J rfl k;exact⟨x,C,H,rfl,J.os,J.bare,u,hok,t,hE⟩
def ij:gU (fM P w) (fN (fM P w) P w K mg base N qual scope f cd A outer s₀ H₀ E) E:=by
 intro ω σ H s e s' I h;obtain⟨x,C,H',rfl,os,bare,u,hok,t,hE⟩:=h;have J:=I.call' (ch:=[]) os u hok bare λb z=>absurd z (by simp);have t0:=Ky I rfl t;exact RW (h0:=s₀.heap) (H:=H') J.ok.frames J.stack rfl t0 (λb o q=>jf (jg q) J.sz) (λb q=>by
  cases z:H' b with
  | none=>exact absurd z q
  | some o=>exact J.hok.lt z) λh' t' k' _=>GD J k' t' hE
variable {x:Str}
def Ij{bm:List Gg}{newId B initId:String}{np cpos:Pos}{Q:Flow->Gh->Prop}
  (O:OwnCls x C bm newId mg base) (FB:ExcBaseFacts B newId initId bm) (I:dE (fN (fM P w) P w K mg base N qual scope f cd A outer s₀ H₀ E) ω σ H s) (hE:E (.ref C) Gb H)
  (hg:scope.names.lookup x=Ga .globalImplicit:=by rfl) (hdb:Nd x:=by decide) :
  wpAny (model P w) (A.deeper (envOfC qual scope s₀.heap.objs.size f cd)) (exec (.Raise (Ga (.Call (.Name x np) [.Constant (.str msg) j spos] [] cpos)) Gb pos) (envOfC qual scope s₀.heap.objs.size f cd)) Q (fN (fM P w) P w K mg base N qual scope f cd A outer s₀ H₀ E).xe s:=by
 have⟨tl,N',nm,q,bs,hdct,sn,sub,ab,col,dd,k0,k1,k2,k3,k5,mN,hC,hN,hni,T⟩:=O.obj;refine wpAny_Raise_call_subT (C:=C) (nm:=nm) (q:=q) (N:=N') (bs:=bs) (bm:=tl) (hdct:=hdct) (sn:=sn) (sub:=sub) (ab:=ab) (col:=col) (dd:=dd) (k0:=k0) (k1:=k1) (k2:=k2) (k3:=k3) (k5:=k5) (newId:=newId)
  FB (mN:=mN) (T.hasType FB.hasBase) (I.ok.hd rfl) rfl hni (gK I hg O.bound ⟨rfl,?_⟩ hdb)
 refine uC (wpAny_mono ((eY sJ fY) cpos ω s σ H (λvs H1=>vs.length=1/\H1=H) I ⟨rfl,rfl⟩) (λus s2 h2=>?_) λ_ _ y=>y);obtain⟨vs,H1,I2,rv,hl,rfl⟩:=h2;have kb:∀ b o,base.get? b=Ga o->s2.heap.get? b=Ga o:=I2.bk;refine⟨rfl,by rw[<- rv.length,hl];decide,kb _ _ hC,hN.keeps kb,T.keeps kb,λh' e M=>?_⟩;have⟨t,ht,_,_⟩:=M.there;have J:dE (fN (fM P w) P w K mg base N qual scope f cd A outer s₀ H₀ E) ω σ H1 { s2 with heap:=h' }:=I2.call' (ch:=[]) rfl (Un.kept M.keeps) (I2.hok.kept M.keeps) I2.bare λb z=>absurd z (by simp);exact Pk (h0:=s₀.heap) (H:=H1) J.ok.frames J.stack rfl ht rfl rfl rfl rfl (Fu I2 rfl M.new) (IA I2 M.new) (λb o q=>jf (jg q) J.sz) (λb q=>by
  cases z:H1 b with
  | none=>exact absurd z q
  | some o=>exact J.hok.lt z) λh2 t' k' _=>GD J k' t' hE
abbrev FX:=En->Option Str
def Xw (mg:Str->Option Gg)(E:XK)(c:Str)(H0:Hp):Prop:=∃ C,mg c=Ga (.ref C)/\∀ H',dA H0 H'->E (.ref C) Gb H'
def Di (K:ja)(mg:Str->Option Gg)(E:XK)(k:FX)(σ:St)(H:Hp):Prop:=∃ H0 F ψ c,RS K H0 F H ψ σ/\k ψ=Ga c/\Xw mg E c H0
def tX (K:ja)(mg:Str->Option Gg)(E:XK)(k:FX):TS:=λ_ σ H=>Di K mg E k σ H
def MO (K:ja)(mg:Str->Option Gg)(E:XK)(k:FX):TE:=λσ H _=>Di K mg E k σ H
def tXT (K:ja)(mg:Str->Option Gg)(E:XK)(k:FX):TT:=λσ H _=>Di K mg E k σ H
abbrev mK (X:Cx)(E:XK)(st:Stmt)(k:FX):Prop:=PS X st (tX X.K X.mg E k)
abbrev my (X:Cx)(E:XK)(st:List Stmt)(k:FX):Prop:=lc X st (tX X.K X.mg E k)
abbrev me (X:Cx)(E:XK)(e:Expr)(k:FX):Prop:=PE X e (MO X.K X.mg E k)
abbrev GK (X:Cx)(E:XK)(e:Expr)(k:FX):Prop:=PT X e (tXT X.K X.mg E k)
def ib:FX:=λ_=>Gb
def gO (a b:FX):FX:=λψ=>match a ψ with
 | some c=>Ga c
 | none=>b ψ
def fV (g:FS)(k:FX):FX:=λψ=>(g ψ).bind λo=>match o with
 | .nx e=>k e
 | _=>Gb
def gQ (c:FB)(k1 k2:FX):FX:=λψ=>(c (frz ψ)).bind λt=>if t then k1 ψ else k2 ψ
def lI (c:Str):FX:=λ_=>Ga c
def iz (g:FL)(fx:List D->Option Str):FX:=λψ=>(g ψ).bind fx
def yu (f:FV)(k:FX):FX:=λψ=>(f ψ).bind λ_=>k ψ
def Xw.dn(x:Xw mg E c H0)(s:dA H0 H1):Xw mg E c H1:=let ⟨C,a,b⟩:=x;⟨C,a,λH' q=>b H' (s.trans q)⟩
def Le:lc X st (λ_ _ _=>False):=λ_ _ _ _ _ _ h=>h.elim
def Tg{t u:TS}(h1:lc X st t)(h2:lc X st u):lc X st (λD σ H=>t D σ H\/u D σ H):=λω s σ H D I h=>h.elim (h1 ω s σ H D I) (h2 ω s σ H D I)
def zGY {st:Stmt}{t u:TS}(h1:PS X st t)(h2:PS X st u):PS X st (λD σ H=>t D σ H\/u D σ H):=λω s σ H D I h=>h.elim (h1 ω s σ H D I) (h2 ω s σ H D I)
def lV:my X E st ib:=λ_ _ _ _ _ _ h=>by obtain⟨_,_,_,_,_,e,_⟩:=h;cases e
variable {k k1 k2:FX}{st:Stmt}
def gu(h:mK X E st k):my X E (st::rest) k :=
 yp (oq h (Le (st:=rest))) λ_ _ _ q=>q
def mX{g:FS}(h1:im X st g)(h2:my X E rest k):my X E (st::rest) (fV g k):=by
 refine yp (oq h1 h2) λD σ H=>?_;rintro⟨H0,F,ψ,c,r,e,w⟩;have⟨o,e1,e2⟩:=dz e;refine⟨H0,F,ψ,o,r,e1,?_⟩;cases o with
 | nx env1=>exact λσ' H' F' f n r'=>⟨H0,F',env1,c,r',e2,w⟩
 | rt d=>cases e2
 | ro d=>cases e2
 | rc a d=>cases e2
 | bk d=>cases e2
 | ct d=>cases e2
def ou{g:FS}(h1:mK X E st k1)(hn:im X st g)(h2:my X E rest k2):my X E (st::rest) (gO k1 (fV g k2)):=by
 refine yp (Tg (gu (rest:=rest) h1) (mX hn h2)) λD σ H=>?_;rintro⟨H0,F,ψ,c,r,e,w⟩;unfold gO at e;split at e
 .rename_i c' z;cases e;exact .inl ⟨H0,F,ψ,_,r,z,w⟩
 .exact .inr ⟨H0,F,ψ,c,r,e,w⟩
def iI {c:Expr}{a b:List Stmt}(hc:PB X c fc)(ha:my X E a k1)(hb:my X E b k2):mK X E (.If c a b pos) (gQ fc k1 k2):=by
 refine iR (xf hc ha hb) λD σ H=>?_;rintro⟨H0,F,ψ,cn,r,e,w⟩;have⟨t,e1,e⟩:=dz e;refine⟨H0,H,frz ψ,t,r.frz,e1,λH' g'=>?_⟩;cases t with
 | true=>exact mP ⟨H0,F,ψ,cn,r.later g',e,w⟩
 | false=>exact mZ ⟨H0,F,ψ,cn,r.later g',e,w⟩
def Ym {c:Expr}{a b:List Stmt}(hc:GK X E c k):mK X E (.If c a b pos) k :=
 iR (xf hc (Le (st:=a)) (Le (st:=b))) λ_ _ _ q=>q
def Xa(h1:mK X E st k1)(h2:mK X E st k2):mK X E st (gO k1 k2):=by
 refine iR (zGY h1 h2) λD σ H=>?_;rintro⟨H0,F,ψ,c,r,e,w⟩;unfold gO at e;split at e
 .rename_i c' z;cases e;exact .inl ⟨H0,F,ψ,_,r,z,w⟩
 .exact .inr ⟨H0,F,ψ,c,r,e,w⟩
def sB(h:me X E e k):mK X E (.Return (Ga e) pos) k:=iR (rR h) λ_ _ _ q=>q
def DK (i:Nat)(h:me X E e k)(hN:X.N.Nodup)(hi:X.N[i]?=Ga x:=by rfl)(hx:rE X.env.scope x:=by ac_rfl)
  (hs:swapsWith e (Ga (.Name x pos')) pos.line X.env=pure false:=by rfl) (hf:Sd X x:=by ac_rfl):mK X E (.Assign [.Name x pos'] e pos) k :=
 iR (pG hN hi hx h hs hf) λ_ _ _ q=>q
def zEG(h:me X E e k)(he:∀ whole,isTrue e X.env whole=(do let v <- whole;standAt e.pos;holding [v] (truthy v)):=by intro _;rfl):GK X E e k :=
 tJ (yY h he) λ_ _ _ q=>q
def zEH(h:GK X E e k):GK X E (.UnaryOp .Not e pos) k:=tJ (Em h) λ_ _ _ q=>q
def zEI{a b:Expr}{f:FV}(ho:gj X (compareOp op) r)(ha:PV X a f)(hb:me X E b k)(hm:behindInMarks op b=false:=by first|exact zH _ (by decide) (by decide)|rfl):me X E (.Compare a [op] [b] pos) (yu f k):=by
 refine fG (Bs ho ha hb hm) λσ H Q=>?_;rintro⟨H0,F,ψ,c,r,e,w⟩;have⟨d,e1,e2⟩:=dz e;exact⟨H0,F,ψ,d,r,e1,λv H' F' g f1 fh n rv=>⟨H0,F',ψ,c,r.grow g f1 fh n,e2,w⟩⟩
def lA (K:ja)(mg:Str->Option Gg)(fx:List D->Option Str):Sp:=λvs H _ E=>∃ F ds c,dA F H/\dM K F ds vs/\fx ds=Ga c/\Xw mg E c H
variable {k:Nat}
def nw {fx:List D->Option Str}(F:Fq X (fM X.prog X.w) k f fd ps (lA X.K X.mg fx))(hP:gU (fM X.prog X.w) X E)(hr:eP k X.A)(hm:X.mg x=Ga (.ref f))(hk:jR X.K (.ref f)=true)(hb:fS X.K fd ps [])(ha:PL X (e::es) g)(hg:Gl X x:=by rfl)
  (hdb:Nd x:=by decide) (he:Sa X e es:=by rfl) (hpl:Sc X pos es:=by rfl) :
  me X E (.Call (.Name x p) (e::es) [] pos) (iz g fx):=by
 refine fG (iV F hr hg hm hk hb .nil hP ha.pa hdb he hpl) λσ H Q=>?_;rintro⟨H0,F,ψ,c,r,e,w⟩;have⟨ds,e1,e2⟩:=dz e;exact⟨H0,F,ψ,ds,r,e1,λvs H1 F1 g1 f1 fh1 n1 rv=>⟨F1,ds,c,fh1,by rwa[jJ],e2,w.dn (r.h0.trans g1)⟩⟩
def pj{p:Prop}[Decidable p]{o:Option α}{c:α}(h:(if p then o else Gb)=Ga c):p/\o=Ga c:=Option.ite_none_right_eq_some.mp h
def lq (np n:Nat)(k:FX)(ds:List D):Option Str:=if ds.length=np then k (iQ n ds) else Gb
section
variable {P:Program}{w:World}{K:ja}{mg:Str->Option Gg}{base:Heap}{x qual:Str}{st:Stmt}{f:Gj}{fd:Gi}{N ps:List Str}{k:Nat}{kx:FX}
def oG {CX:mz}(F:le K x qual st f fd)(S:dD N ps (defScope st))
  (hb:He CX P w K mg base N qual st f k λX E=>my X E (defBody st) kx) :
  dJ P w K mg base CX (k+1) f fd ps (lA K mg (lq ps.length N.length kx)):=by
 obtain⟨oc,od,kV,doc,pm,an,cdv,ct,osl,rfl,lk,hcd⟩:=F.ex;refine rl lk hcd S (λvs H Q E h=>?_) λA outer s H vs Q E hr h=>?_
 .obtain⟨F0,ds,c,_,r,e,_⟩:=h;rw[<- r.length];exact(pj e).1
 .obtain⟨F0,ds,c,g0,r,e,w⟩:=h;exact⟨_,hb hr,H,F0,_,c,RS.start g0 r,(pj e).2,w⟩
def zC7{cn:Str}{bm:List Gg}{newId B initId:String}{np cpos:Pos}(O:OwnCls cn C bm newId mg base)(FB:ExcBaseFacts B newId initId bm)
  (hg:(defScope st).names.lookup cn=Ga .globalImplicit:=by rfl) (hdb:Nd cn:=by decide) :
  mK (fN (fM P w) P w K mg base N qual (defScope st) f cdv A outer s H E) E (.Raise (Ga (.Call (.Name cn np) [.Constant (.str msg) j spos] [] cpos)) Gb pos) (lI cn):=by
 intro ω s1 σ H1 D I h;obtain⟨H0,F,ψ,c,r,e,C',hm,hE⟩:=h;cases e;have:C'=C:=by
  have q:=hm.symm.trans O.bound;cases q;rfl
 subst this;exact Ij O FB I (hE H1 r.h0) hg hdb
end
open PySem PySem.Spec PyProof.Rows PySem.W PySem.Calls
section
variable {prog:Program}{w:World}{A:Around}{E:Gg->Gh->Prop}{s:Gh}{K:Frag}{x D:Gj}{ox:Obj}
variable {tk:Tok}
def zEJ{fill expr:Bool}{Q:Gg->Gh->Prop}(X:K.In s.heap)(I:InstAt s.heap x ox D Gb)(hga:findIn K (.ref D) "__getattribute__"=Ga (Ga (.builtin "BaseException.__getattribute__")))(hgn:findIn K (.ref D) "__getattr__"=Ga Gb)
  (hc:∀ R:Result->Gh->Prop,R (.ok (.ret (.ref D))) s->codeAny (model prog w) A (.call (.builtin "BaseException.__getattribute__") ⟨[.ref x,.str "__class__" tk],[]⟩) R s)
  (h:Q (.ref D) s):wpAny (model prog w) A (getAttrBy (.ref x) (.str "__class__" tk) fill expr) Q E s:=by
 obtain⟨hh,g,d,t,os⟩:=s;have L0:=I.type (M:=model prog w);have L1:=looks_findIn (M:=model prog w) X hga;have L2:=looks_findIn (M:=model prog w) X hgn;have hx0:(expr&&onTheHeap (uZ "BaseException.__getattribute__"))=false:=by cases expr<;>rfl
 have hx2:(uZ "BaseException.__getattribute__"==uZ "object.__getattribute__")=false:=by nofun
 have hx1:(onTheHeap (jH D)&&uZ "BaseException.__getattribute__"==uZ "object.__getattribute__")=false:=by rw[hx2];rfl
 have f3:=qF.ga.bind (.ref x);unfold getAttrBy
 repeat (any_goals (first|assumption|with_reducible refine Looks.at (by assumption) ?_|wp_step))
 all_goals (refine hc _ ?_)
 repeat (any_goals (first|assumption|wp_step))
def zyN{Q:Fin->Gh->Prop}(X:K.In s.heap)(I:InstAt s.heap x ox D Gb)(hcl:findIn K (.ref D) "__class__"=Ga (Ga (.builtin "object.__class__")))(hm:mroIn K D (.type "object")=Ga true)(h:Q (.done (.ret (.ref D))) s) :
  wpAny (model prog w) A (Builtin.«object.__getattribute__» ⟨[.ref x,.str "__class__" tk],[]⟩) Q E s:=by
 have L0:=I.type (M:=model prog w);have L1:=looks_findIn (M:=model prog w) X hcl;have CG:=λ(R:Result->Gh->Prop) (q:R (.ok (.ret (.ref D))) s)=>class_get (prog:=prog) (w:=w) (A:=A) (tp:=.ref D) X I hm q;have f5:typeOf (.builtin "object.__class__")=pure (.type "getset_descriptor"):=KF.type_class;have f6:=PySem.F.slot_gs_get.lookup;have f7:=PySem.F.slot_gs_set.lookup;obtain⟨hh,g,d,t,os⟩:=s
 repeat (any_goals (first|assumption|with_reducible refine Looks.at (by assumption) ?_|wp_step))
 all_goals (refine CG _ ?_)
 repeat (any_goals (first|assumption|wp_step))
def zyO(X:K.In s.heap)(I:InstAt s.heap x ox D Gb)(hb:subIn K (.ref D) (.type "BaseException")=Ga true)(h:Q () s) :
  wpAny (model prog w) A (checkBuiltinCall "BaseException.__getattribute__" ⟨[.ref x,.str "__class__" tk],[]⟩) Q E s:=by
 have L0:=I.type (M:=model prog w);have L1:=looks_subIn (M:=model prog w) X hb;have hk:builtinKind "BaseException.__getattribute__"=Ga .slot:=by nofun
 have hsplit:splitId "BaseException.__getattribute__"=Ga ("BaseException","__getattribute__"):=by nofun
 have ha:=PySem.F.args_bexc_ga (.ref x) (.str "__class__" tk);obtain⟨hh,g,d,t,os⟩:=s;simp only[checkBuiltinCall,hk,hsplit];refine dv ?_;unfold isInstance
 repeat (any_goals (first|assumption|with_reducible refine Looks.at (by assumption) ?_|wp_step))
def zA3(X:K.In s.heap)(I:InstAt s.heap x ox D Gb)(hb:subIn K (.ref D) (.type "BaseException")=Ga true)(hcl:findIn K (.ref D) "__class__"=Ga (Ga (.builtin "object.__class__")))(hm:mroIn K D (.type "object")=Ga true)(h:R (.ok (.ret (.ref D))) s) :
  codeAny (model prog w) A (.call (.builtin "BaseException.__getattribute__") ⟨[.ref x,.str "__class__" tk],[]⟩) R s :=
 codeAny_call_builtin qF.ga.plain PySem.F.entry_bexc_ga (zyO X I hb (zyN X I hcl hm h))
def YL {Q:Option Gg->Gh->Prop}(X:K.In s.heap)(I:InstAt s.heap x ox D Gb)(hga:findIn K (.ref D) "__getattribute__"=Ga (Ga (.builtin "BaseException.__getattribute__")))(hgn:findIn K (.ref D) "__getattr__"=Ga Gb)
  (hb:subIn K (.ref D) (.type "BaseException")=Ga true) (hcl:findIn K (.ref D) "__class__"=Ga (Ga (.builtin "object.__class__"))) (hm:mroIn K D (.type "object")=Ga true)
  (h:Q (Ga (.ref D)) { s with toks:=s.toks+1 }):wpAny (model prog w) A (getAttr? (.ref x) "__class__") Q E s:=by
 obtain⟨hh,g,d,t,os⟩:=s;unfold getAttr? getAttrBy?
 repeat (any_goals (first|assumption|(with_reducible refine zEJ (s:=⟨hh,g,d,t+1,os⟩) X I hga hgn (λR q=>zA3 (s:=⟨hh,g,d,t+1,os⟩) X I hb hcl hm q) ?_)|wp_step))
end
structure wj (K:Frag)(D:Gj):Prop where
 ga:findIn K (.ref D) "__getattribute__"=Ga (Ga (.builtin "BaseException.__getattribute__"))
 gn:findIn K (.ref D) "__getattr__"=Ga Gb
 sb:subIn K (.ref D) (.type "BaseException")=Ga true
 cl:findIn K (.ref D) "__class__"=Ga (Ga (.builtin "object.__class__"))
 mr:mroIn K D (.type "object")=Ga true
 ci:(clsIn K D).isSome=true
variable {ox:Obj}{E:Gg->Gh->Prop}{n B en:Str}{ψ:En}{Ba:Gj}{Bp hp:Pos}{body suite:List Stmt}{b₀:Stmt}{cs:List Str}{g:FS}{gs:Str->FS}{k:FX}{b:Bool}{vs:List V}
def Vq {K:Frag}{x D:Gj}(W:wj K D):KitX K (.ref x) (.ref D) (λh=>InstAt h x ox D Gb) where
 ty:=λ_ _ _ I=>I.type
 it:=λ_ _ X _=>by
  have hcD:=W.ci;unfold clsIn at hcD;split at hcD
  .rename_i c' d' cd' sl' ho;intro A' Q' E' s' k q;unfold isType loadHead;exact dv (wpAny_loadPart (k _ _ (X _ _ ho)) (dw q))
  .cases hcD
 ne:=λh tp dd its n sl X htp=>by
  have hcD:=W.ci;refine Bool.eq_false_iff.mpr λq=>?_;have e:D=tp:=Value.ref.inj (beq_iff_eq.mp q);subst e;unfold clsIn at hcD;split at hcD
  .rename_i c' d' cd' sl' ho;have z:=(X _ _ ho).symm.trans htp;cases z
  .cases hcD
 ca:=λX I k=>YL X I W.ga W.gn W.sb W.cl W.mr k
structure XS (X:Cx)(H:Hp)(s:Gh)(x C:Gj)(fl:Gg)(H':Hp)(s':Gh):Prop where
 os:s'.os=s.os
 bare:AllBare s'.gens
 un:Un (gE X.stack) [] H H' s.heap s'.heap
 hok:HOk X.prog X.w H' s'.heap
 ex:iU s.heap H' x (.ref C) fl s'.heap
def zi{o:Option α}{a:α}(e:o=Ga a):o≠Gb:=by rw[e];exact λz=>by cases z
def Pv(u:Un fs [] H H' h0 h)(k:Kx fs h0 H' h h'):Un fs [] H H' h0 h':=by
 refine⟨λb o e n hb hx=>?_,λb o e n hb hx=>?_,u.free,λb o e hx=>?_,u.tups,u.frzs,u.tbls⟩
 .obtain⟨sl,e2,q⟩:=k.1 b o (u.keep b o e n hb hx) (.inl (zi e));rw[zI (q hb)] at e2;exact e2
 .obtain⟨sl,e1⟩:=u.slot b o e n hb hx;have⟨sl2,e2,_⟩:=k.1 b _ e1 (.inl (zi e));exact⟨sl2,e2⟩
 .obtain⟨o1,e1⟩:=u.there b o e hx;have⟨sl2,e2,_⟩:=k.1 b _ e1 (.inl (zi e));exact⟨_,e2⟩
section
variable {X:Cx}{ω:List (Gj×Obj)}{σ:St}{H H':Hp}{s s':Gh}{x C:Gj}{fl fl':Gg}
def XS.inv (W:XS X H s x C fl H' s')(I:dE X ω σ H s):dE X ω σ H' s':=I.call' (ch:=[]) W.os W.un W.hok W.bare λb z=>absurd z (by simp)
def XS.kx (W:XS X H s x C fl H' s')(I:dE X ω σ H s)(k:Kx (gE X.stack) s.heap H' s'.heap h')(t:iU s.heap H' x (.ref C) fl' h'):XS X H s x C fl' H' { s' with heap:=h' }:=by
 have J:=W.inv I;refine⟨W.os,W.bare,Pv W.un k,λa o e=>?_,t⟩;have tr:∀ b u,H' b≠Gb->s'.heap.get? b=Ga u->h'.get? b=Ga u:=λb u hb e1=>by
  have⟨sl,e2,q⟩:=k.1 b u e1 (.inr (.inl hb));rw[zI (q λz=>hb (J.stkFree b z))] at e2;exact e2
 exact(W.hok a o e).stay (λb u hb e1=>tr b u (by
  rcases hb with rfl|hb
  .exact zi e
  .exact zi hb) e1) (λb z=>z) λb xs z=>z
def XS.lt (W:XS X H s x C fl H' s'):∀ b o,s.heap.get? b=Ga o->b<s'.heap.objs.size:=λb o e=>by
 obtain⟨o',e'⟩:=W.un.there b o e (by simp);exact jg e'
def Rr(I:dE X ω σ H s)(hA:A.frames=Ga X.stack)(hs:X.stack=X.env::X.outer/\X.env.frame=Ga X.env.locals)(W:XS X H s x C .none H' s')
  (h:∀ s2,XS X H s x C .none H' s2->Q () s2):wpAny M A (noteFrame (.ref x) X.env) (λ_ s2=>wpAny M A (setFlight (.ref x) Gb) Q E s2) E s':=by
 have J:=W.inv I;have st:=J.stack;rw[hs.1] at st;rw[hs.1] at hA;refine Fx (h0:=s.heap) (H:=H') hA st hs.2 W.ex W.lt (λb q=>?_) λh1 t1 k1 _=>?_
 .cases z:H' b with
  | none=>exact absurd z q
  | some o=>exact J.hok.lt z
 .rw[<- hs.1] at k1;have W1:=W.kx I k1 t1;exact xg t1 λh2 t2 k2 _=>h _ (W1.kx I (k2 _) t2)
def XS.frz (W:XS X H s x C fl H' s'):∃ o,s'.heap.get? x=Ga o/\o.cls=.ref C/\o.dict=Gb/\vJ o=true/\H' x=Gb/\Un (gE X.stack) [] H (upd H' x (.frz o (.own x))) s.heap s'.heap/\HOk X.prog X.w (upd H' x (.frz o (.own x))) s'.heap:=by
 have⟨n0,nH,oe,vs,T,oT,ts,he,⟨hc,hdn⟩,hd,h1,hT,eT,dT,h3,m0,mH⟩:=W.ex;have nn:∀ {b u},H' b=Ga u->b≠x:=λ{b u} e z=>by subst z;rw[nH] at e;cases e
 refine⟨oe,he,hc,hdn,by unfold vJ;rw[hd],nH,⟨W.un.keep,W.un.slot,λb o e n hx=>?_,W.un.there,λb xs e=>?_,λb o u e=>?_,λb ps e=>?_⟩,λa o e=>?_⟩
 .rw[dG (λz=>by subst z;rw[n0] at e;cases e)];exact W.un.free b o e n hx
 .rw[dG (nn (W.un.tups b xs e))];exact W.un.tups b xs e
 .rw[dG (nn (W.un.frzs b o u e))];exact W.un.frzs b o u e
 .obtain⟨m,q⟩:=W.un.tbls b ps e;exact⟨m,by rwa[dG (nn q)]⟩
 .by_cases z:a=x
  .subst z;rw[dH] at e;cases e;exact⟨he,⟨_,he⟩⟩
  .rw[dG z] at e;exact(W.hok a o e).stay (λ_ _ _ q=>q) (λb q=>by rwa[dG (nn q)]) λb xs q=>by rwa[dG (nn q)]
end
def Wx (X:Cx)(ω:List (Gj×Obj))(σ:St)(H:Hp)(c:Str)(Ξ:Gg->Gh->Prop):Prop :=
 (∃ C,X.mg c=Ga (.ref C))/\∀ C s1 H1 x H' s',X.mg c=Ga (.ref C)->dE X ω σ H1 s1->XS X H1 s1 x C .none H' s'->dA H H'->Ξ (.ref x) s'
def Mb (X:Cx)(m:Sem α)(k:FX):Prop:=∀ (ω:List (Gj×Obj)) (s:Gh) (σ:St) (H H0 F:Hp) (ψ:En) (c:Str) (Ξ:Gg->Gh->Prop) (Q:α->Gh->Prop),
 dE X ω σ H s->RS X.K H0 F H ψ σ->k ψ=Ga c->Wx X ω σ H c Ξ->wX X m Q Ξ s
abbrev PM (X:Cx)(e:Expr)(k:FX):Prop:=Mb X (eval e X.env) k
abbrev Ta (X:Cx)(st:Stmt)(k:FX):Prop:=Mb X (exec st X.env) k
abbrev EM (X:Cx)(st:List Stmt)(k:FX):Prop:=Mb X (execs st X.env) k
def zEL {kx:FX}(h:PM X e kx)(hs:swapsWith e Gb pos.line X.env=pure false:=by rfl):Ta X (.Expr e pos) kx :=
 λω s σ H H0 F ψ c Ξ Q I r e w=>wpAny_Expr_any (wpAny_mono (h ω s σ H H0 F ψ c Ξ (λ_ _=>False) I r e w) (λ_ _ z=>z.elim) λ_ _ z=>z) I.quiet hs
def ZF {kx:FX}(h:Ta X st kx):EM X [st] kx :=
 λω s σ H H0 F ψ c Ξ Q I r e w=>wpAny_execs_cons (wpAny_mono (h ω s σ H H0 F ψ c Ξ (λ_ _=>False) I r e w) (λ_ _ z=>z.elim) λ_ _ z=>z)
abbrev Cx.inX (X:Cx)(v:Gg):Cx:={ X with A:=X.A.mark (Ga v),calm:=false }
def Ah (I:dE X ω σ H s)(v:Gg):dE (Cx.inX X v) ω σ H s :=
 ⟨⟨I.ok.mod,I.ok.kind,I.ok.glob,I.ok.blt,I.ok.above,I.ok.inj,I.ok.has,I.ok.cab,λz=>(by cases z),I.ok.frames,I.ok.stk,I.ok.exf,I.ok.bs,I.ok.bsz,I.ok.noex,I.ok.exfs,I.ok.funs,I.ok.frf⟩,I.os,I.bare,I.base,I.loc,I.cell,I.free,I.freeC,I.pin,I.hok,I.len⟩
def IQ (ok:X.Ok)(I:dE (Cx.inX X v) ω σ H s):dE X ω σ H s:=⟨ok,I.os,I.bare,I.base,I.loc,I.cell,I.free,I.freeC,I.pin,I.hok,I.len⟩
def zC8(I:dE X ω σ H s)(hN:X.N.Nodup)(hi:X.N[i]?=Ga n)(hl:X.env.scope.names.lookup n=Ga .local)
  (h:∀ s2,dE X ω (σ.set i Gb) H s2->Q () s2):wpAny M A (do bindName X.env n .none;unbindBehindTheSuite X.env n pos) Q E s:=by
 have⟨m,hn,hlo⟩:=id I.loc;have hcls:(X.env.scope.kind==.class||(X.env.scope.kind==.module&&X.env.locals !=X.env.globals))=false:=by rw[I.ok.kind];rfl
 refine wpAny_nameGoes_keeps hl hn hcls λh' v hn' hs=>h _ ?_;have neS:∀ b o,X.s₀.heap.get? b=Ga o->b≠X.env.locals:=λb o e=>jB (jf (jg e) I.ok.above);refine⟨I.ok,I.os,I.bare,⟨λb o e n hb hx=>(hs.2 b (neS b o e)).trans (I.base.keep b o e n hb hx),λb o e n hb hx=>?_,I.base.free,λb o e hx=>?_,I.base.tups,I.base.frzs,I.base.tbls⟩,⟨_,hn',λj y v' e1 e2 e3=>?_⟩,λy c e=>?_,I.free,I.freeC,λp hp=>?_,λb ob e=>?_,by simpa using I.len⟩
 .obtain⟨sl,q⟩:=I.base.slot b o e n hb hx;exact⟨sl,(hs.2 b (neS b o e)).trans q⟩
 .obtain⟨o',q⟩:=I.base.there b o e hx;exact⟨o',(hs.2 b (neS b o e)).trans q⟩
 .by_cases hj:j=i
  .subst hj;have:j<σ.length:=by rw[I.len];exact(je.mp hi).1
   rw[jx this] at e2;cases e2
  .rw[jq (kW hj)] at e2;have⟨u',r',q⟩:=hlo j y v' e1 e2 e3;refine⟨u',r',?_⟩;have hy:y≠n:=λz=>hj (wn hN e1 (z▸hi));rcases q with ⟨k,e⟩|⟨k,c,e,z⟩
   .exact .inl ⟨k,(Gf hy).trans e⟩
   .exact .inr ⟨k,c,e,z.sameBut hs (I.cne y c e)⟩
 .obtain⟨w',z⟩:=I.cell y c e;exact⟨w',z.sameBut hs (I.cne y c e)⟩
 .obtain⟨e,n,ne,nf,d⟩:=I.pin p hp;exact⟨(hs.2 p.1 ne).trans e,n,ne,nf,d⟩
 .refine(I.hok b ob e).stay (λc w' hc q=>(hs.2 c ?_).trans q) (λ_ q=>q) λ_ _ q=>q;rintro rfl;rcases hc with rfl|hc
  .rw[I.free] at e;cases e
  .rw[I.free] at hc;cases hc
def RS.gone(r:RS K H0 F H ψ σ)(i:Nat):RS K H0 F H (ψ.set i .no) (σ.set i Gb):=by
 have look:∀ (j:Nat) (s:Sl),(ψ.set i .no)[j]?=Ga s->(j=i/\s=.no)\/(j≠i/\ψ[j]?=Ga s):=λj s e=>by
  by_cases h:i=j
  .subst h;rw[Jy] at e;rw[Ge rfl] at e;split at e
   .cases e;exact .inl ⟨rfl,rfl⟩
   .cases e
  .rw[jq h] at e;exact .inr ⟨λz=>h z.symm,e⟩
 refine⟨r.h0,r.fh,λj s e=>?_,λj k a s t o1 o2 e1 e2 e3 e4=>?_⟩
 .rcases look j s e with ⟨rfl,rfl⟩|⟨nj,e⟩
  .have l:j<ψ.length:=by
    rw[Jy] at e;rw[Ge rfl] at e;split at e
    .assumption
    .cases e
   have⟨u,z,_⟩:=r.sl j ψ[j] (jn l);have l2:j<σ.length:=(je.mp z).1;exact⟨Gb,jx l2,trivial⟩
  .obtain⟨u,z,q⟩:=r.sl j s e;exact⟨u,by rwa[jq (λz=>nj z.symm)],q⟩
 .rcases look j s e1 with ⟨rfl,rfl⟩|⟨nj,e1⟩
  .cases o1
  rcases look k t e2 with ⟨rfl,rfl⟩|⟨nk,e2⟩
  .cases o2
  rw[jq (λz=>nj z.symm)] at e3;rw[jq (λz=>nk z.symm)] at e4;exact r.ap j k a s t o1 o2 e1 e2 e3 e4
def yB (mg:Str->Option Gg)(c:Str):dZ where
 C:=λf _ H=>∃ o C,H f=Ga (.frz o (.own f))/\mg c=Ga (.ref C)/\o.cls=.ref C/\o.dict=Gb/\vJ o=true
 mono:=λf F F' H H' s z ⟨o,C,h1,h2⟩=>⟨o,C,z _ _ h1,h2⟩
def Mx{x B:Gj}{Q:Bool->Gh->Prop}(X:K.In s.heap)(I:JV s.heap x ox C Gb)(hB:kJ K (.ref C) (.ref B)=Ga true)(hbB:u5 K (.ref B) (.type "BaseException")=Ga true)
  (h:Q true s):wpAny (model prog w) A (excMatches (.ref x) (.ref B)) Q E s:=by
 have⟨t1,t2,t3⟩:=PySem.W.kit_cls (M:=model prog w) X hB;have L0:=I.type (M:=model prog w);have L4:=PySem.W.looks_subIn (M:=model prog w) X hbB;have f:=tc_notTuple;obtain⟨hh,g,d,t,os⟩:=s;unfold excMatches
 repeat (any_goals (first|assumption|with_reducible refine PySem.W.Looks.at (by assumption) ?_|wp_step))
open Classical in
noncomputable def Af (g:FS)(k:FX)(cs:List Str)(i:Nat)(mk:Str->dZ)(gs:Str->FS):FS:=λψ=>match k ψ with
 | some c=>if c∈cs then(gs c (ψ.set i (.fn (mk c)))).bind λo=>match o with
  | .nx e=>Ga (.nx (e.set i .no))
  | _=>Gb
  else Gb
 | none=>g ψ
def zG0 (hxe:∀ e s,¬X.xe e s)(hst:X.stack=X.env::X.outer/\X.env.frame=Ga X.env.locals)(hb:fT X body g)(hw:EM X body k)(hB:X.mg B=Ga (.ref Ba))(hbB:u5 X.K (.ref Ba) (.type "BaseException")=Ga true)
  (hcl:∀ c∈cs,∃ C,X.mg c=Ga (.ref C)/\kJ X.K (.ref C) (.ref Ba)=Ga true) (hs:∀ c∈cs,∀ v,fT (Cx.inX X v) (b₀::suite) (gs c)) (hN:X.N.Nodup) (hi:X.N[i]?=Ga n:=by rfl) (hl:X.env.scope.names.lookup n=Ga .local:=by rfl) (hg:Gl X B:=by rfl)
  (hdb:Nd B:=by decide):im X (.Try body [.ExceptHandler (Ga (.Name B Bp)) (Ga n) (b₀::suite) hp] [] [] pos) (Af g k cs i (yB X.mg) gs):=by
 intro ω s σ H D I h;obtain⟨H0,F,ψ,o,r,e,p⟩:=h;refine wpAny_Try_except ?_;unfold Af at e;cases hk:k ψ with
 | none =>
  rw[hk] at e;refine wpAny_mono (hb ω s σ H D I ⟨H0,F,ψ,o,r,e,p⟩) (λf s1 q=>?_) λe s z=>(hxe e s z).elim;cases f with
  | next=>exact wpAny_execs_nil q
  | brk=>exact q
  | cont=>exact q
  | ret u=>exact q
 | some c =>
  rw[hk] at e;dsimp only at e;split at e;rotate_left
  .cases e
  rename_i hc;have⟨o1,e1,e2⟩:=dz e;cases o1 with
  | nx env1 =>
   cases e2;have⟨C,hC,hkit⟩:=hcl c hc;refine hw ω s σ H H0 F ψ c _ _ I r hk ⟨⟨C,hC⟩,λC' s1 H1 x H' s' hm I1 W1 g1=>?_⟩;obtain rfl:C'=C:=by
    have q:=hm.symm.trans hC;cases q;rfl
   refine Rr I1 I1.ok.frames hst W1 λs2 W2=>?_;have J2:=W2.inv I1;refine wpAny_handleBy_cons (codeAny_handlers_test ?_) (by intro q;cases q);refine gK (X:=Cx.inX X (.ref x)) (Ah J2 _) hg hB ?_ hdb;have⟨ox,hx1,hx2,hx3,hx4,hx5,hx6⟩:=W2.frz;refine Mx J2.kIn ⟨hx1,hx2,hx4,by rw[hx3];trivial⟩ hkit hbB ?_;rw[Ge rfl];refine codeAny_handlers_suite_as ?_;refine xg W2.ex λh3 t3 k3 _=>?_;have W3:=W2.kx I1 (k3 _) t3;have⟨oe,y1,y2,y3,y4,y5,y6,y7⟩:=W3.frz;have J4:dE X ω σ (upd H' x (.frz oe (.own x))) { s2 with heap:=h3 }:=I1.call' (ch:=[]) W3.os y6 y7 W3.bare λb z=>absurd z (by simp);have g4:dA H (upd H' x (.frz oe (.own x))):=g1.trans (dA.new y5);have hiσ:i<σ.length:=by rw[I.len];exact(je.mp hi).1
   refine wg (X:=Cx.inX X (.ref x)) (v:=.ref x) (Ah J4 _) hN hi (.inl hl) rfl (λs5 J5=>?_) (.inr hl);have r5:RS X.K H0 F (upd H' x (.frz oe (.own x))) (ψ.set i (.fn (yB X.mg c))) (σ.set i (Ga (.ref x))):=by
    refine(r.later g4).putG hiσ ⟨x,rfl,oe,_,dH,hC,y2,y3,y4⟩ λj s os nj ej z=>?_;have q:=(r.later g4).sl j s ej;obtain⟨u,e3,q⟩:=q;rw[z] at e3;cases e3;cases s with
    | no=>cases os
    | val d=>cases os
    | tab P=>cases os
    | fn c=>cases os
    | dks kvs =>
     obtain⟨a,ws,e4,e5,_⟩:=q;cases e4;rw[dH] at e5;cases e5
    | dsk _ _ _ _=>cases os
    | own ds =>
     obtain⟨a,xs,e4,e5,_⟩:=q;cases e4;rw[dH] at e5;cases e5
    | dic ks =>
     obtain⟨a,as,ep,e4,e5,_⟩:=q;cases e4;rw[dH] at e5;cases e5
   refine wpAny_mono (hs c hc (.ref x) ω s5 _ _ { nx:=λσ' H'=>D.nx (σ'.set i Gb) H',bk:=λ_ _=>False,ct:=λ_ _=>False,rt:=λ_ _=>False } J5 ⟨H0,F,_,_,r5,e1,λσ' H2 F2 f2 n2 r2=>p _ H2 F2 f2 n2 (r2.gone i)⟩) (λf s6 q=>?_) λe s z=>(hxe e s z).elim;cases f with
   | next =>
    obtain⟨σ',H2,J,q⟩:=q;exact zC8 (IQ I.ok J) hN hi hl λs7 J7=>⟨_,H2,J7,q⟩
   | brk=>obtain⟨_,_,_,z⟩:=q;exact z.elim
   | cont=>obtain⟨_,_,_,z⟩:=q;exact z.elim
   | ret u=>obtain⟨_,_,_,_,_,z⟩:=q;exact z.elim
  | rt d=>cases e2
  | ro d=>cases e2
  | rc a d=>cases e2
  | bk d=>cases e2
  | ct d=>cases e2
open Classical in
noncomputable def mY (i:Nat)(fc:dZ)(b:Bool):FV:=λψ=>if ψ[i]?=Ga (.fn fc) then Ga (.bool b) else Gb
def PY{fc:dZ}(h:mY i fc b ψ=Ga d):ψ[i]?=Ga (.fn fc)/\d=.bool b:=by
 unfold mY at h;split at h
 .rename_i e;cases h;exact⟨e,rfl⟩
 .cases h
def Gn (vs:List V):TA:=λ_ H Q=>Q vs H
def zEM:PA X [] (Gn []):=Fy fY λ_ _ _ q=>q
variable {v:V}
def Uo(h:PE X e (tC v))(hr:PA X es (Gn vs))(hs:Sa X e es:=by rfl):PA X (e::es) (Gn (v::vs)) :=
 Fy (eY h hr hs) λ_ _ _ q=>q
def zyR:gk X (.builtin "isinstance") (λxs H Q=>∃ f o C v b,xs=[.ref f,v]/\H f=Ga (.frz o (.own f))/\o.cls=.ref C/\o.dict=Gb/\vJ o=true/\wj X.K C/\(∀ u,eL v u->jy X.K (.ref C) u=Ga b)/\Q (.bl b) H):=by
 intro ω s σ H xs us Q I r h;obtain⟨f,o,C,v,b,rfl,hf,h1,h2,h3,W,hk,q⟩:=h;obtain⟨u,w',rfl,r1,r2⟩:=yJ r;cases r1;have hx:=(I.hok f _ hf).1;exact JO (Vq (ox:=o) W) I.kIn ⟨hx,h1,h3,by rw[h2];trivial⟩ (hk _ r2) (λz=>by cases z) λtk=>⟨.bl _,H,I.tok tk,rfl,q⟩
def AQ (i:Nat){pe:Pos}(hg:Gl X "isinstance")(hm:X.mg "isinstance"=Gb)(hC:X.mg c=Ga (.ref C))(W:wj X.K C)(hk:∀ u,eL v u->jy X.K (.ref C) u=Ga b)(hB:PE X (.Name x p2) (tC v))
  (hN:X.N[i]?=Ga en:=by rfl) (hv:lK X.env.scope en:=by ac_rfl) (hd:Nd en:=by decide) (hcd:(en==("__classdict__":Str))=false:=by decide)
  (hs:starEach [.Name en pe,.Name x p2] X.env=(false,eval (.Name en pe) X.env)::starEach [.Name x p2] X.env:=by rfl) (hs2:starEach [.Name x p2] X.env=[(false,eval (.Name x p2) X.env)]:=by rfl) :
  PV X (.Call (.Name "isinstance" p) [.Name en pe,.Name x p2] [] pos) (mY i (yB X.mg c) b):=by
 refine fG (oa zyR hg hm boot_isinstance (eY (gz hN hv hd hcd) (eY hB fY hs2) hs) (by decide) (by decide) hs (by unfold Sc;rw[hs2];rfl)) λσ H Q=>?_;rintro⟨H0,F,ψ,d,r,e,q⟩;obtain⟨e1,rfl⟩:=PY e;obtain⟨u,e2,f,rfl,o,C',h1,h2,h3,h4,h5⟩:=r.sl i _ e1;obtain rfl:C'=C:=by
  have z:=h2.symm.trans hC;cases z;rfl
 exact⟨.ref f,e2,f,o,_,v,b,rfl,h1,h3,h4,h5,W,hk,q _ H F (.refl _) (.refl _) r.fh (.refl _ _) (.bl _)⟩
def zwL:gk X (.builtin "isinstance") (λxs H Q=>∃ f o C vs p b,xs=[.ref f,.ref p]/\H f=Ga (.frz o (.own f))/\o.cls=.ref C/\o.dict=Gb/\vJ o=true/\wj X.K C/\H p=Ga (.tup vs)/\(∀ us,eC vs us->uD X.K (.ref C) us=Ga b)/\Q (.bl b) H):=by
 intro ω s σ H xs us Q I r h;obtain⟨f,o,C,vs,p,b,rfl,hf,h1,h2,h3,W,hp,hk,q⟩:=h;obtain⟨u,w',rfl,r1,r2⟩:=yJ r;cases r1;cases r2;have hx:=(I.hok f _ hf).1;have⟨its,rv,⟨⟨oc,od,oda,osl⟩,e,c,n,dd⟩,_⟩:=I.tuple (hU.of hp);simp only at c dd;subst c dd;exact PySem.W.kia_tup (Vq (ox:=o) W) I.kIn ⟨hx,h1,h3,by rw[h2];trivial⟩ e (hk _ rv) (λz=>by cases z) λtk=>⟨.bl _,H,I.tok tk,rfl,q⟩
def zC9 (i:Nat){pe p4:Pos}{x1}(hg:Gl X "isinstance")(hm:X.mg "isinstance"=Gb)(hC:X.mg c=Ga (.ref C))(W:wj X.K C)(hk:∀ us,eC vs us->uD X.K (.ref C) us=Ga b)(hB:PA X es (Gn vs))(hz:vs.length<=1000)
  (hN:X.N[i]?=Ga en:=by rfl) (hv:lK X.env.scope en:=by ac_rfl) (hd:Nd en:=by decide) (hcd:(en==("__classdict__":Str))=false:=by decide)
  (hs:starEach [.Name en pe,.Tuple es x1 p4] X.env=(false,eval (.Name en pe) X.env)::starEach [.Tuple es x1 p4] X.env:=by rfl) (hs2:starEach [.Tuple es x1 p4] X.env=[(false,eval (.Tuple es x1 p4) X.env)]:=by rfl) :
  PV X (.Call (.Name "isinstance" p) [.Name en pe,.Tuple es x1 p4] [] pos) (mY i (yB X.mg c) b):=by
 refine fG (oa zwL hg hm boot_isinstance (eY (gz hN hv hd hcd) (eY (Eu hB) fY hs2) hs) (by decide) (by decide) hs (by unfold Sc;rw[hs2];rfl)) λσ H Q=>?_;rintro⟨H0,F,ψ,d,r,e,q⟩;obtain⟨e1,rfl⟩:=PY e;obtain⟨u,e2,f,rfl,o,C',h1,h2,h3,h4,h5⟩:=r.sl i _ e1;obtain rfl:C'=C:=by
  have z:=h2.symm.trans hC;cases z;rfl
 refine⟨.ref f,e2,(show vs.length<=sizeLine by rw[sizeLine_eq];omega),λl hl=>?_⟩;have s2:dA H (upd H l (.tup vs)):=dA.new hl;exact⟨f,o,_,vs,l,b,rfl,(dG (λz=>by subst z;rw[hl] at h1;cases h1)).trans h1,h3,h4,h5,W,dH,hk,q _ _ F s2 (.refl _) (r.fh.trans s2) (.refl _ _) (.bl _)⟩
def yD (l:List (Str×FS))(c:Str):FS:=(l.lookup c).getD λ_=>Gb
def zDa{st:List Stmt}:∀ c∈(([]:List (Str×FS)).map (·.1)),∀ v,fT (Cx.inX X v) st (yD [] c):=λc h=>by cases h
def DP{st:List Stmt}{l:List (Str×FS)}(h:∀ v,fT (Cx.inX X v) st g)(hr:∀ c∈l.map (·.1),∀ v,fT (Cx.inX X v) st (yD l c)):∀ c'∈((c,g)::l).map (·.1),∀ v,fT (Cx.inX X v) st (yD ((c,g)::l) c'):=λc' hc v=>by
 by_cases e:c'=c
 .subst e;unfold yD;rw[kg,beq_self_eq_true];exact h v
 .have hc':c'∈l.map (·.1):=by
   rcases jz.mp hc with z|z
   .exact absurd z e
   .exact z
  have q:=hr c' hc' v;unfold yD at q ⊢;rwa[kg,show(c'==c)=false from beq_eq_false_iff_ne.mpr e]
def CC (e:DictEntry):Bool:=match e.key with
 | .str _ _=>true
 | _=>false
variable {es:Array DictEntry}
def strK(h:es.toList.all CC=true):StrKeys es:=λe he=>by
 have q:=k6.mp h e (Array.mem_def.mp he);unfold CC at q;split at q
 .rename_i n t z;exact⟨n,t,z⟩
 .cases q
abbrev VE:List Gg:=[.type "ValueError",.type "Exception",.type "BaseException",.type "object"]
structure ClsF (K:ja)(c:Str)(C:Gj):Prop where
 ek:wj K C
 own:∀ (mg:Str->Option Gg) (base:Heap),K.In base->mg c=Ga (.ref C)->OwnCls c C VE "ValueError.__new__" mg base
structure rm (K:ja)(mg:Str->Option Gg)(c:Str)(C:Gj):Prop where
 m:mg c=Ga (.ref C)
 f:ClsF K c C
structure Fa (K:ja)(mg:Str->Option Gg)(c:Str)(C:Gj):Prop where
 m:mg c=Ga (.ref C)
def DW(h:∃ C,X.mg c=Ga (.ref C)/\kJ X.K (.ref C) (.ref Ba)=Ga true)(hr:∀ c∈cs,∃ C,X.mg c=Ga (.ref C)/\kJ X.K (.ref C) (.ref Ba)=Ga true) :
  ∀ c'∈c::cs,∃ C,X.mg c'=Ga (.ref C)/\kJ X.K (.ref C) (.ref Ba)=Ga true:=λc' hc=>by
 rcases jz.mp hc with rfl|z
 .exact h
 .exact hr c' z
def zyS{us:List Gg}(r:eC (as.map V.ref) us):us=as.map jH:=by
 induction as generalizing us with
 | nil=>cases r;rfl
 | cons a as ih =>
  cases r with
  | cons q r=>cases q;rw[ih r];rfl
def Mh{N:Gj}{c:Gg}{d:Option Gj}(X:K.In h)(e:K.lookup N=Ga ⟨c,d,.dict es ep,sl⟩)(k:StrKeys es):h.Ns N (λn=>nsFind es n):=⟨_,es,ep,X _ _ e,rfl,k,λ_=>rfl⟩
def zyT{nm:Str}{N A:Gj}{bs sub:List Gg}{hdct ab:Bool}{sn:List Str}{col:Option Bool}{dd:Option Gj}{k0 k1 k2 k3 k5:Option Gg}{c1 c2 c3:Gg}{d1 d2 d3:Option Gj}{es1 es2:Array DictEntry}{ep1 ep2:Nat}{sl1 sl2 sl3:Array (Option Gg)}{cd:ClassData}
  (h1:K.lookup C=Ga (excClassObj nm q C N bs (.ref A::VE) hdct sn sub ab col dd k0 k1 k2 k3 k5 "ValueError.__new__")) (h2:K.lookup N=Ga ⟨c1,d1,.dict es1 ep1,sl1⟩) (s2:StrKeys es1) (i2:nsFind es1 "__init__"=Gb)
  (h3:K.lookup A=Ga { cls:=c3,dict:=d3,data:=.cls cd,slots:=sl3 }) (h4:K.lookup cd.ns=Ga ⟨c2,d2,.dict es2 ep2,sl2⟩) (s4:StrKeys es2) (i4:nsFind es2 "__init__"=Gb) (E:wj K C):ClsF K c C :=
 ⟨E,λmg base X m=>⟨m,_,_,_,_,_,_,_,_,_,_,_,_,_,_,_,_,_,X _ _ h1,Mh X h2 s2,i2,.own (X _ _ h3) (Mh X h4 s4) i4 .base⟩⟩
def so{E:XK}{cn:Str}{np cpos:Pos}(T:rm K mg cn C)
  (hg:(defScope st).names.lookup cn=Ga .globalImplicit:=by rfl) (hdb:Nd cn:=by decide) :
  mK (fN (fM P w) P w K mg base N qual (defScope st) f cdv A outer s H E) E (.Raise (Ga (.Call (.Name cn np) [.Constant (.str msg) j spos] [] cpos)) Gb pos) (lI cn) :=
 λω s1 σ H1 D I h=>zC7 (T.f.own mg base I.ok.mod.kin T.m) uh hg hdb ω s1 σ H1 D I h
end T3
namespace HT
open PySem PySem.Spec PyProof.Rows
variable {A:Around}{E:Gg->Gh->Prop}{prog:Program}{s:Gh}{w:World}
def whole_t {t sl:Gj}{items:Array Gg}{vl vu:Gg}{lo hi:Option Int}{Q:Gg->Gh->Prop}(ht:IsTup s.heap t items)(hs:s.heap.IsSliceOf sl vl vu .none)(pl:IsPart vl lo)(pu:IsPart vu hi)
  (h0:sIx items.size 0 lo=0) (h1:sIx items.size items.size hi=items.size) (h:Q (.ref t) s):wpAny (model prog w) A (getItem (.ref t) (.ref sl)) Q E s:=by
 have⟨os,hos,hcs,hds⟩:=id hs;have hTs:s.TypeIs (.ref sl) "slice":=⟨os,hos,hcs⟩;unfold getItem
 try with_reducible refine wpAny_holding ?_
 first|refine dv (dw ?_)|skip
 refine dv (wpAny_sequenceKey ht.typeIs (by decide) ?_);refine dv (wpAny_callSpecial?_slot (name:=jv "__getitem__") ht.typeIs PyProof.Rows.slot_tuple_getitem
  (wpAny_call_entry PyProof.Rows.slot_tuple_getitem ht.typeIs entry_tuple_getitem ?_ (args_tuple_getitem _ _)))
 show wpAny _ _ (vd (.ref t) >>= _) _ _ s;refine dv (tupleItemsOf_ ht ?_);refine dv (wpAny_typeOf hTs ?_);rw[Ge (by decide)];refine dv (nR hs pl pu ?_);rw[h0,h1];have hyes:((((0:Nat):Int)==0&&(1:Int)==1&&(items.size-0)==items.size)=true):=by simp
 show wpAny _ _ (if (((0:Nat):Int)==0&&(1:Int)==1&&(items.size-0)==items.size)=true then _ else _) _ _ s;rw[Ge hyes];refine dv (dv (wpAny_typeOf ht.typeIs (dw ?_)));rw[Ge (by decide)];refine dv (wpAny_rule (dw ⟨_,rfl,dw h⟩))
end HT
namespace T3
open PySem PySem.Spec PyProof.Rows L2
def BF:D->Option Int->Option Int->Option D
 | .list xs,lo,hi=>Ga (.list (cutD xs lo hi))
 | .tuple xs,lo,hi=>Ga (.tuple (cutD xs lo hi))
 | _,_,_=>Gb
def LR (f:FV)(g h:FP):FV:=λψ=>(f ψ).bind λx=>(g ψ).bind λl=>(h ψ).bind λu=>BF x l u
def Xi (K:ja):V->Option Int->Option Int->Hp->VK->Prop:=λx lo hi H Q=>∃ a xs,x=.ref a/\hU K H a xs/\HT.sIx xs.length 0 lo=0/\HT.sIx xs.length xs.length hi=xs.length/\Q (.ref a) H
variable {X:Cx}{p2 pos:Pos}
def zDb:wJ X (Xi X.K):=by
 intro ω s σ H x v vl vu lo hi sl Q I rx hs pl pu h;obtain⟨a,xs,rfl,hx,h0,h1,q⟩:=h;cases rx;have⟨its,r,ht,hz⟩:=I.tuple hx;have hlen:its.toArray.size=xs.length:=by rw[ji];exact r.length.symm
 refine⟨"tuple",_,PyProof.Rows.slot_tuple_getitem.lookup,ht.typeIs,?_⟩;exact HT.whole_t ht hs pl pu (by rwa[hlen]) (by rwa[hlen]) ⟨.ref a,H,I,rfl,q⟩
def zA4 {xs:List D}{lo hi:Option Int}(h0:HT.sIx xs.length 0 lo=0)(h1:HT.sIx xs.length xs.length hi=xs.length):cutD xs lo hi=xs:=by
 unfold cutD;rw[h0,h1,qk,Nat.sub_zero];exact vK (jw _)
def Gq {a:Expr}{lo hi:Option Expr}{f:FV}{g h:FP}(ha:PV X a f)(hl:BC X lo g)(hh:BC X hi h):PV X (.Subscript a (.Slice lo hi Gb p2) pos) (LR f g h):=by
 refine fG (yP ((Bu.or Dw).or zDb) ha hl hh) λσ H Q=>?_;rintro⟨H0,F,ψ,d,r,e,q⟩;have⟨x,e1,e4⟩:=dz e;have⟨l,e2,e5⟩:=dz e4;have⟨u,e3,e6⟩:=dz e5;clear e e4 e5;refine⟨H0,F,ψ,x,r,e1,λv H1 F1 g1 f1 fh1 n1 rv=>⟨H0,F1,ψ,l,r.grow g1 f1 fh1 n1,e2,λH2 F2 g2 f2 fh2 n2=>⟨H0,F2,ψ,u,(r.grow g1 f1 fh1 n1).grow g2 f2 fh2 n2,e3,λH3 F3 g3 f3 fh3 n3=>?_⟩⟩⟩;have rv3:=rv.mono (f2.trans f3);cases rv3<;>first|(cases e6;done)|skip
 case lst a xs ds h1 h2 =>
  cases e6;refine jS (jS ⟨a,xs,rfl,fh3.seq h1,λp hp=>?_⟩);have⟨s1,s2,s3,s4⟩:=pW (o:=.lst (nh xs l u)) fh3 hp;exact q _ _ _ (((g1.trans g2).trans g3).trans s1) (((f1.trans f2).trans f3).trans s2) s3 (((n1.trans n2 g1).trans n3 (g1.trans g2)).trans s4 ((g1.trans g2).trans g3)) (.lst (fQ.of dH) ((h2.cut l u).mono s2))
 case tup a xs ds h1 h2 =>
  cases e6;by_cases hw:HT.sIx xs.length 0 l=0/\HT.sIx xs.length xs.length u=xs.length
  .refine jK ⟨a,xs,rfl,iu fh3 h1,hw.1,hw.2,?_⟩;refine q _ _ _ ((g1.trans g2).trans g3) ((f1.trans f2).trans f3) fh3 ((n1.trans n2 g1).trans n3 (g1.trans g2)) ?_;rw[zA4 (by rw[h2.length];exact hw.1) (by rw[h2.length];exact hw.2)];exact .tup h1 h2
  .refine jS (jK ⟨a,xs,rfl,iu fh3 h1,hw,λp hp=>?_⟩);have⟨s1,s2,s3,s4⟩:=pW (o:=.tup (nh xs l u)) fh3 hp;exact q _ _ _ (((g1.trans g2).trans g3).trans s1) (((f1.trans f2).trans f3).trans s2) s3 (((n1.trans n2 g1).trans n3 (g1.trans g2)).trans s4 ((g1.trans g2).trans g3)) (.tup (hU.of dH) ((h2.cut l u).mono s2))
end T3
namespace HT
open PySem PySem.Spec PyProof.Rows
def fm_congr {α β:Type}{f g:α->Option β}:∀ {l:List α},(∀ x∈l,f x=g x)->l.filterMap f=l.filterMap g
 | [],_=>rfl
 | a::r,h=>by rw[uu,uu,h a jh,fm_congr λx hx=>h x (jd _ hx)]
end HT
namespace T3
open PySem PySem.Spec PyProof.Rows L2
def nq (t:SetTable)(es:Array (Int×Gg))(hh:Int)(x:Gg):Array (Int×Gg)×SetTable :=
 if (!(layNew t es hh x).2.2.1&&(layNew t es hh x).2.1.tooFull)=true then((relayAll (layNew t es hh x).2.1 (layNew t es hh x).1 (SetTable.grown (layNew t es hh x).1.size)).1,(relayAll (layNew t es hh x).2.1 (layNew t es hh x).1 (SetTable.grown (layNew t es hh x).1.size)).2.1)
 else((layNew t es hh x).1,(layNew t es hh x).2.1)
def SX (h:Heap)(a:Gj)(es:Array (Int×Gg))(t:SetTable):Prop:=∃ o ep,h.get? a=Ga o/\o.ExactSet/\o.data=.set es ep t
variable {a Ba C L r fa hx Pt fr c0:Gj}{es:Array (Int×Gg)}{h h0 h1 h2 h' base:Heap}{t:SetTable}{A:Around}{E:Gg->Gh->Prop}{Q:Bool->Gh->Prop}{k:Int}{prog P:Program}{s s' s₀:Gh}{tk:Tok}{w:World}{α:Type}{j m ep i n kl kr it:Nat}{led:Bool}{its vh vx:Array Gg}{X:Cx}{e b tg o e1 ke value e0 c iter:Expr}{p p2 pos Bp hp pos' apos rp pc pz lpos:Pos}{f g fo fb:FV}{x y B qual cn msg z xl:Str}{K:ja}{F H H' F1 H0 H1 F' H₀:Hp}{body suite rest:List Stmt}{b₀ st:Stmt}{cs N ps psr:List Str}{gs:Str->FS}{cl:List (Str×Gj)}{scope:Scope}{σ' σ:St}{fs R:List Gj}{ω:List (Gj×Obj)}{M:Model}{cls cd:Gg}{outer:List Env}{ψ:Env}{ds:List D}{mg:Str->Option Gg}{d:D}{v:V}{kvs kvs':List (Str×D)}{fd fdr:Gi}{ga:FL}{sp:Sp}{env':En}{ws':List (fJ×V)}{fm:Sl->List D->Option (D×List (Str×D))}{vs xs:List V}{dc:Option Gj}{sl:Array (Option Gg)}{fx:Sl->List D->Option Str}{oh ox:Obj}{es1:List Expr}{params:Arguments}
def SX.put{es':Array (Int×Gg)}{t':SetTable}(x:SX h a es t):SX (h.update a (JW es' t')) a es' t':=by
 obtain⟨o,ep,ho,hex,hd⟩:=x;obtain⟨oc,odi,oda,osl⟩:=o;simp only at hd;subst hd;exact⟨_,_,jI _ ho rfl,hex,rfl⟩
def zDc(hS:SX s.heap a es t)(hf:t.fits es.size=true)(hel:ElemsOf (intKind prog w) es.toList)(hb:es.size+2<scanBound)
  (nf:es.toList.findIdx? (λe=>(intKind prog w).is k e.2)=Gb)
  (h:∀ h',kZ a s.heap h'->SX h' a (nq t es ((intKind prog w).hash k) (.int k tk)).1 (nq t es ((intKind prog w).hash k) (.int k tk)).2->Q true { s with heap:=h' }) :
  wpAny (model prog w) A (setAddHashed a (.int k tk) ((intKind prog w).hash k)) Q E s:=by
 have⟨o,ep,ho,hex,hd⟩:=id hS;have hsc:(uO k tk).scannable=true:=rfl;have hperm:=layNew_perm t es ((intKind prog w).hash k) (.int k tk);have hfits:=layNew_fits t es ((intKind prog w).hash k) (.int k tk);have hsz:(layNew t es ((intKind prog w).hash k) (.int k tk)).1.size=es.size+1:=by
  rw[<- jP,hperm.length_eq,u7,jA,jP];rfl
 have hgw:∀ (b:Bool) {s₁:Gh} {Q':Unit->Gh->Prop},Q' () s₁->wpAny (model prog w) A (match b with|true=>rule "set.scan.the-table-gave-way"|false=>pure ()) Q' E s₁ :=
  λb s₁ Q' hq=>by cases b<;>first|exact dw hq|exact wpAny_rule hq
 unfold setAddHashed setAddHashedIn;refine wpAny_holding (dv (wpAny_setState_of ho hd hf ?_));dsimp only;rw[byScan_of hsc (by omega) hel];simp only[↓reduceIte];unfold setAddByScan;refine dv ?_;refine dv (wpAny_rule ?_);refine dv (wpAny_setScan_of (knd:=intKind prog w) (intKind_is _ _ _ _) ho hd hf hel ?_);rw[nf];dsimp only;unfold nq at h;generalize hL:layNew t es ((intKind prog w).hash k) (.int k tk)=L at hperm hfits hsz h ⊢;obtain⟨es1,t1,wd,gave⟩:=L;dsimp only at hperm hfits hsz h ⊢;refine dv (hgw _ ?_);have hpk:plainKind (.int k tk)=true:=rfl;have hS1:SX (s.heap.update a (JW es1 t1)) a es1 t1:=hS.put;have hsb1:=ko s.heap a (JW es1 t1);have⟨o1,ep1,ho1,hex1,hd1⟩:=id hS1;have hz1:es1.size<=sizeLine:=fits_of_scanBound (by omega);have hp:=relayAll_perm t1 es1 (SetTable.grown es1.size);have hs2:(relayAll t1 es1 (SetTable.grown es1.size)).1.size=es1.size:=by rw[<- jP,hp.length_eq,jP]
 have hz2:(relayAll t1 es1 (SetTable.grown es1.size)).1.size<=sizeLine:=fits_of_scanBound (by omega);split
 .refine dv ?_;rw[hashByValue_scannable 8 hsc,hpk];refine dw ?_;simp only[↓reduceIte];refine dv (wpAny_storeSet_of ho hd ?_ hz1);split
  .rename_i c;rw[Ge c] at h;refine dv (hgw _ ?_);refine dv (wpAny_storeSet_of ho1 hd1 ?_ hz2);exact dw (dw (h _ (hsb1.trans (ko _ a _)) hS1.put))
  .rename_i c;rw[Gf c] at h;exact dw (dw (h _ hsb1 hS1))
 .refine dv (dw ?_);simp only[↓reduceIte];refine dv (wpAny_storeSet_of ho hd ?_ hz1);split
  .rename_i c;rw[Ge c] at h;refine dv (hgw _ ?_);refine dv (wpAny_storeSet_of ho1 hd1 ?_ hz2);exact dw (dw (h _ (hsb1.trans (ko _ a _)) hS1.put))
  .rename_i c;rw[Gf c] at h;exact dw (dw (h _ hsb1 hS1))
def oE (e:Int×Gg):Int×Gg:=(e.1,.int e.1 0)
def zDd {β:Type}(f:α->β)(xs:Array α)(p:Nat)(x:α):(SetTable.insertAt xs p x).map f=SetTable.insertAt (xs.map f) p (f x):=by
 apply qB.mp;rw[vS,SetTable.toList_insertAt,SetTable.toList_insertAt];simp
def zEN (es:Array (Int×Gg)):(es.map oE).map (·.1)=es.map (·.1):=by
 rw[Array.map_map];rfl
def zEO (t:SetTable)(es:Array (Int×Gg))(h:Int)(x:Gg):layNew t (es.map oE) h (.int h 0)=((layNew t es h x).1.map oE,(layNew t es h x).2):=by
 have e0:oE (h,x)=(h,.int h 0):=rfl;unfold layNew;cases t.freeSlot h with
 | none=>simp[e0]
 | some q =>
  obtain⟨slot,wd⟩:=q;dsimp only;have i1:=zDd oE es (t.put slot).2 (h,x);rw[e0] at i1;rw[<- i1,vg]
def zG1 (order:Array Nat)(es:Array (Int×Gg)):order.filterMap ((es.map oE)[·]?)=(order.filterMap (es[·]?)).map oE:=by
 apply qB.mp;rw[vS,qM,qM,List.map_filterMap];refine HT.fm_congr λi _=>?_;rw[Array.getElem?_map]
def zEP (t:SetTable)(es:Array (Int×Gg))(n:Nat):relayAll t (es.map oE) n=((relayAll t es n).1.map oE,(relayAll t es n).2):=by
 unfold relayAll;rw[zEN];cases t.relaid (es.map (·.1)) n with
 | none=>simp
 | some q =>
  obtain⟨t',order⟩:=q;dsimp only;rw[zG1,vg,vg];split<;>rfl
def ZI (t:SetTable)(es:Array (Int×Gg))(h:Int)(x:Gg):nq t (es.map oE) h (.int h 0)=((nq t es h x).1.map oE,(nq t es h x).2):=by
 unfold nq;rw[zEO t es h x];dsimp only;rw[vg,zEP];split<;>rfl
def Pb (p:Array (Int×Gg)×SetTable)(k:Nat):Array (Int×Gg)×SetTable:=nq p.2 p.1 (k:Int) (.int (k:Int) 0)
def fL (led:Bool)(m:Nat):Array (Int×Gg)×SetTable:=((kF 5).filter λk=>m.testBit k).foldl Pb (#[],.fresh 0 0 led)
def zA5:∀ (led:Bool) (m:Fin 32) (k:Fin 5),m.val.testBit k.val=true\/Pb (fL led m.val) k.val=fL led (m.val+2^k.val):=by nofun
def Hw:∀ (led:Bool) (m:Fin 32),(fL led m.val).2.plain=true/\(fL led m.val).2.led=led/\(fL led m.val).2.fits (fL led m.val).1.size=true/\(fL led m.val).1.size<=5/\(fL led m.val).1.toList=(((kF 5).filter λk=>m.val.testBit k).map λ(k:Nat)=>((k:Int),uO (k:Int) 0)):=by nofun
def zDe(hS:SX s.heap a es t)(hf:t.fits es.size=true)(hel:ElemsOf (intKind prog w) es.toList)(hb:es.size+2<scanBound)
  (fd:es.toList.findIdx? (λe=>(intKind prog w).is k e.2)=Ga j) (h:Q false s):wpAny (model prog w) A (setAddHashed a (.int k tk) ((intKind prog w).hash k)) Q E s:=by
 have⟨o,ep,ho,hex,hd⟩:=id hS;have hsc:(uO k tk).scannable=true:=rfl;unfold setAddHashed setAddHashedIn;refine wpAny_holding (dv (wpAny_setState_of ho hd hf ?_));dsimp only;rw[byScan_of hsc (by omega) hel];simp only[↓reduceIte];unfold setAddByScan;refine dv ?_;refine dv (wpAny_rule ?_);refine dv (wpAny_setScan_of (knd:=intKind prog w) (intKind_is _ _ _ _) ho hd hf hel ?_);rw[fd];dsimp only;exact dw (dw h)
def CS (h:Heap)(a:Gj)(led:Bool)(m:Nat):Prop:=∃ es,SX h a es (fL led m).2/\es.map oE=(fL led m).1/\∀ e∈es.toList,∃ tk,e.2=.int e.1 tk
def CS.fst {h:Heap}{a:Gj}(hm:m<32)(e:es.map oE=(fL led m).1):es.toList.map (·.1)=((kF 5).filter λk=>m.testBit k).map λ(k:Nat)=>(k:Int):=by
 have f:=(Hw led ⟨m,hm⟩).2.2.2.2;have g:=congrArg (λx:Array (Int×Gg)=>x.toList.map (·.1)) e;dsimp only at f g;rw[f,vS,uz,uz] at g;exact g
def Ru (k:Fin 5):(intKind prog w).hash (k.val:Int)=(k.val:Int):=by
 match k with
 | 0=>rfl
 | 1=>rfl
 | 2=>rfl
 | 3=>rfl
 | 4=>rfl
def zER{k:Nat}(hm:m<32)(hk:k<5)(c:CS s.heap a led m)(h:∀ h' b,kZ a s.heap h'->CS h' a led (m ||| 2^k)->Q b { s with heap:=h' }) :
  wpAny (model prog w) A (setAddHashed a (.int (k:Int) tk) ((intKind prog w).hash (k:Int))) Q E s:=by
 obtain⟨es,hS,he,hv⟩:=c;have fs:=CS.fst (h:=s.heap) (a:=a) hm he;have⟨f1,f2,f3,f4,f5⟩:=Hw led ⟨m,hm⟩;dsimp only at f1 f2 f3 f4 f5;have hsz:es.size=(fL led m).1.size:=by rw[<- he,vg]
 have mem:∀ e∈es.toList,∃ j:Nat,j<5/\m.testBit j=true/\e.1=(j:Int):=λe hm2=>by
  have:e.1∈es.toList.map (·.1):=ue.mpr ⟨e,hm2,rfl⟩;rw[fs] at this;have⟨j,hj,q⟩:=ue.mp this;have⟨h1,h2⟩:=uG.mp hj;exact⟨j,kY.mp h1,h2,q.symm⟩
 have hel:ElemsOf (intKind prog w) es.toList:=λe hm2=>by
  have⟨j,hj,_,ej⟩:=mem e hm2;have⟨tk,et⟩:=hv e hm2;refine⟨⟨e.1,?_,?_⟩,?_⟩
  .rw[et];exact intKind_is _ _ _ _
  .rw[ej];exact(Ru ⟨j,hj⟩).symm
  .rw[et];rfl
 have hb:es.size+2<scanBound:=by rw[hsz];unfold scanBound;omega
 have hf:(fL led m).2.fits es.size=true:=by rwa[hsz]
 have hk0:(intKind prog w).hash (k:Int)=(k:Int):=Ru ⟨k,hk⟩;cases hbit:m.testBit k with
 | true =>
  have:(k:Int)∈es.toList.map (·.1):=by
   rw[fs];exact ue.mpr ⟨k,uG.mpr ⟨kY.mpr hk,hbit⟩,rfl⟩
  have⟨e,he1,he2⟩:=ue.mp this;have⟨tk',et⟩:=hv e he1;have his:(intKind prog w).is (k:Int) e.2=true:=by rw[et,he2];exact intKind_is _ _ _ _
  cases fd:es.toList.findIdx? (λe=>(intKind prog w).is (k:Int) e.2) with
  | none=>have:=qo.mp fd e he1;rw[his] at this;cases this
  | some j =>
   have em:m ||| 2^k=m:=by
    have:=(by nofun:∀ (m:Fin 32) (k:Fin 5),m.val.testBit k.val=true->m.val ||| 2^k.val=m.val) ⟨m,hm⟩ ⟨k,hk⟩ hbit;exact this
   have e0:s={ s with heap:=s.heap }:=by cases s;rfl
   refine zDe hS hf hel hb fd ?_;rw[e0];exact h s.heap false (Heap.SameBut.refl a s.heap) (by rw[em];exact⟨es,hS,he,hv⟩)
 | false =>
  have nf:es.toList.findIdx? (λe=>(intKind prog w).is (k:Int) e.2)=Gb:=qo.mpr λe he1=>by
   have⟨j,hj,hbj,ej⟩:=mem e he1;have⟨tk',et⟩:=hv e he1;cases q:(intKind prog w).is (k:Int) e.2 with
   | false=>rfl
   | true =>
    rw[et] at q;have z:=(intKind prog w).inj _ _ _ q (intKind_is _ _ _ _);have:j=k:=by omega
    subst this;rw[hbj] at hbit;cases hbit
  have em:m ||| 2^k=m+2^k:=(by nofun:∀ (m:Fin 32) (k:Fin 5),m.val.testBit k.val=false->m.val ||| 2^k.val=m.val+2^k.val) ⟨m,hm⟩ ⟨k,hk⟩ hbit;have cs:=(zA5 led ⟨m,hm⟩ ⟨k,hk⟩).resolve_left (by dsimp only;rw[hbit];decide);dsimp only at cs;have an:=ZI (fL led m).2 es (k:Int) (.int (k:Int) tk);rw[he] at an;have c2:((nq (fL led m).2 es (k:Int) (.int (k:Int) tk)).1.map oE,(nq (fL led m).2 es (k:Int) (.int (k:Int) tk)).2)=fL led (m+2^k):=by rwa[<- an]
  have perm:∀ e∈(nq (fL led m).2 es (k:Int) (.int (k:Int) tk)).1.toList,e∈es.toList\/e=((k:Int),.int (k:Int) tk):=λe he1=>by
   have p1:=layNew_perm (fL led m).2 es (k:Int) (.int (k:Int) tk);rw[u7] at p1;have m1:e∈(layNew (fL led m).2 es (k:Int) (.int (k:Int) tk)).1.toList:=by
    unfold nq at he1;split at he1
    .exact(relayAll_perm _ _ _).mem_iff.mp he1
    .exact he1
   rcases kI.mp (p1.mem_iff.mp m1) with z|z
   .exact .inl z
   .exact .inr (jD.mp z)
  refine zDc hS hf hel hb nf λh' hsb hS'=>h h' true hsb ?_;rw[hk0] at hS';rw[em];refine⟨_,by rwa[<- c2],by rw[<- c2],λe he1=>?_⟩;rcases perm e he1 with z|z
  .exact hv e z
  .rw[z];exact⟨tk,rfl⟩
def mQ (val:Nat->Nat):Nat->Nat
 | 0=>0
 | i+1=>mQ val i ||| 2^val i
def Na {val:Nat->Nat}(h:∀ i,val i<5):∀ i,mQ val i<32
 | 0=>by show 0<32;decide
 | i+1=>by
  have:=(by nofun:∀ (m:Fin 32) (k:Fin 5),m.val ||| 2^k.val<32) ⟨mQ val i,Na h i⟩ ⟨val i,h i⟩;exact this
section
variable {prog:Program}{w:World}{A:Around}{R:Result->Gh->Prop}{I:Gj}{fp wr:List Gj}{G:Array GenState->Array GenState->Prop}{n:Nat}{P:Nat->Gg->Prop}{St:Nat->Gh->Prop}
def CS.keep(c:CS h a led m)(k:∀ o,h.get? a=Ga o->h'.get? a=Ga o):CS h' a led m:=by
 obtain⟨es,⟨o,ep,ho,hex,hd⟩,he,hv⟩:=c;exact⟨es,⟨o,ep,k o ho,hex,hd⟩,he,hv⟩
def zDf (W:WalksS prog w A.in1 I fp wr G n P St)(S:Gj)(nS:S∉fp)(val:Nat->Nat)(v5:∀ i,val i<5)(vl:∀ i v,P i v->∃ t,v=.int (val i:Int) t)(led:Bool) :
  ∀ (k i:Nat) (s:Gh),n-i=k->i<=n->St i s->CS s.heap S led (mQ val i)->(∀ z1,Moved (S::wr) G s z1->CS z1.heap S led (mQ val n)->R (.ok (.ret .none)) z1) ->
   codeAny (model prog w) A (.builtin "set.update.loop" ⟨[.ref S,.ref I],[]⟩) R s:=by
 have nW:S∉wr:=λh=>nS (W.sub _ h);have sb:∀ b∈wr,b∈S::wr:=λb hb=>jd _ hb;intro k;induction k with
 | zero =>
  intro i s ek li u0 c0 fin
  have ei:i=n:=by omega
  subst ei;refine codeAny_builtin (PyProof.Rows.F.entry_set_update_loop) ?_;rw[vZ PyProof.Rows.F.plain_set_update_loop];show wpAny _ A.in1 (pyNext (.ref I) >>= _) _ _ s;refine dv (W.done s _ _ u0 λz1 mv=>?_);show wpAny _ A.in1 (ret jC) _ _ z1;exact dw (fin z1 (mv.mono sb) (c0.keep λo ho=>mv.heap S _ nW ho))
 | succ k ih =>
  intro i s ek li u0 c0 fin
  have l0:i<n:=by omega
  refine codeAny_builtin (PyProof.Rows.F.entry_set_update_loop) ?_;rw[vZ PyProof.Rows.F.plain_set_update_loop];show wpAny _ A.in1 (pyNext (.ref I) >>= _) _ _ s;refine dv (W.item i s _ _ l0 u0 λv z1 hp0 u1 mv=>?_);obtain⟨t,rfl⟩:=vl i v hp0;have c1:CS z1.heap S led (mQ val i):=c0.keep λo ho=>mv.heap S _ nW ho;show wpAny _ A.in1 (holding [uO (val i:Int) t] (setAdd S (.int (val i:Int) t)) >>= _) _ _ z1;refine dv (wpAny_holding ?_);unfold setAdd;refine wpAny_holding ?_;refine dv ((intKind prog w).pyHash (k:=(val i:Int)) (intKind_is _ _ _ _) ?_);refine zER (s:={ z1 with toks:=z1.toks+1 }) (Na v5 i) (v5 i) c1 λh' b sbu c2=>?_;refine dw ⟨plainId_quiet PyProof.Rows.F.plain_set_update_loop _,ih (i+1) _ (by omega) l0 (W.frame _ z1 _ _ u1 (qq _) λb hb o e=>?_) c2 λz2 mv2 c3=>?_⟩
  .rwa[sbu.2 b (λh:b=S=>nS (by rw[<- h];exact hb))]
  .refine fin z2 (Moved.trans W.gtrans ((mv.mono sb).then_heap (qq _) λb o hb e=>?_) mv2) c3;rwa[sbu.2 b (λh:b=S=>hb (by rw[h];exact jh))]
end
abbrev hZ (w:World):Bool:=!w.params.followText "set-order"
def zDg (x0:Gg){Q₁:Gg->Gh->Prop}(h:Q₁ (.ref s.heap.objs.size) { s with heap:=s.heap.push { cls:=.type "set",dict:=Gb,data:=.set #[] 0 (.fresh 0 0 (hZ w)) } }) :
  codeAny (model prog w) A (.call (.builtin "set.__new__") ⟨[.type "set",x0],[]⟩) (wants Q₁ E) s:=by
 refine codeAny_of_tree ?_;show wpAny _ A.in1 (do checkBuiltinCall "set.__new__" ⟨[.type "set",x0],[]⟩;again (.builtin "set.__new__" ⟨[.type "set",x0],[]⟩)) _ _ s;refine dv (wpAny_of_eq (PySem.F.newCall_set_1 x0) (dw ⟨plainId_quiet PySem.F.plain_set_new _,codeAny_builtin PySem.F.entry_set_new ?_⟩));rw[vZ PySem.F.plain_set_new];unfold Builtin.«set.__new__»;unfold JX;have sb:=sub_set_self;obtain⟨h0,g0,d0,t0,o0⟩:=s;dsimp only
 wp_walk
 refine wpAny_askSetting (dw ?_);dsimp only;simp only[newObj];refine dv (wpAny_alloc (dw ?_));exact dw h
def Oq:∀ led:Bool,fL led 0=(#[],.fresh 0 0 led):=by nofun
variable {Q:Gg->Gh->Prop}{k:FX}
set_option maxHeartbeats 3200000 in
def zDh {l:Gj}{val:Nat->Nat}(hh:A.handled=Gb)(hl:s.heap.IsList l its)(v5:∀ i,val i<5)(vl:∀ (i:Nat) (v:Gg),its[i]?=Ga v->∃ t,v=.int (val i:Int) t)
  (h:∀ (h':Heap) (tk:Nat),CS h' s.heap.objs.size (hZ w) (mQ val its.size)->(∀ b o,b<s.heap.objs.size->s.heap.get? b=Ga o->h'.get? b=Ga o)->Q (.ref s.heap.objs.size) { s with heap:=h',toks:=tk }) :
  wpAny (model prog w) A (call (.type "set") [.ref l]) Q E s:=by
 generalize hob:({ cls:=.type "set",dict:=Gb,data:=.set #[] 0 (.fresh 0 0 (hZ w)) }:Obj)=ob;have obc:ob.cls=.type "set":=by rw[<- hob]
 have obf:ob.isFreed=false:=by rw[<- hob];rfl
 have⟨c,tl,m0⟩:=PySem.F.called_set.mro;have m1:=PySem.F.called_set.made;have m2:=PySem.F.called_set.sub;refine wpAny_call (codeAny_of_tree ?_);show wpAny _ _ (callAny (.type "set") _) _ _ _;refine dw ⟨Code.quiet_builtin _ (by nofun),codeAny_builtin (PySem.F.entry_type_call) ?_⟩;rw[Around.under_plain (weight_type_call_type "set" [.ref l] []) rfl];have m3:=PySem.F.called_set.notType;have m4:=PySem.F.called_set.canCreate;have m5:=PySem.F.typeCall_set_1 (.ref l)
 repeat (any_goals (first|assumption|wp_step))
 refine codeAny_mono (zDg (.ref l) (E:=E) (Q₁:=λobj z=>obj=.ref s.heap.objs.size/\z={ s with heap:=s.heap.push ob }) (by subst hob;exact⟨rfl,rfl⟩)) λr z hr=>?_;cases r with
 | error e=>exact hr
 | ok fl =>
  cases fl with
  | ret obj =>
   obtain⟨rfl,rfl⟩:=hr;have gS:(s.heap.push ob).get? s.heap.objs.size=Ga ob:=jm _ obf;have gT:Shared.TypeIs { s with heap:=s.heap.push ob } (.ref s.heap.objs.size) "set":=⟨_,gS,obc⟩;have n1:=PySem.F.called_set.init.lookup;have n2:=PySem.F.called_set.init.bind (.ref s.heap.objs.size)
   repeat (any_goals (first|assumption|wp_step))
   refine codeAny_mono (codeAny_call_builtin (R:=wants (λr z=>r=.none/\∃ h' tk,z={ s with heap:=h',toks:=tk }/\CS h' s.heap.objs.size (hZ w) (mQ val its.size) /\
     (∀ b o,b<s.heap.objs.size->s.heap.get? b=Ga o->h'.get? b=Ga o)) E) PySem.F.called_set.init.plain PySem.F.entry_set_init (check_set_init_1 gT ?_)) λr2 z2 hr2=>?_
   .obtain⟨ol,e1,e2,nl,e3⟩:=hl;obtain⟨a1,a2,a3,a4⟩:=ol;simp only at e2 e3;subst e2;subst e3;subst hob;have g1:=jb (h:=s.heap) ({ cls:=.type "set",dict:=Gb,data:=.set #[] 0 (.fresh 0 0 (hZ w)) }:Obj) e1;have q1:=PySem.F.sub_list_set;have q2:=PySem.F.sub_list_frozenset;have q3:(k8 "list"==k8 "dict")=false:=by decide
    have hl1:(s.heap.push ({ cls:=.type "set",dict:=Gb,data:=.set #[] 0 (.fresh 0 0 (hZ w)) }:Obj)).IsList l its:=⟨_,g1,rfl,nl,rfl⟩;have lS:l<s.heap.objs.size:=jg e1;unfold Builtin.«set.__init__» noKeywords;unfold JR;generalize ePI:pyIter=PI
    wp_walk
    subst ePI;refine wpAny_pyIter_list hl1 ?_;refine dv (wpAny_runValue ?_);have h3:A.in1.in1.in1.handled=Gb:=by simp[hh]
    have sz:=vb (h:=s.heap) (o:=({ cls:=.type "set",dict:=Gb,data:=.set #[] 0 (.fresh 0 0 (hZ w)) }:Obj));generalize hH:s.heap.push ({ cls:=.type "set",dict:=Gb,data:=.set #[] 0 (.fresh 0 0 (hZ w)) }:Obj)=H1 at *;have ne1:l≠H1.objs.size:=by rw[sz];exact jB (qu lS)
    have ne2:s.heap.objs.size∉[H1.objs.size,l]:=λz=>by
     rcases jz.mp z with z|z
     .rw[sz] at z;exact absurd z (jB (uP _))
     .exact absurd (jD.mp z) (uw lS)
    refine zDf ((Walks.list h3 _ l ne1 its).toS) s.heap.objs.size ne2 val v5 vl (hZ w) (its.size-0) 0 _ (by omega) (ku _) ⟨⟨_,jm _ rfl,rfl,rfl⟩,hl1.push _⟩ ?b0 ?b1
    case b0=>exact⟨#[],⟨_,0,jb _ gS,⟨rfl,rfl,rfl⟩,by rw[show mQ val 0=0 from rfl,Oq]⟩,by rw[show mQ val 0=0 from rfl,Oq];simp,λe he=>by simp at he⟩
    case b1 =>
     intro z1 mv c1;obtain⟨h',g',d',tk',os'⟩:=z1;have eg:g'=s.gens:=mv.gens;have ed:d'=s.drawn:=mv.drawn;have eo:os'=s.os:=mv.os;subst eg;subst ed;subst eo;show wpAny _ _ _ _ _ _;refine dw ?_;show wpAny _ _ (ret jC) _ _ _;refine dw ⟨rfl,h',tk',rfl,c1,λb o lb eb=>?_⟩;refine mv.heap b o (λz=>?_) (jb _ (by rw[<- hH];exact jb _ eb));rcases jz.mp z with z|z
     .exact absurd z (jB lb)
     .exact absurd (jD.mp z) (by rw[sz];exact jB (qu lb))
   .cases r2 with
    | error e=>exact hr2
    | ok f2 =>
     cases f2 with
     | ret r =>
      obtain⟨rfl,h',tk,rfl,c1,k1⟩:=hr2
      repeat (any_goals (first|assumption|wp_step))
      exact h _ _ c1 k1
     | _=>exact hr2.elim
  | _=>exact hr.elim
def VX {α:Type}:∀ (l:List α) (i:Nat) (h:i<l.length),(l[i]::l.eraseIdx i).Perm l
 | a::r,0,h=>.refl _
 | a::r,i+1,h=>(List.Perm.swap _ _ _).trans ((VX r i (by simpa using h)).cons a)
def Uk {α:Type}(next:Nat->Nat):∀ (fuel k:Nat) (left:List α) (out:Array α),left.length=fuel->((pickOrder.go next fuel k left out).toList).Perm (out.toList++left)
 | 0,k,left,out,h=>by
  have:left=[]:=vD.mp h;subst this;unfold pickOrder.go;rw[jJ]
 | fuel+1,k,left,out,h=>by
  have hp:0<left.length:=by omega
  have hi:next k%left.length<left.length:=Jn _ hp
  unfold pickOrder.go;rw[jn hi];dsimp only;refine(Uk next fuel (k+1) _ _ (by rw[List.length_eraseIdx_of_lt hi];omega)).trans ?_;rw[u7,ub];exact List.Perm.append_left _ (VX left _ hi)
def zyX(next:Nat->Nat)(xs:Array α):((pickOrder next xs).toList).Perm xs.toList:=by
 unfold pickOrder;exact(Uk next xs.size 0 xs.toList #[] (by rw[jP])).trans (by simp)
def ES:Nat->List (List Nat)
 | 0=>[[]]
 | n+1=>[]::((kF 5).flatMap λk=>((ES n).filter λl=>!l.contains k).map (k::·))
def sS (l:List Nat):List Nat:=(kF 5).filter λk=>l.contains k
def zyY:(ES 5).all (λl=>(oK (l.map λ(k:Nat)=>jO (k:Int))).bind lg==Ga ((sS l).map λ(k:Nat)=>(k:Int)))=true:=by nofun
def Hr:Slot "set_iterator" "__next__" "set_iterator.__next__" :=
 .of (owner:="set_iterator") (n:="__next__") (by rw[typeLookup_type,builtinLookup_eq_fast];ext) (by nofun) (by nofun) (by nofun) (by first|exact .inl (by nofun)|exact .inr (by nofun)) (by rw[isSubtype_type];ext)
def zyZ:entryFor table "set_iterator.__next__"=Ga Builtin.«set_iterator.__next__»:=entryFor_of_tree nofun
def zA6 (a:Gg):argsOk "set_iterator.__next__" ⟨[a],[]⟩:=by unfold argsOk;ext
def Ys:entryFor table "set.__iter__"=Ga Builtin.«frozenset.__iter__»:=entryFor_alias (id':="frozenset.__iter__") nofun rfl (by nofun) nofun
def zDi{o:Obj}(ho:s.heap.get? a=Ga o)(hex:o.ExactSet)(hd:o.data=.set es ep t)(hf:t.fits es.size=true)(hp:t.plain=true)
  (hQ:Q (.ref s.heap.objs.size) { s with heap:=s.heap.push { cls:=.type "set_iterator",data:=.fields #[.int 0 0,.int 0 0,.ref a,.int es.size 0,.int ep 0] } }):wpAny (model prog w) A (pyIter (.ref a)) Q E s:=by
 have ty:s.TypeIs (.ref a) "set":=⟨o,ho,hex.1⟩;refine wpAny_pyIter_slot ty qV (wpAny_call_entry qV ty Ys ?_ (PySem.F.args_set_iter_1 _));unfold Builtin.«frozenset.__iter__»;refine dv (dw ?_);refine dv ?_;unfold JZ;refine dv (wpAny_setEntries_of ho hd hf (dw ?_));refine dv ?_;unfold setDrawn setsByText;refine dv (wpAny_setState_of ho hd hf ?_);dsimp only;refine dv (dv (wpAny_askSetting (dw ?_)));refine dw ?_;have dr:∀ b:Bool,(b&&(!t.plain&&decide (es.size>1)))=false:=λb=>by rw[hp];cases b<;>rfl
 show wpAny _ _ (if (_&&(!t.plain&&decide (es.size>1)))=true then _ else _) _ _ _;rw[dr,Gf (by decide)];refine dv (dw ?_);refine dv (wpAny_setEpoch_of ho hd hf ?_);exact dv (wpAny_newObj_type (dw ⟨_,rfl,"set_iterator",_,⟨_,jm _ rfl,rfl⟩,Hr.lookup,hQ⟩))
section
variable {prog:Program}{w:World}{A:Around}{E:Gg->Gh->Prop}{s:Gh}
def mn (w:World)(a:Gj)(es:Array (Int×Gg))(ep:Nat)(t:SetTable)(slot given:Nat):Option (Gg×Nat) :=
 if w.params.followText "set-order"=true then((pickOrder (w.params.setOrder a ep) es)[given]?).map λe=>(e.2,slot)
 else match es[SetTable.below t.place slot]?,t.place[SetTable.below t.place slot]? with
  | some (_,x),Ga j=>Ga (x,j+1)
  | _,_=>Gb
variable {o:Obj}{slot:Nat}{it:Gj}
def zwM{given:Nat}{Q:Option (Gg×Nat)->Gh->Prop}(ho:s.heap.get? a=Ga o)(hd:o.data=.set es ep t)(hf:t.fits es.size=true)(hp:t.plain=true)(hl:t.led=hZ w)
  (hQ:Q (mn w a es ep t slot given) s):wpAny (model prog w) A (setNext a slot given ep) Q E s:=by
 unfold setNext;refine dv (wpAny_setState_of ho hd hf ?_);dsimp only;unfold setsByText;refine dv (dv (wpAny_askSetting (dw ?_)));show wpAny _ _ (if w.params.followText "set-order"=true then _ else _) _ _ _;unfold mn at hQ;cases hb:w.params.followText "set-order" with
 | true =>
  rw[hb,Ge rfl] at hQ;rw[Ge rfl,Gf (by simp)];unfold setWalk setsByText;refine dv (dv (wpAny_setState_of ho hd hf ?_));dsimp only;refine dv (dv (wpAny_askSetting (dw ?_)));show wpAny _ _ (if w.params.followText "set-order"=true then _ else _) _ _ _;rw[hb,Ge rfl];refine dv (wpAny_askSetting (dw ?_));exact dw hQ
 | false =>
  rw[hb,Gf (by decide)] at hQ;rw[Gf (by decide)];have l1:t.led=true:=by rw[hl];show(!w.params.followText "set-order")=true;rw[hb];rfl
  show wpAny _ _ (if (!t.plain&&decide (es.size>1))=true then _ else _) _ _ _;rw[hp,Gf (by simp)];refine dv ?_;show wpAny _ _ (if (!t.led&&!es.isEmpty)=true then _ else _) _ _ _;rw[l1,Gf (by simp)];refine dw ?_;exact dw hQ
def oQ (h:Heap)(it:Gj)(slot i:Nat)(a:Gj)(n ep:Nat):Prop:=∃ o,h.get? it=Ga o/\o.cls=.type "set_iterator"/\o.data=.fields #[.int (slot:Int) 0,.int (i:Int) 0,.ref a,.int (n:Int) 0,.int (ep:Int) 0]
def oQ.at'(x:oQ h it slot i a n ep)(k:∀ o,h.get? it=Ga o->h'.get? it=Ga o):oQ h' it slot i a n ep:=let ⟨o,ho,r⟩:=x;⟨o,k _ ho,r⟩
def Tw{Q:Option Gg->Gh->Prop}(hh:A.handled=Gb)(hit:oQ s.heap it slot i a es.size ep)(ho:s.heap.get? a=Ga o)(hd:o.data=.set es ep t)(hf:t.fits es.size=true)(hp:t.plain=true)(hl:t.led=hZ w)
  (y1:∀ x nx,mn w a es ep t slot i=Ga (x,nx)->∀ h',oQ h' it nx (i+1) a es.size ep->kZ it s.heap h'->Q (Ga x) { s with heap:=h' })
  (y2:mn w a es ep t slot i=Gb->∀ h',Heap.ExtBut it s.heap h'->Q Gb { s with heap:=h' }):wpAny (model prog w) A (pyNext (.ref it)) Q E s:=by
 have⟨oi,hoi,hc,hdi⟩:=id hit;have ty:s.TypeIs (.ref it) "set_iterator":=⟨oi,hoi,hc⟩;unfold pyNext;refine dv (wpAny_attempt (wpAny_callSpecial?_slot (name:=jv "__next__") ty Hr (wpAny_call_entry Hr ty zyZ ?_ (zA6 _))));unfold Builtin.«set_iterator.__next__»;refine dv (dw ?_);refine dv (wpAny_fieldsOf hoi hdi ?_);show wpAny _ _ (setEntries a >>= _) _ _ s;refine dv (wpAny_setEntries_of ho hd hf ?_);rw[Gf (by simp)];show wpAny _ _ (setNext a (slot:Int).toNat (i:Int).toNat (ep:Int).toNat >>= _) _ _ s;rw[um,um,um];refine dv (zwM ho hd hf hp hl ?_);cases hn:mn w a es ep t slot i with
 | some p =>
  obtain⟨x,nx⟩:=p;dsimp only;refine dv (wpAny_setField hoi hdi (by simp) ?_);have g1:=jI (kf (·.setIfInBounds 0 (rawInt (nx:Int)))) hoi (kA (j8 hdi _));have d1:=j8 hdi (·.setIfInBounds 0 (rawInt (nx:Int)));have c1:(kf (·.setIfInBounds 0 (rawInt (nx:Int))) oi).cls=.type "set_iterator":=(vH ..).trans hc;have s1:=ko s.heap it (kf (·.setIfInBounds 0 (rawInt (nx:Int))));generalize s.heap.update it (kf (·.setIfInBounds 0 (rawInt (nx:Int))))=h1 at g1 s1;generalize kf (·.setIfInBounds 0 (rawInt (nx:Int))) oi=o1 at g1 d1 c1;refine dv (wpAny_setField (s:={ s with heap:=h1 }) g1 d1 (by simp) ?_);refine dw ⟨_,rfl,dw (y1 x nx hn _ ⟨_,jI _ g1 (kA (j8 d1 _)),(vH ..).trans c1,?_⟩ (s1.trans (ko ..)))⟩;rw[j8 d1];simp[rawInt]
 | none =>
  dsimp only;refine dv (wpAny_setField hoi hdi (by simp) ?_);show wpAny _ _ (newExc (.type "StopIteration") [] >>= _) _ _ _;refine dv ?_;simp only[newExc,newTuple];refine dv (wpAny_newObj_type (dv (m:=firstArgMember _ _) (wpAny_of_eq (a:=jC) (by first|rfl|(simp only[firstArgMember];rfl)) (wpAny_newObj_type ?_ (by size_fits)))) (by size_fits));simp only[raiseNew];refine dv (wpAny_handled ?_);rw[show A.in1.handled=Gb from hh];refine dv (dw (wpAny_throw ?_));refine(dv (wpAny_isInstance (T:="StopIteration") (b:=true) ⟨_,jm _ rfl,rfl⟩ isSubtype_stop ?_));exact dw (y2 hn _ (((ko ..).extBut.push _).push _))
def VY:Slot "set_iterator" "__iter__" "set_iterator.__iter__" :=
 .of (owner:="set_iterator") (n:="__iter__") (by rw[typeLookup_type,builtinLookup_eq_fast];ext) (by nofun) (by nofun) (by nofun) (by first|exact .inl (by nofun)|exact .inr (by nofun)) (by rw[isSubtype_type];ext)
def zs2:entryFor table "set_iterator.__iter__"=Ga Builtin.«dict_keyiterator.__iter__»:=entryFor_alias (id':="dict_keyiterator.__iter__") nofun rfl (by nofun) nofun
def zuE (a:Gg):argsOk "set_iterator.__iter__" ⟨[a],[]⟩:=by unfold argsOk;ext
def zA7(hit:oQ s.heap it slot i a n ep)(h:Q (.ref it) s):wpAny (model prog w) A (pyIter (.ref it)) Q E s:=by
 have⟨oi,hoi,hc,hdi⟩:=id hit;have ty:s.TypeIs (.ref it) "set_iterator":=⟨oi,hoi,hc⟩;refine wpAny_pyIter_slot ty VY (wpAny_call_entry VY ty zs2 ?_ (zuE _));show wpAny _ _ (ret (.ref it)) _ _ s;exact dw ⟨_,rfl,"set_iterator",_,ty,Hr.lookup,h⟩
def zA8 {x:Gj}{Q:Bool->Gh->Prop}(hT:s.TypeIs (.ref x) "set")(h:Q false s):wpAny (model prog w) A (kz (.ref x)) Q E s:=by
 unfold kz;refine dv (wpAny_specialOf hT PySem.F.slot_set_len.lookup ?_);generalize hid:("set.__len__":String)=id0
 wp_delta
 rw[show splitId id0=Ga ("set","__len__") from by subst hid;decide +kernel];subst hid;refine dv (wpAny_isInstance (T:="set") (b:=true) hT (by rw[isSubtype_type];ext) ?_);refine wpAny_ite_split (λhab=>absurd hab (by decide)) (λ_=>?_);refine wpAny_ite_split (λ_=>?_) (λhab=>absurd (by nofun) hab);refine dv (wpAny_typeOf hT ?_);exact dw h
def ma (w:World)(t:SetTable)(i:Nat):Nat:=if w.params.followText "set-order"=true then 0 else if i=0 then 0 else t.place.getD (i-1) 0+1
def ig (w:World)(a:Gj)(es:Array (Int×Gg))(ep:Nat):Array (Int×Gg):=if w.params.followText "set-order"=true then pickOrder (w.params.setOrder a ep) es else es
def Qy (w:World)(a:Gj)(es:Array (Int×Gg))(ep:Nat):(ig w a es ep).toList.Perm es.toList:=by
 unfold ig;split
 .exact zyX _ _
 .exact .refl _
def IG (w:World)(a:Gj)(es:Array (Int×Gg))(ep:Nat):(ig w a es ep).size=es.size:=by
 rw[<- jP,(Qy w a es ep).length_eq,jP]
def BS (t:SetTable)(i:Nat):Nat:=if i=0 then 0 else t.place.getD (i-1) 0+1
def Rs:∀ (led:Bool) (m:Fin 32) (i:Fin 6),i.val<=(fL led m.val).1.size->SetTable.below (fL led m.val).2.place (BS (fL led m.val).2 i.val)=i.val/\(i.val<(fL led m.val).1.size->(fL led m.val).2.place[i.val]?=Ga ((fL led m.val).2.place.getD i.val 0))/\(fL led m.val).2.place.size=(fL led m.val).1.size:=by nofun
structure Cq (w:World)(a:Gj)(es:Array (Int×Gg))(ep:Nat)(t:SetTable):Prop where
 item:∀ i (hi:i<es.size),∃ e,(ig w a es ep)[i]?=Ga e/\mn w a es ep t (ma w t i) i=Ga (e.2,ma w t (i+1))
 done:mn w a es ep t (ma w t es.size) es.size=Gb
def zy0(hm:m<32)(he:es.size=(fL led m).1.size):Cq w a es ep (fL led m).2:=by
 have sz:=IG w a es ep;cases hb:w.params.followText "set-order" with
 | true =>
  have wa:ig w a es ep=pickOrder (w.params.setOrder a ep) es:=by unfold ig;rw[hb,Ge rfl]
  have sa:∀ i,ma w (fL led m).2 i=0:=λi=>by unfold ma;rw[hb,Ge rfl]
  have nx:∀ s' i,mn w a es ep (fL led m).2 s' i=((ig w a es ep)[i]?).map λe=>(e.2,s'):=λs' i=>by unfold mn;rw[hb,Ge rfl,wa]
  refine⟨λi hi=>⟨(ig w a es ep)[i]'(by rwa[sz]),kE (by rwa[sz]),?_⟩,?_⟩
  .rw[nx,sa,sa,kE (by rwa[sz])];rfl
  .rw[nx,ux (by rw[sz];exact jw _)];rfl
 | false =>
  have wa:ig w a es ep=es:=by unfold ig;rw[hb,Gf (by decide)]
  have sa:∀ i,ma w (fL led m).2 i=BS (fL led m).2 i:=λi=>by unfold ma BS;rw[hb,Gf (by decide)]
  have nx:∀ s' i,mn w a es ep (fL led m).2 s' i=match es[SetTable.below (fL led m).2.place s']?,(fL led m).2.place[SetTable.below (fL led m).2.place s']? with
   | some (_,x),Ga j=>Ga (x,j+1)
   | _,_=>Gb:=λs' i=>by unfold mn;rw[hb,Gf (by decide)]
  have f4:=(Hw led ⟨m,hm⟩).2.2.2.1;dsimp only at f4;refine⟨λi hi=>⟨es[i],by rw[wa];exact kE hi,?_⟩,?_⟩
  .obtain⟨b1,b2,b3⟩:=Rs led ⟨m,hm⟩ ⟨i,by omega⟩ (by dsimp only;omega);dsimp only at b1 b2 b3;rw[nx,sa,sa,b1,b2 (by omega),kE hi];rfl
  .obtain⟨b1,b2,b3⟩:=Rs led ⟨m,hm⟩ ⟨es.size,by omega⟩ (by dsimp only;omega);dsimp only at b1 b2 b3;rw[nx,sa,b1,ux (jw _)]
def zy1 (hh:A.handled=Gb)(I a:Gj)(hne:a≠I)(es:Array (Int×Gg))(ep:Nat)(t:SetTable)(hf:t.fits es.size=true)(hp:t.plain=true)(hl:t.led=hZ w)(W:Cq w a es ep t) :
  Walks prog w A I [I,a] [I] es.size (λi v=>∃ e,(ig w a es ep)[i]?=Ga e/\v=e.2) (λi h=>oQ h I (ma w t i) i a es.size ep/\∃ o,h.get? a=Ga o/\o.data=.set es ep t) where
 sub:=λb hb=>by simp at hb;simp[hb]
 frame:=λ_ _ _ st hk=>⟨st.1.at' λo e=>hk I (by simp) o e,let ⟨o,ho,r⟩:=st.2;⟨o,hk a (by simp) o ho,r⟩⟩
 item:=λi s Q E hi st hQ=>by
  have⟨e,e1,e2⟩:=W.item i hi;have⟨o,ho,hd⟩:=st.2;refine Tw hh st.1 ho hd hf hp hl (λx nx z h' hit' hs'=>?_) λz=>nomatch e2.symm.trans z;cases e2.symm.trans z;exact hQ _ h' s.toks ⟨e,e1,rfl⟩ ⟨hit',o,(hs'.2 a hne).trans ho,hd⟩ λb o hb eo=>hs'.extBut b o (λh=>hb (by simp[h])) eo
 done:=λs Q E st hQ=>by
  have⟨o,ho,hd⟩:=st.2;exact Tw hh st.1 ho hd hf hp hl (λx nx z=>nomatch W.done.symm.trans z) λ_ h' he'=>hQ h' s.toks λb o hb eo=>he' b o (λh=>hb (by simp[h])) eo
 self:=λ_ _ _ _ st hQ=>zA7 st.1 hQ
def zuF {d:Gj}{Q:List Gg->Gh->Prop}(hh:A.handled=Gb)(ho:s.heap.get? d=Ga o)(hex:o.ExactSet)(hd:o.data=.set es ep t)(hf:t.fits es.size=true)(hp:t.plain=true)(hl:t.led=hZ w)(W:Cq w d es ep t)(hn:es.size<=sizeLine)
  (hQ:∀ h' tk acc,(∀ b o,s.heap.get? b=Ga o->h'.get? b=Ga o)->(∃ o,h'.get? s.heap.objs.size=Ga o)->ItemsOf (λi v=>∃ e,(ig w d es ep)[i]?=Ga e/\v=e.2) acc es.size->Q acc.toList { s with heap:=h',toks:=tk }) :
  wpAny (model prog w) A (collect (.ref d)) Q E s:=by
 have hlt:d<s.heap.objs.size:=jg ho;unfold collect;refine dv (wpAny_runValue (codeAny_builtin entry_proto_collect' ?_));show wpAny _ _ (do again (.builtin "list.__iadd__" ⟨[<- newList [],.ref d],[]⟩)) _ _ s;refine dv (wpAny_newList (dw ⟨Code.quiet_builtin _ (by nofun),codeAny_builtin entry_list_iadd' ?_⟩));show wpAny _ _ (jY (.ref s.heap.objs.size) (.ref d) (.ref s.heap.objs.size)) _ _ { s with heap:=s.heap.push (seqObj "list" #[] 0) };have n1:(s.heap.push (seqObj "list" #[] 0)).get? s.heap.objs.size=Ga { cls:=.type "list",data:=.seq #[] 0 }:=jm _ rfl;have kp:∀ b o,s.heap.get? b=Ga o->(s.heap.push (seqObj "list" #[] 0)).get? b=Ga o:=λb o e=>jb _ e;generalize s.heap.push (seqObj "list" #[] 0)=h1 at n1 kp;have hd1:h1.get? d=Ga o:=kp d o ho;unfold jY;refine dv (wpAny_typeOf (s:={ s with heap:=h1 }) (T:="set") ⟨o,hd1,hex.1⟩ ?_);rw[show ud (.ref s.heap.objs.size) (.ref d)=false from by simp[ud,uw hlt]];simp only[show(k8 "set"==k8 "list")=false by decide,show(k8 "set"==k8 "tuple")=false by decide,vT,kH,if_false];refine dv (zDi (s:={ s with heap:=h1 }) hd1 hex hd hf hp ?_);generalize hob:({ cls:=.type "set_iterator",data:=.fields #[.int 0 0,.int 0 0,.ref d,.int es.size 0,.int ep 0] }:Obj)=ob;have kp2:∀ b o,h1.get? b=Ga o->(h1.push ob).get? b=Ga o:=λb o e=>jb _ e;have s0:ma w t 0=0:=by unfold ma;split<;>simp
 have it0:oQ (h1.push ob) h1.objs.size (ma w t 0) 0 d es.size ep:=⟨_,by subst hob;exact jm _ rfl,by subst hob;rfl,by subst hob;rw[s0];rfl⟩;have dI:d≠h1.objs.size:=jB (jg hd1);have sI:s.heap.objs.size≠h1.objs.size:=jB (jg n1);have hd2:=kp2 _ _ hd1;have n2:=kp2 _ _ n1;show wpAny _ _ _ _ _ { s with heap:=h1.push ob };generalize h1.push ob=h2 at kp2 it0 hd2 n2;refine dv (wpAny_holding (zA8 (s:={ s with heap:=h2 }) ⟨o,hd2,hex.1⟩ ?_));refine wpAny_ite_split (λ_=>?_) λz=>absurd (by decide) z;refine dv (wpAny_rule (dv ?_));show wpAny _ _ (updateSeq s.heap.objs.size (·.push .none) >>= λ_=>updateSeq s.heap.objs.size (·.pop)) _ _ _;refine dv (wpAny_updateSeq n2 rfl ?_);have n3:=jI (j7 (·.push jC)) n2 rfl;refine wpAny_updateSeq (hz:=by seq_fits) n3 rfl ?_;have n4:=jI (j7 (·.pop)) n3 rfl;have kp3:∀ b o,b≠s.heap.objs.size->h2.get? b=Ga o->((h2.update s.heap.objs.size (j7 (·.push jC))).update s.heap.objs.size (j7 (·.pop))).get? b=Ga o :=
  λb o hb e=>(jN _ _ (kW hb)).trans ((jN _ _ (kW hb)).trans e)
 have it4:=it0.at' λo e=>kp3 _ o (kW sI) e;have hd4:=kp3 _ _ (jB hlt) hd2;generalize (h2.update s.heap.objs.size (j7 (·.push jC))).update s.heap.objs.size (j7 (·.pop))=h4 at n4 kp3 it4 hd4;refine dw ⟨plainId_quiet PySem.F.plain_extend_loop _,?_⟩;have W:=(zy1 (prog:=prog) (w:=w) (A:=A.in1) (show A.in1.handled=Gb from hh) h1.objs.size d dI es ep t hf hp hl W).toS;refine codeAny_extend_loopS W hn s.heap.objs.size ?_ _ es.size 0 { s with heap:=h4 } #[] _ rfl (ku _) ⟨it4,o,hd4,hd⟩ n4 (ItemsOf.nil _) λs' acc c m nn it=>?_
 .simp only[jz,jQ,or_false,not_or];exact⟨sI,uw hlt⟩
 .show wpAny _ A (load s.heap.objs.size >>= _) _ _ s';refine dv (wpAny_load nn (dw ?_));rw[Moved.eq_with m] at nn ⊢;refine hQ s'.heap s'.toks acc (λb o e=>m.heap b o (λz=>?_) (kp3 _ _ (jB (jg e)) (kp2 _ _ (kp b o e)))) ⟨_,nn⟩ it;simp only[jz,jQ,or_false] at z;rcases z with z|z
  .exact absurd (jg e) (by rw[z];exact ka _)
  .exact absurd (jg (kp b o e)) (by rw[z];exact ka _)
end
def ZZ:D->Option Nat
 | .int i=>if 0<=i/\i<5 then Ga i.toNat else Gb
 | _=>Gb
def ET:List D->Option (List Nat)
 | []=>Ga []
 | d::r=>(ZZ d).bind λk=>(ET r).bind λl=>Ga (k::l)
def BQ (l:List Nat):List D:=(sS l).map λ(k:Nat)=>jO (k:Int)
def Hh (f:FL):FL:=λψ=>(f ψ).bind λds=>(ET ds).bind λl=>Ga (BQ l)
def nu (l:List Nat):Nat:=mQ (λi=>l.getD i 0) l.length
def OF (val:Nat->Nat)(k:Nat):∀ n,(mQ val n).testBit k=(kF n).any λi=>val i==k
 | 0=>by show(0:Nat).testBit k=_;simp
 | n+1=>by
  show(mQ val n ||| 2^val n).testBit k=_;rw[Nat.testBit_or,OF val k n,List.range_succ,List.any_append,Nat.testBit_two_pow];rw[vU,List.any_nil,vT]
  congr 1
def zA9 (l:List Nat)(k:Nat):(nu l).testBit k=l.contains k:=by
 unfold nu;rw[OF];apply uI.mpr;rw[JG,vO];constructor
 .rintro⟨i,hi,e⟩;have hi:=kY.mp hi;rw[beq_iff_eq,jF,jn hi] at e;rw[<- show l[i]=k from e];exact qC hi
 .intro h;have⟨i,hi,e⟩:=List.mem_iff_getElem.mp h;refine⟨i,kY.mpr hi,?_⟩;rwa[beq_iff_eq,jF,jn hi]
def zDj (l:List Nat)(h:∀ k∈l,k<5):nu l<32:=by
 refine Na (λi=>?_) _;rw[jF];cases q:l[i]? with
 | none=>show 0<5;decide
 | some k=>exact h k (jW q)
def zy2 (l:List Nat):((kF 5).filter λk=>(nu l).testBit k)=sS l:=by
 unfold sS
 congr 1
 funext k
 exact zA9 l k
def ON:∀ (n:Nat) (l:List Nat),l.Nodup->(∀ x∈l,x<5)->l.length<=n->l∈ES n
 | 0,l,_,_,h=>by
  have:l=[]:=vD.mp (by omega);subst this;exact jD.mpr rfl
 | n+1,[],_,_,_=>jh
 | n+1,k::l,hd,h5,hl=>by
  have hd2:=uY.mp hd;refine jd _ (List.mem_flatMap.mpr ⟨k,kY.mpr (h5 k jh),ue.mpr ⟨l,uG.mpr ⟨ON n l hd2.2 (λx hx=>h5 x (jd _ hx)) (by simp at hl;omega),?_⟩,rfl⟩⟩);rw[u8,<- Bool.not_eq_true,vO];exact hd2.1
def zwN {l:List Nat}(hd:l.Nodup)(h5:∀ x∈l,x<5)(hl:l.length<=5):oK (l.map λ(k:Nat)=>jO (k:Int))=Ga (BQ l):=by
 have:=k6.mp zyY l (ON 5 l hd h5 hl);rw[beq_iff_eq] at this;have⟨rs,e1,e2⟩:=dz this;rw[e1,DF e2,uz];rfl
def zy3 (hc:X.calm=true):gk X (.type "set") (λvs H Q=>∃ (p:Gj) (l:List Nat),vs=[.ref p]/\fQ X.K H p (l.map λ(k:Nat)=>V.int (k:Int))/\(∀ k∈l,k<5)/\∀ a,H a=Gb->Q (.ref a) (upd H a (.ext λh=>CS h a (hZ X.w) (nu l)))):=by
 intro ω s σ H vs us Q I r h;obtain⟨p,l,rfl,hl,h5,q⟩:=h;obtain⟨u,rfl,ru⟩:=iP r;cases ru;have⟨its,rv,pl,hz⟩:=I.list hl;have hlen:its.length=l.length:=by rw[<- rv.length,jk]
 refine zDh (its:=its.toArray) (val:=λi=>l.getD i 0) (I.ok.hd hc) pl.isList (λi=>?_) (λi v hv=>?_) λh' tk cs keep=>?_
 .rw[jF];cases q:l[i]? with
  | none=>show 0<5;decide
  | some k=>exact h5 k (jW q)
 .have hi:i<l.length:=by
   rw[<- hlen];have:=(kj.mp hv).1
   simpa using this
  have e1:(l.map λ(k:Nat)=>V.int (k:Int))[i]?=Ga (V.int (l[i]:Int)):=by rw[jE,jn hi];rfl
  have⟨u,e2,ru⟩:=rv.get e1;rw[vN,e2] at hv;cases hv;rwa[jF,jn hi]
 .have cs':CS h' s.heap.objs.size (hZ X.w) (nu l):=by
   unfold nu;rwa[<- hlen,<- ji]
  have ex:∃ o,h'.get? s.heap.objs.size=Ga o:=by obtain⟨_,⟨o,_,ho,_⟩,_⟩:=cs;exact⟨o,ho⟩
  refine⟨.ref _,_,I.laid (t':=tk) (o:=.ext λh=>CS h s.heap.objs.size (hZ X.w) (nu l)) (λb u hb=>keep b u (jg hb) hb) (jw _) ⟨cs',ex,λh1 h2 c k=>c.keep k⟩,rfl,q _ (I.hok.fresh (jw _))⟩
def Zv (hc:X.calm=true):gk X (.builtin "sorted") (λvs H Q=>∃ (F:Hp) (p:Gj) (m:Nat),vs=[.ref p]/\dA F H/\m<32/\H p=Ga (.ext λh=>CS h p (hZ X.w) m)/\∀ a ys,H a=Gb->dM X.K F (((kF 5).filter λk=>m.testBit k).map λ(k:Nat)=>jO (k:Int)) ys->Q (.ref a) (upd H a (.lst ys))):=by
 intro ω s σ H vs us Q I r h;obtain⟨F,p,m,rfl,g,hm,hp,q⟩:=h;obtain⟨u,rfl,ru⟩:=iP r;cases ru;obtain⟨es,⟨o,ep,ho,hex,hd⟩,he,hv⟩:CS s.heap p (hZ X.w) m:=(I.hok _ _ hp).1;have⟨f1,f2,f3,f4,f5⟩:=Hw (hZ X.w) ⟨m,hm⟩;dsimp only at f1 f2 f3 f4 f5;have hsz:es.size=(fL (hZ X.w) m).1.size:=by rw[<- he,vg]
 have fs:=CS.fst (h:=s.heap) (a:=p) hm he;have W:=zy0 (w:=X.w) (a:=p) (ep:=ep) hm hsz;have wp:=Qy X.w p es ep;have key:∃ l:List Nat,l.Nodup/\(∀ x∈l,x<5)/\l.length<=5/\sS l=((kF 5).filter λk=>m.testBit k)/\eC (l.map λ(k:Nat)=>V.int (k:Int)) ((ig X.w p es ep).toList.map (·.2)):=by
  have pm:((ig X.w p es ep).toList.map λe=>e.1.toNat).Perm ((kF 5).filter λk=>m.testBit k):=by
   have:=(wp.map λe:Int×Gg=>e.1.toNat);refine this.trans ?_;have e2:es.toList.map (λe=>e.1.toNat)=(es.toList.map (·.1)).map Int.toNat:=by rw[uz];rfl
   rw[e2,fs,uz];have:(Int.toNat∘λ(k:Nat)=>(k:Int))=id:=by funext k;exact um k
   rw[this,List.map_id]
  have nd:((kF 5).filter λk=>m.testBit k).Nodup:=(List.nodup_range).filter _;refine⟨(ig X.w p es ep).toList.map λe=>e.1.toNat,pm.nodup_iff.mpr nd,λx hx=>?_,?_,?_,?_⟩
  .exact kY.mp (uG.mp (pm.mem_iff.mp hx)).1
  .rw[jk,jP,IG];omega
  .unfold sS;refine List.filter_congr λk hk=>?_;apply uI.mpr;rw[vO,pm.mem_iff,uG];exact⟨λz=>z.2,λz=>⟨hk,z⟩⟩
  .have hv2:∀ e∈(ig X.w p es ep).toList,∃ tk,e.2=.int (e.1.toNat:Int) tk:=λe hm2=>by
    have hm3:=wp.mem_iff.mp hm2;have⟨tk,et⟩:=hv e hm3;have:e.1∈es.toList.map (·.1):=ue.mpr ⟨e,hm3,rfl⟩;rw[fs] at this;have⟨j,_,ej⟩:=ue.mp this;refine⟨tk,?_⟩;rw[et,<- ej,um]
   generalize (ig X.w p es ep).toList=L at hv2;induction L with
   | nil=>exact .nil
   | cons e L ih=>exact .cons (hv2 e jh) (ih λe h=>hv2 e (jd _ h))
 obtain⟨l,nd,h5,hl,hr,rv⟩:=key;have e:=zwN nd h5 hl;have rr:dM X.K F (l.map λ(k:Nat)=>jO (k:Int)) (l.map λ(k:Nat)=>V.int (k:Int)):=by
  have:=Hj (K:=X.K) (F:=F) (l.map λ(k:Nat)=>(k:Int));rw[uz,uz] at this;exact this
 refine Ux I g rv rr e (λA' Q' E' ha k=>zuF (by rw[ha];exact I.ok.hd hc) ho hex hd (by rwa[hsz]) f1 f2 W (by rw[hsz,sizeLine_eq];omega) λh' tk acc k1 k2 it=>?_) λa ys ha ry=>q a ys ha (by unfold BQ at ry;rw[hr] at ry;exact ry);have:acc.toList=(ig X.w p es ep).toList.map (·.2):=by
  refine List.ext_getElem? λi=>?_;rw[jE];by_cases hi:i<es.size
  .have ha:i<acc.size:=by rwa[it.1]
   have⟨en,e1,e2⟩:=it.2 i acc[i] (kE ha);rw[kS,kS,kE ha,e1,e2];rfl
  .rw[kS,kS,ux (by rw[it.1];omega),ux (by rw[IG];omega)];rfl
 rw[this];exact k h' tk k1 k2
def zBa:bootBuiltins "set"=Ga (.type "set"):=by nofun
def VR {K:ja}{F:Hp}:∀ {ds:List D} {xs:List V} {l:List Nat},ET ds=Ga l->dM K F ds xs->xs=l.map (λ(k:Nat)=>V.int (k:Int))/\∀ k∈l,k<5
 | [],_,_,e,.nil=>by cases e;exact⟨rfl,λk h=>by cases h⟩
 | d::r,_,_,e,.cons h t=>by
  have⟨k,e1,e⟩:=dz e;have⟨l,e2,e⟩:=dz e;cases e;have⟨i1,i2⟩:=VR e2 t;obtain⟨i,rfl⟩:∃ i,d=.int i:=by cases d<;>first|exact⟨_,rfl⟩|(exact absurd e1 (by intro z;cases z))
  have e1':(if 0<=i/\i<5 then Ga i.toNat else Gb)=Ga k:=e1;split at e1'
  .rename_i c;cases e1';cases h;refine⟨?_,λk hk=>?_⟩
   .rw[kh,<- i1]
    congr 2
    omega
   .rcases jz.mp hk with z|z
    .omega
    .exact i2 k z
  .cases e1'
def zy4{f:FL}{pos2:Pos}(hc:X.calm=true)(hg:Gl X "sorted")(hm:X.mg "sorted"=Gb)(hg2:Gl X "set")(hm2:X.mg "set"=Gb)(ha:rq X e f)(hs:Sb X e:=by rfl)
  (hs2:starEach [.Call (.Name "set" p2) [e] [] pos2] X.env=[(false,eval (.Call (.Name "set" p2) [e] [] pos2) X.env)]:=by rfl):PO X (.Call (.Name "sorted" p) [.Call (.Name "set" p2) [e] [] pos2] [] pos) (Hh f):=by
 refine fG (xQ (Zv hc) hg hm boot_sorted (Bt (zy3 hc) hg2 hm2 zBa ha (hs:=hs)) (hs:=hs2)) λσ H Q=>?_;rintro⟨H0,F,ψ,rs,r,e,q⟩;have⟨ds,e1,e⟩:=dz e;have⟨l,e2,e⟩:=dz e;cases e;refine⟨H0,F,ψ,ds,r,e1,λb xs H1 F1 g1 f1 fh1 n1 hl rr=>?_⟩;obtain⟨rfl,h5⟩:=VR e2 rr;refine⟨b,l,rfl,hl,h5,λa ha=>⟨F1,a,nu l,rfl,fh1.trans (dA.new ha),zDj l h5,dH,λa2 ys ha2 ry=>?_⟩⟩;have s1:dA H1 (upd H1 a (.ext λh=>CS h a (hZ X.w) (nu l))):=dA.new ha;have s2:dA (upd H1 a (.ext λh=>CS h a (hZ X.w) (nu l))) (upd (upd H1 a (.ext λh=>CS h a (hZ X.w) (nu l))) a2 (.lst ys)):=dA.new ha2;rw[zy2] at ry;exact q a2 ys _ F1 (g1.trans (s1.trans s2)) f1 (fh1.trans (s1.trans s2)) n1 (g1.free (s1.free ha2)) (fh1.free (s1.free ha2)) dH ry
noncomputable def LB (f:FV):FS:=λψ=>(f ψ).bind λd=>Ga (.rc d ψ)
def zES(h:PV X e f):im X (.Return (Ga e) pos) (LB f):=by
 refine iR (rR h) λE σ H=>?_;rintro⟨H0,F,ψ,o,r,e,p⟩;have⟨d,e1,e⟩:=dz e;cases e;exact⟨H0,F,ψ,d,r,e1,λv H' F' g f1 fh n rv=>p v σ H' F' f1 (n.dn r.h0) (r.grow g f1 fh n) rv⟩
abbrev FA:=En->Option (List Arg)
noncomputable section
def dL (d:D)(ψ:En):Option D:=Ga d
def dY (op:D->D->Option D)(f g:FV)(ψ:En):Option D:=(f ψ).bind λx=>(g ψ).bind λy=>op x y
def ie (op:D->Option D)(f:FV)(ψ:En):Option D:=(f ψ).bind op
def sw (op:List D->Option D)(f:FL)(ψ:En):Option D:=(f ψ).bind op
def gW (f:FV)(ψ:En):Option Bool:=(f ψ).bind DG
def gR (op:D->D->Option D)(f g:FV)(ψ:En):Option Bool:=((f ψ).bind λx=>(g ψ).bind λy=>op x y).bind gI
def lJ (f:FB)(ψ:En):Option Bool:=(f ψ).bind λc=>Ga (!c)
def mh (f g:FB)(ψ:En):Option Bool:=(f ψ).bind λc=>if c then Ga true else g ψ
def FK (f g:FV)(ψ:En):Option D:=((f ψ).bind gI).bind λc=>if c then g ψ else Ga (.bool false)
def Kk (f g:FV)(ψ:En):Option D:=((f ψ).bind gI).bind λc=>if c then Ga (.bool true) else g ψ
def pY (c:FB)(f g:FV)(ψ:En):Option D:=(c ψ).bind λk=>if k then f ψ else g ψ
def Me (k k':D->D->Option D)(f g h:FV):FV:=λψ=>(f ψ).bind λx=>(g ψ).bind λy=>((k x y).bind gI).bind λt=>if t then(h ψ).bind λz=>k' y z else Ga (.bool false)
def zy5 (k k':D->D->Option D)(f g h:FV)(ψ:En):Me k k' f g h ψ=(f ψ).bind λx=>(g ψ).bind λy=>((k x y).bind gI).bind λt=>if t then(h ψ).bind λz=>k' y z else Ga (.bool false):=(rfl)
def KU (k k':D->D->Option D)(f g h:FV):FB:=λψ=>((f ψ).bind λx=>(g ψ).bind λy=>((k x y).bind gI).bind λt=>if t then(h ψ).bind λz=>k' y z else Ga (.bool false)).bind gI
def zy6 (k k':D->D->Option D)(f g h:FV)(ψ:En):KU k k' f g h ψ=((f ψ).bind λx=>(g ψ).bind λy=>((k x y).bind gI).bind λt=>if t then(h ψ).bind λz=>k' y z else Ga (.bool false)).bind gI:=(rfl)
def eS :FL:=λψ=>Ga []
def zDk  (ψ:En):eS ψ=Ga []:=(rfl)
def dN (f:FV)(g:FL)(ψ:En):Option (List D):=(f ψ).bind λd=>(g ψ).bind λds=>Ga (d::ds)
def oH (g:FL)(ψ:En):Option D:=(g ψ).bind λds=>Ga (.tuple ds)
def io (g:FL)(ψ:En):Option D:=(g ψ).bind λds=>Ga (.list ds)
def eD (fm:List D->Option D)(g:FL)(ψ:En):Option D:=(g ψ).bind fm
def UO (fm:List D->Option (List D))(g:FL)(ψ:En):Option (List D):=(g ψ).bind fm
def zw (f:FV)(ψ:En):Option (List D):=(f ψ).bind An
def Rf (f:FL)(ψ:En):Option (List D):=(f ψ).bind λxs=>Ga xs.reverse
def MM (f:FV)(ψ:En):Option (List D):=(f ψ).bind toS
def iY (op:D->Option (List D))(f:FV)(ψ:En):Option (List D):=(f ψ).bind op
def HA (op:D->D->Option (List D))(f g:FV)(ψ:En):Option (List D):=(f ψ).bind λx=>(g ψ).bind λy=>op x y
def GW (i:Nat)(f:FV)(ψ:En):Option gY:=(go i ψ).bind λds=>(f ψ).bind λd=>(An d).bind λes=>(Cb ds es).bind λrs=>Ga (.nx (ψ.set i (.own rs)))
def QF (f:FL)(ψ:En):Option (List D):=(f ψ).bind oK
def Fb (f:FL)(g:FV)(ψ:En):Option D:=(f ψ).bind λx=>(g ψ).bind λy=>EW x y
def su :FP:=λψ=>Ga Gb
def Yo  (ψ:En):su ψ=Ga Gb:=(rfl)
def Ay (f:FV)(ψ:En):Option (Option Int):=(f ψ).bind Kb
def fF :FS:=λψ=>Ga (.nx ψ)
def zEV  (ψ:En):fF ψ=Ga (.nx ψ):=(rfl)
def nA :FS:=λψ=>Gb
def zDm  (ψ:En):nA ψ=Gb:=(rfl)
def eK (g k:FS)(ψ:En):Option gY:=mT (g ψ) k
def fX (f:FV)(ψ:En):Option gY:=(f ψ).bind λd=>Ga (.rt d)
def Kd (f:FL)(ψ:En):Option gY:=(f ψ).bind λd=>Ga (.ro d)
def fH (c:FB)(g k:FS)(ψ:En):Option gY:=(c (frz ψ)).bind λt=>if t then g ψ else k ψ
def fU (i:Nat)(f:FV)(ψ:En):Option gY:=(f ψ).bind λd=>Ga (.nx (ψ.set i (.val d)))
def zF (i:Nat)(f:FL)(ψ:En):Option gY:=(f ψ).bind λd=>Ga (.nx (ψ.set i (.own d)))
def FE (i:Nat)(g:FS)(ψ:En):Option gY:=(g ψ).bind λo=>Ga (Cn i o)
def Oz (i:Nat)(g:FS)(ψ:En):Option gY:=g (frzAt i ψ)
def AS (i:Nat)(f:FV)(ψ:En):Option gY:=(go i ψ).bind λds=>(f ψ).bind λd=>if ds.length<1000000 then Ga (.nx (ψ.set i (.own (ds++[d])))) else Gb
def nD (f:FL)(t:FT)(g:FS)(ψ:En):Option gY:=(f ψ).bind λds=>gB t g ds ψ
def Vz (f:FV)(t:FT)(ψ:En):Option gY:=(f ψ).bind λd=>(t d ψ).bind λenv1=>Ga (.nx env1)
def iK (i:Nat):FT:=λd ψ=>Ga (ψ.set i (.val d))
def QY:pL:=λds ψ=>match ds with|[]=>Ga ψ|_=>Gb
def IP (t:FT)(u:pL):pL:=λds ψ=>match ds with|d::r=>(t d ψ).bind λenv1=>u r env1|[]=>Gb
def Nl (u:pL):FT:=λd ψ=>(AJ d).bind λds=>u ds ψ
def zEY (i:Nat)(d:D)(ψ:En):iK i d ψ=Ga (ψ.set i (.val d)):=(rfl)
def zBf (ψ:En):QY [] ψ=Ga ψ:=(rfl)
def zy7 (t:FT)(u:pL)(d:D)(r:List D)(ψ:En):IP t u (d::r) ψ=(t d ψ).bind λenv1=>u r env1:=(rfl)
def zEZ (u:pL)(d:D)(ψ:En):Nl u d ψ=(AJ d).bind λds=>u ds ψ:=(rfl)
def zwQ (d:D)(k:FS):mT (Ga (.rt d)) k=Ga (.rt d):=(rfl)
def zwR (e:En)(k:FS):mT (Ga (.nx e)) k=k e:=(rfl)
def zwS:frz []=[]:=(rfl)
def zuJ (s:Sl)(e:En):frz (s::e)=ia s::frz e:=(rfl)
def zBg:ia .no=.no:=(rfl)
def zy8 (d:D):ia (.val d)=.val d:=(rfl)
def zy9 (d:List D):ia (.own d)=.val (.list d):=(rfl)
def zE0 (d:D)(e:En):gv 0 (.val d::e)=Ga d:=(rfl)
def zE1 (a0:Sl)(d:D)(e:En):gv 1 (a0::.val d::e)=Ga d:=(rfl)
def zE2 (a0:Sl)(d:List D)(e:En):go 1 (a0::.own d::e)=Ga d:=(rfl)
def zE3 (a0:Sl)(d:List D)(e:En):gl 1 (a0::.own d::e)=Ga d:=(rfl)
def zDo (a0:Sl)(x s:Sl)(e:En):List.set (a0::x::e) 1 s=a0::s::e:=(rfl)
def XX (a0:Sl)(d:List D)(e:En):frzAt 1 (a0::.own d::e)=a0::.val (.list d)::e:=(rfl)
def zE5 (a0 a1:Sl)(d:D)(e:En):gv 2 (a0::a1::.val d::e)=Ga d:=(rfl)
def zDp (a0 a1:Sl)(x s:Sl)(e:En):List.set (a0::a1::x::e) 2 s=a0::a1::s::e:=(rfl)
def YF (a0 a1 a2:Sl)(d:D)(e:En):gv 3 (a0::a1::a2::.val d::e)=Ga d:=(rfl)
def zE7 (a0 a1 a2:Sl)(d:List D)(e:En):go 3 (a0::a1::a2::.own d::e)=Ga d:=(rfl)
def zE8 (a0 a1 a2:Sl)(d:List D)(e:En):gl 3 (a0::a1::a2::.own d::e)=Ga d:=(rfl)
def zDq (a0 a1 a2:Sl)(x s:Sl)(e:En):List.set (a0::a1::a2::x::e) 3 s=a0::a1::a2::s::e:=(rfl)
def zE9 (a0 a1 a2:Sl)(d:List D)(e:En):frzAt 3 (a0::a1::a2::.own d::e)=a0::a1::a2::.val (.list d)::e:=(rfl)
def zFa (a0 a1 a2:Sl)(x:Sl)(e:En):zN (a0::a1::a2::x::e)[3]?=zN (Ga x):=(rfl)
def zFb (a0 a1 a2 a3:Sl)(d:D)(e:En):gv 4 (a0::a1::a2::a3::.val d::e)=Ga d:=(rfl)
def Zj (a0 a1 a2 a3:Sl)(x s:Sl)(e:En):List.set (a0::a1::a2::a3::x::e) 4 s=a0::a1::a2::a3::s::e:=(rfl)
def zFc (a0 a1 a2 a3:Sl)(d:List D)(e:En):frzAt 4 (a0::a1::a2::a3::.own d::e)=a0::a1::a2::a3::.val (.list d)::e:=(rfl)
def zFd (a0 a1 a2 a3 a4:Sl)(d:D)(e:En):gv 5 (a0::a1::a2::a3::a4::.val d::e)=Ga d:=(rfl)
def zDs (a0 a1 a2 a3 a4:Sl)(x s:Sl)(e:En):List.set (a0::a1::a2::a3::a4::x::e) 5 s=a0::a1::a2::a3::a4::s::e:=(rfl)
def zFe (a0 a1 a2 a3 a4 a5:Sl)(d:D)(e:En):gv 6 (a0::a1::a2::a3::a4::a5::.val d::e)=Ga d:=(rfl)
def zDt (a0 a1 a2 a3 a4 a5:Sl)(x s:Sl)(e:En):List.set (a0::a1::a2::a3::a4::a5::x::e) 6 s=a0::a1::a2::a3::a4::a5::s::e:=(rfl)
def zFf (a0 a1 a2 a3 a4 a5 a6 a7:Sl)(d:D)(e:En):gv 8 (a0::a1::a2::a3::a4::a5::a6::a7::.val d::e)=Ga d:=(rfl)
def zDu (a0 a1 a2 a3 a4 a5 a6 a7:Sl)(x s:Sl)(e:En):List.set (a0::a1::a2::a3::a4::a5::a6::a7::x::e) 8 s=a0::a1::a2::a3::a4::a5::a6::a7::s::e:=(rfl)
def Yl (e:En):gm [] e=[]:=(rfl)
def Zk (i:Nat)(ix:List Nat)(e:En):gm (i::ix) e=zN e[i]?::gm ix e:=(rfl)
def zwU (d:D):zN (Ga (.val d))=.val d:=(rfl)
def ZS (i:Nat)(e:En):Cn i (.nx e)=.nx (frzAt i e):=(rfl)
def Rt (d:D):eZ (Ga (.rt d))=Ga d:=(rfl)
def zBh (d:List D):eZ (Ga (.ro d))=Ga (.list d):=(rfl)
def zFh (b:Bool):gI (.bool b)=Ga b:=(rfl)
def zBi (b:Bool):DG (.bool b)=Ga b:=(rfl)
def zFi (d:List D):An (.list d)=Ga d:=(rfl)
def Za (d:List D):AJ (.tuple d)=Ga d:=(rfl)
def Rk (d:List D):toS (.list d)=Ga d:=(rfl)
def Ro (d:List D):toS (.tuple d)=Ga d:=(rfl)
def zFk (i:Int):Kb (.int i)=Ga (Ga i):=(rfl)
def zFl (i j:Int):eB (.int i) (.int j)=Ga (.int (i+j)):=(rfl)
def zFm (i:Int):zM (.int i)=Ga (.int (-i)):=(rfl)
def YW (i j:Int):pH (.int i) (.int j)=Ga (.bool (decide (i<j))):=(rfl)
def zG3 (i j:Int):mf (.int i) (.int j)=Ga (.bool (decide (i<=j))):=(rfl)
def zFn (d:List D)(i:Int):EW d (.int i)=atI d i:=(rfl)
def zDv (d:List D):nN d=Ga (.tuple d):=(rfl)
def zzD (c:dZ)(φ:D->Option D)(f:FV)(e:En):mS 0 c φ f (.fn c::e)=(f (.fn c::e)).bind φ:=Ge rfl
def zzE (a0 a1:Sl)(c:dZ)(fm:List D->Option D)(g:FL)(e:En):mD 2 c fm g (a0::a1::.fn c::e)=(g (a0::a1::.fn c::e)).bind fm:=Ge rfl
def zzF (P:Gj):ia (.tab P)=.tab P:=(rfl)
def zBj (c:dZ):ia (.fn c)=.fn c:=(rfl)
def zBk:sA .none .none=Ga (.bool true):=(rfl)
def zwV:nM .none .none=Ga (.bool false):=(rfl)
def zpG (x:List D):lO "tuple" (.tuple x)=Ga (.bool true):=(rfl)
def zwW (x:Int):nM (.int x) .none=Ga (.bool true):=(rfl)
def ZN(a b:α):(if false=true then a else b)=b:=Gf jV
def Ln (I:En->Prop)(o:Option gY):Prop:=∃ e,o=Ga (.nx e)/\I e
def UA {t:FT}{g:FS}{ψ:En}(I:En->Prop)(h0:I ψ)(st:∀ d∈ds,∀ ψ,I ψ->Ln I ((t d ψ).bind g)):Ln I (gB t g ds ψ):=by
 refine UB I h0 λd hd e he=>?_;have⟨e2,h1,h2⟩:=st d hd e he;have⟨e1,x1,x2⟩:=Option.bind_eq_some_iff.mp h1;exact⟨e1,e2,x1,x2,h2⟩
def wI (fi:FL)(fc:FB)(fe:FV)(ix:List Nat)(ψ:En):fB fi fc fe ix ψ=(fi ψ).bind λds=>if ds.length<=1000000 then fI fc fe (gm ix ψ) ds else Gb:=(rfl)
end
noncomputable section
def zY (f:FV)(g h:FP)(ψ:En):Option D:=(f ψ).bind λx=>(g ψ).bind λl=>(h ψ).bind λu=>BF x l u
end
noncomputable section
def Wc (f:FV)(ψ:En):Option gY:=(f ψ).bind λd=>Ga (.rc d ψ)
def XY (d:D)(e:En)(k:FS):mT (Ga (.rc d e)) k=Ga (.rc d e):=(rfl)
end
abbrev sg (x:Str):List Nat:=x.cps.toList
def iA (l:List Nat):Str:=⟨l.toArray⟩
def nG (l:List Nat):sg (iA l)=l:=rfl
def nO (x:Str):iA (sg x)=x:=by cases x;rfl
def yx(h:sg x=sg y):x=y:=by rw[<- nO x,<- nO y,h]
def one (c:Nat):D:=.str ⟨#[c]⟩
def QQ{f:Gg}{r r':List V->Hp->VK->Prop}(h:gk X f r)(h':gk X f r'):gk X f (λvs H Q=>r vs H Q\/r' vs H Q):=λω s σ H xs us Q I rv q=>q.elim (h ω s σ H xs us Q I rv) (h' ω s σ H xs us Q I rv)
def fR:D->Option D
 | .str x=>if x.length<=sizeLine then Ga (.int x.length) else Gb
 | d=>lN d
def oI(hg:Gl X "len")(hm:X.mg "len"=Gb)(ha:PV X e f)(hs:Sb X e:=by rfl):PV X (.Call (.Name "len" p) [e] [] pos) (un fR f):=by
 refine fG (xQ (QQ za og) hg hm qY ha (hs:=hs)) λσ H Q=>?_;rintro⟨H0,F,ψ,d,r,e,q⟩;have⟨d',e1,e⟩:=dz e;refine⟨H0,F,ψ,d',r,e1,λv H1 F1 g1 f1 fh1 n1 rv=>?_⟩;cases rv<;>first|(cases e;done)|skip
 .rename_i x;have e':(if x.length<=sizeLine then Ga (jO x.length) else Gb)=Ga d:=e;split at e'
  .rename_i hz;cases e';exact .inl ⟨x,rfl,hz,q _ H1 F1 g1 f1 fh1 n1 (.int _)⟩
  .cases e'
 .rename_i p xs ds h1 h2;cases e;exact .inr ⟨p,xs,rfl,.inr (iu fh1 h1),q _ H1 F1 g1 f1 fh1 n1 (by rw[h2.length];exact .int _)⟩
 .rename_i p xs ds h1 h2;cases e;exact .inr ⟨p,xs,rfl,.inl (fh1.seq h1),q _ H1 F1 g1 f1 fh1 n1 (by rw[h2.length];exact .int _)⟩
def fq:D->D->Option D
 | .str x,.int i=>if x.length<=sizeLine then(atI (sg x) i).map one else Gb
 | a,b=>gy a b
variable {a:Expr}{es:List Expr}{Q:Unit->Gh->Prop}{t:FT}
def gq(ha:PV X a f)(hb:PV X b g)(hs:sW b:=by exact λ_ _=>rfl):PV X (.Subscript a b pos) (dX fq f g):=by
 refine fG (BI CW ha hb hs) λσ H Q h=>?_;obtain⟨H0,F,ψ,d,r,e,q⟩:=h;have⟨x,e1,e2⟩:=dz e;have⟨y,e3,e4⟩:=dz e2;by_cases hx:∃ s,x=.str s
 .obtain⟨s,rfl⟩:=hx;obtain⟨i,rfl⟩:∃ i,y=.int i:=by cases y<;>first|exact⟨_,rfl⟩|(exact absurd e4 (by intro z;cases z))
  have e5:(if s.length<=sizeLine then(atI (sg s) i).map one else Gb)=Ga d:=e4;split at e5;rotate_left
  .cases e5
  rename_i hz;obtain⟨c,e6,rfl⟩:=uV.mp e5;refine⟨H0,F,ψ,.str s,r,e1,λv H1 F1 g1 f1 fh1 n1 rv=>⟨H0,F1,ψ,.int i,r.grow g1 f1 fh1 n1,e3,λw H2 F2 g2 f2 fh2 n2 rw_=>?_⟩⟩;cases rv;cases rw_;exact .inr (.inr ⟨s,i,c,rfl,rfl,hz,e6,q _ H2 F2 (g1.trans g2) (f1.trans f2) fh2 (n1.trans n2 g1) (.str _)⟩)
 .have e5:gy x y=Ga d:=by
   rw[<- e4];unfold fq;split
   .exact absurd ⟨_,rfl⟩ hx
   .rfl
  exact CM Re ⟨H0,F,ψ,d,r,by show(f ψ).bind _=_;rw[e1];show(g ψ).bind _=_;rwa[e3],q⟩
def lz (len dflt:Nat):Option Int->Nat
 | none=>dflt
 | some i=>(max 0 (min (if i<0 then i+(len:Int) else i) (len:Int))).toNat
def ng (x:Str)(lo hi:Option Int):Str:=iA (((sg x).drop (lz x.length 0 lo)).take (lz x.length x.length hi-lz x.length 0 lo))
def GC (len:Nat)(o:Option Int):lz len len o<=len/\lz len 0 o<=len:=by
 cases o with
 | none=>exact⟨jw _,ku _⟩
 | some i=>unfold lz;dsimp only;split<;>omega
def SO (len dd:Nat)(o:Option Int):(match o with|none=>(dd:Int)|some i=>max 0 (min (if i<0 then i+(len:Int) else i) (len:Int)))=((lz len dd o:Nat):Int):=by
 cases o with
 | none=>rfl
 | some i=>show max 0 (min (if i<0 then i+(len:Int) else i) (len:Int))=(((max 0 (min (if i<0 then i+(len:Int) else i) (len:Int))).toNat:Nat):Int);omega
def UU (len:Nat)(lo hi:Option Int):kX lo hi 1 len=(kF (lz len len hi-lz len 0 lo)).map λk=>lz len 0 lo+k:=by
 have key:kX lo hi 1 len=sliceRange ((lz len 0 lo:Nat):Int) ((lz len len hi:Nat):Int) 1:=by
  rw[<- SO len 0 lo,<- SO len len hi];cases lo<;>cases hi<;>rfl
 rw[key];generalize lz len 0 lo=a;generalize lz len len hi=b;unfold sliceRange;simp only[show((1:Int)>0)=True from by simp,if_true];by_cases hlt:(a:Int)<b
 .have e3:(((b:Int)-a+1-1)/1).toNat=b-a:=by first|omega|(simp;done)|(simp;omega)
  simp only[hlt,if_true,e3];refine List.map_congr_left λk _=>?_;omega
 .have:b-a=0:=by omega
  simp[hlt,this]
def Zz (x:Str)(lo hi:Option Int):(kX lo hi 1 x.length).filterMap (x.cps[·]?)=sg (ng x lo hi):=by
 have l1:=(GC x.length lo).2;have l2:=(GC x.length hi).1;rw[UU];have h:=StrLaws.picks x.cps.toList (lz x.length x.length hi-lz x.length 0 lo);by_cases c:lz x.length 0 lo<=lz x.length x.length hi
 .have:=h (lz x.length 0 lo) (by simp[Jk] at l1 l2 ⊢;omega);show _=((sg x).drop _).take _
  simpa using this
 .unfold ng;rw[show lz x.length x.length hi-lz x.length 0 lo=0 by omega];rfl
def zBl{lo hi:Option Int}(h:(kX lo hi 1 x.length).length=x.length):ng x lo hi=x:=by
 have l1:=(GC x.length lo).2;have l2:=(GC x.length hi).1;rw[UU,jk,List.length_range] at h;unfold ng;have hl:(sg x).length=x.length:=by simp[Jk]
 by_cases c:x.length=0
 .have:sg x=[]:=vD.mp (by omega);rw[this];rw[<- nO x,this];simp
 .rw[show lz x.length 0 lo=0 by omega,qk,vK (by omega),nO]
def zBm (x:Str)(lo hi:Option Int):(ng x lo hi).length<=x.length:=by
 show(((sg x).drop _).take _).toArray.size<=x.length;rw[ji,vQ,qA];have hl:(sg x).length=x.length:=by simp[Jk]
 omega
def Xe:V->Option Int->Option Int->Hp->VK->Prop:=λx lo hi H Q=>∃ z,x=.str z/\z.length<=sizeLine/\Q (.str (ng z lo hi)) H
def zFp:wJ X Xe:=by
 intro ω s σ H x v vl vu lo hi sl Q I rx hs pl pu h;obtain⟨z,rfl,hz,q⟩:=h;obtain⟨t,rfl⟩:=rx;obtain⟨l,el,el2⟩:∃ l:Option (Int×Tok),vl=partValue l/\l.map (·.1)=lo:=by
  cases pl with
  | none=>exact⟨Gb,rfl,rfl⟩
  | int i t=>exact⟨Ga (i,t),rfl,rfl⟩
 obtain⟨u,eu,eu2⟩:∃ l:Option (Int×Tok),vu=partValue l/\l.map (·.1)=hi:=by
  cases pu with
  | none=>exact⟨Gb,rfl,rfl⟩
  | int i t=>exact⟨Ga (i,t),rfl,rfl⟩
 subst el;subst eu;have hs':s.heap.IsSlice sl l u Gb:=hs;have hT:s.TypeIs (.str z t) "str":=typeIs_str s z t;refine⟨"str",_,slot_str_getitem.lookup,hT,?_⟩;unfold getItem
 try with_reducible refine wpAny_holding ?_
 first|refine dv (dw ?_)|skip
 refine dv (wpAny_callSpecial?_slot (name:=jv "__getitem__") hT slot_str_getitem (call_meets slot_str_getitem hT PySem.F.entry_str_getitem (PySem.F.args_str_getitem_2 _ _) (meets_str_getitem_slice z t sl l u Gb rfl) ⟨hs',?_⟩));unfold sliceMade slicePicked;rw[el2,eu2];show Made.post (if ((1:Int)==1&&(kX lo hi 1 z.length).length==z.length)=true then Made.val (.str z t) else Made.str ⟨((kX lo hi 1 z.length).filterMap (z.cps[·]?)).toArray⟩) _ s;rw[Zz];split
 .rename_i c;rw[ju,beq_iff_eq,beq_iff_eq] at c;rw[zBl c.2] at q;exact dw ⟨.str z,H,I,⟨t,rfl⟩,q⟩
 .refine⟨?_,dw ⟨.str (ng z lo hi),H,I.tok _,⟨_,by show qf ⟨(sg (ng z lo hi)).toArray⟩ _=_;rw[show(⟨(sg (ng z lo hi)).toArray⟩:Str)=ng z lo hi from nO _]⟩,q⟩⟩;exact jX (zBm z lo hi) hz
def xJ:D->Option Int->Option Int->Option D
 | .str x,lo,hi=>if x.length<=sizeLine then Ga (.str (ng x lo hi)) else Gb
 | d,lo,hi=>dSl d lo hi
def Er (f:FV)(g h:FP):FV:=λψ=>(f ψ).bind λx=>(g ψ).bind λl=>(h ψ).bind λu=>xJ x l u
def sD{lo hi:Option Expr}{g h:FP}(ha:PV X a f)(hl:BC X lo g)(hh:BC X hi h):PV X (.Subscript a (.Slice lo hi Gb p2) pos) (Er f g h):=by
 refine fG (yP ((Bu.or Dw).or zFp) ha hl hh) λσ H Q=>?_;rintro⟨H0,F,ψ,d,r,e,q⟩;have⟨x,e1,e4⟩:=dz e;have⟨l,e2,e5⟩:=dz e4;have⟨u,e3,e6⟩:=dz e5;clear e e4 e5;refine⟨H0,F,ψ,x,r,e1,λv H1 F1 g1 f1 fh1 n1 rv=>⟨H0,F1,ψ,l,r.grow g1 f1 fh1 n1,e2,λH2 F2 g2 f2 fh2 n2=>⟨H0,F2,ψ,u,(r.grow g1 f1 fh1 n1).grow g2 f2 fh2 n2,e3,λH3 F3 g3 f3 fh3 n3=>?_⟩⟩⟩;have rv3:=rv.mono (f2.trans f3);cases rv3<;>first|(cases e6;done)|skip
 case str x =>
  have e7:(if x.length<=sizeLine then Ga (jL (ng x l u)) else Gb)=Ga d:=e6;split at e7
  .rename_i hz;cases e7;exact .inr ⟨x,rfl,hz,q _ _ _ ((g1.trans g2).trans g3) ((f1.trans f2).trans f3) fh3 ((n1.trans n2 g1).trans n3 (g1.trans g2)) (.str _)⟩
  .cases e7
 case lst a xs ds h1 h2 =>
  cases e6;refine jS (jS ⟨a,xs,rfl,fh3.seq h1,λp hp=>?_⟩);have⟨s1,s2,s3,s4⟩:=pW (o:=.lst (nh xs l u)) fh3 hp;exact q _ _ _ (((g1.trans g2).trans g3).trans s1) (((f1.trans f2).trans f3).trans s2) s3 (((n1.trans n2 g1).trans n3 (g1.trans g2)).trans s4 ((g1.trans g2).trans g3)) (.lst (fQ.of dH) ((h2.cut l u).mono s2))
 case tup a xs ds h1 h2 =>
  have e7:(if HT.sIx ds.length 0 l=0/\HT.sIx ds.length ds.length u=ds.length then Gb else Ga (uL (cutD ds l u)))=Ga d:=e6;split at e7
  .cases e7
  .rename_i hw;cases e7;refine jS (jK ⟨a,xs,rfl,iu fh3 h1,by rwa[<- h2.length],λp hp=>?_⟩);have⟨s1,s2,s3,s4⟩:=pW (o:=.tup (nh xs l u)) fh3 hp;exact q _ _ _ (((g1.trans g2).trans g3).trans s1) (((f1.trans f2).trans f3).trans s2) s3 (((n1.trans n2 g1).trans n3 (g1.trans g2)).trans s4 ((g1.trans g2).trans g3)) (.tup (hU.of dH) ((h2.cut l u).mono s2))
def Ed (y x:Str):Bool:=!(jT x y 0 x.length 1).isEmpty
def pO:D->D->Option D
 | .str y,.str x=>Ga (.bool (Ed y x))
 | a,b=>AO a b
def ik:D->D->Option D
 | .str y,.str x=>Ga (.bool (!Ed y x))
 | a,b=>BN a b
def zDw:∀ a b d,pO a b=Ga d->∃ k,d=.bool k:=λa b d h=>by
 unfold pO at h;split at h
 .cases h;exact⟨_,rfl⟩
 .exact UC _ _ _ h
def zBn:∀ a b d,ik a b=Ga d->∃ k,d=.bool k:=λa b d h=>by
 unfold ik at h;split at h
 .cases h;exact⟨_,rfl⟩
 .exact zCP _ _ _ h
def zFq (hu:X.A.units+100<cLine):gj X (compareOp .In) (pU X.K pO):=by
 intro ω s σ H x y v u Q I rx ry h;obtain⟨F,a,b,d,g,ra,rb,e,q⟩:=h;by_cases c:∃ p w,a=.str p/\b=.str w
 .obtain⟨p,w,rfl,rfl⟩:=c;cases ra;cases rb;cases e;exact DV ω s σ H _ _ v u Q I rx ry ⟨p,w,rfl,rfl,q _ rfl⟩
 .have e':AO a b=Ga d:=by
   rw[<- e];unfold pO;split
   .exact absurd ⟨_,_,rfl,rfl⟩ c
   .rfl
  exact QU hu ω s σ H x y v u Q I rx ry ⟨F,a,b,d,g,ra,rb,e',q⟩
def zDx (hu:X.A.units+100<cLine):gj X (compareOp .NotIn) (pU X.K ik):=by
 intro ω s σ H x y v u Q I rx ry h;obtain⟨F,a,b,d,g,ra,rb,e,q⟩:=h;by_cases c:∃ p w,a=.str p/\b=.str w
 .obtain⟨p,w,rfl,rfl⟩:=c;cases ra;cases rb;cases e;exact zA ω s σ H _ _ v u Q I rx ry ⟨p,w,rfl,rfl,q _ rfl⟩
 .have e':BN a b=Ga d:=by
   rw[<- e];unfold ik;split
   .exact absurd ⟨_,_,rfl,rfl⟩ c
   .rfl
  exact zCO hu ω s σ H x y v u Q I rx ry ⟨F,a,b,d,g,ra,rb,e',q⟩
def Sr(hu:X.A.units+100<cLine)(ha:PV X a f)(hb:PV X b g)(hm:behindInMarks .In b=false:=by first|rfl|with_unfolding_all rfl):PV X (.Compare a [.In] [b] pos) (dX pO f g):=yq (zFq hu) (tD zDw) ha hb hm
def yG(hu:X.A.units+100<cLine)(ha:PV X a f)(hb:PV X b g)(hm:behindInMarks .NotIn b=false:=by first|rfl|with_unfolding_all rfl):PB X (.Compare a [.NotIn] [b] pos) (eM ik f g):=xi (zDx hu) (tD zBn) ha hb hm
def FY (x:Str):It:=⟨λi _=>i<x.cps.size,λi H v H'=>H'=H/\∃ c,x.cps[i]?=Ga c/\v=.str ⟨#[c]⟩,λi _=>x.cps.size<=i⟩
def Up(it:Gj)(x:Str)(t:Tok)(n:String)(hn:n="str_ascii_iterator"\/n="str_iterator"):wc P w K tg (FY x) [it] it (λi h=>h.IsStrIter it n x t i) where
 mem:=by simp
 obj:=λi h st b hb=>by
  cases jD.mp hb;obtain⟨o,e,c,dd⟩:=st;exact⟨o,e,λv z=>by rw[dd] at z;cases z⟩
 keep:=λi h h' st k=>let ⟨o,ho,r⟩:=st;⟨o,k it (by simp) o ho,r⟩
 item:=by
  intro X hP hw hK hc i ω s σ H E I hf st hg;subst hP hw hK;have hg:i<x.cps.size:=hg;obtain⟨f0,f1,f2,f3,f4,f5⟩:=hf it (by simp);have fin:∀ h',h'.IsStrIter it n x t (i+1)->kZ it s.heap h'->∃ u,Ga (qf ⟨#[x.cps[i]]⟩ s.toks)=Ga u/\wX X (letOwnedTupleGo tg (.ref it) u) (λ_ s2=>∃ y H',dE X ω σ H' s2/\eL y u/\(FY x).yld i H y H'/\s2.heap.IsStrIter it n x t (i+1)/\∀ b∈[it],H' b=Gb) E { s with heap:=h',toks:=s.toks+1 }:=λh' st' sb=>by
   have I1:dE X ω σ H { s with heap:=h',toks:=s.toks+1 }:=I.turned (t':=s.toks+1) (λb o hb e=>(sb.2 b hb).trans e) f0 f1 f3 f4 f5;have⟨o,e,c,d⟩:=id st';exact⟨_,rfl,yK (s:={ s with heap:=h',toks:=s.toks+1 }) e c d (by rcases hn with rfl|rfl<;>decide) ⟨.str ⟨#[x.cps[i]]⟩,H,I1,⟨_,rfl⟩,⟨rfl,_,by simp[hg],rfl⟩,st',λb hb=>(hf b hb).1⟩⟩
  rcases hn with rfl|rfl
  .exact wpAny_pyNext_ascii_item st (c:=x.cps[i]) (by simp[hg]) λh' st' sb=>fin h' st' sb
  .exact wpAny_pyNext_wide_item st (c:=x.cps[i]) (by simp[hg]) λh' st' sb=>fin h' st' sb
 done:=by
  intro X hP hw hK hc i ω s σ H E I hf st hg;subst hP hw hK;have hg:x.cps.size<=i:=hg;obtain⟨f0,f1,f2,f3,f4,f5⟩:=hf it (by simp);rcases hn with rfl|rfl
  .exact wpAny_pyNext_ascii_end (I.ok.hd hc) st (by simp[hg]) λh' eb=>⟨rfl,I.turned (t':=s.toks) (λb o hb e=>eb b o hb e) f0 f1 f3 f4 f5⟩
  .exact wpAny_pyNext_wide_end (I.ok.hd hc) st (by simp[hg]) λh' eb=>⟨rfl,I.turned (t':=s.toks) (λb o hb e=>eb b o hb e) f0 f1 f3 f4 f5⟩
 self:=λA i s Q E st h=>by
  rcases hn with rfl|rfl
  .exact wpAny_pyIter_striter_ascii st h
  .exact wpAny_pyIter_striter_wide st h
def ZH(x:Str):lh K (FY x) F ((sg x).map one):=by
 intro H g i;refine⟨λhi=>?_,λd hd=>?_⟩
 .rw[jk] at hi;show x.cps.size<=i
  simpa using hi
 .rw[jE] at hd;obtain⟨c,hc,rfl⟩:=uV.mp hd;have hi:i<x.cps.size:=by
   have:=(je.mp hc).1
   simpa using this
  refine⟨hi,λy H' yl=>?_⟩;obtain⟨rfl,c',hc',rfl⟩:=yl;have:c'=c:=by
   rw[kS] at hc;rw[hc] at hc';cases hc';rfl
  subst this;exact⟨.refl _,F,.refl _,g,.refl _ _,.str _⟩
def gp:D->Option (List D)
 | .str x=>Ga ((sg x).map one)
 | d=>toS d
def lZ {l:Expr}(h:PV X l f):rY X tg l (ip gp f):=by
 intro ω s σ H R I hw;obtain⟨H0,F,ψ,ds,r,e0,q⟩:=hw;have⟨d,e1,e2⟩:=dz e0;by_cases hx:∃ x,d=.str x
 .obtain⟨x,rfl⟩:=hx;cases e2;refine eV (h ω s σ H (λy H1=>y=.str x/\R (FY x) H1) I ⟨H0,F,ψ,.str x,r,e1,λv H1 F1 g1 f1 fh1 n1 rv=>?_⟩) λv s1 ⟨y,H1,I1,r1,e,hR⟩=>?_
  .cases rv;exact⟨rfl,q _ H1 F1 g1 f1 fh1 n1 λF3 f3=>ZH x⟩
  .subst e;obtain⟨t,rfl⟩:=r1;cases ha:x.cps.all (·<128)
   .refine wpAny_pyIter_wide ha ⟨s1.heap.objs.size,[s1.heap.objs.size],_,_,H1,rfl,I1.kept (t':=s1.toks) λb o e=>jb _ e,Up _ x t _ (.inr rfl),⟨_,jm _ rfl,rfl,rfl⟩,λb hb=>?_,hR⟩;cases jD.mp hb;exact I1.fpOk (jw _) I1.fresh
   .refine wpAny_pyIter_ascii ha ⟨s1.heap.objs.size,[s1.heap.objs.size],_,_,H1,rfl,I1.kept (t':=s1.toks) λb o e=>jb _ e,Up _ x t _ (.inl rfl),⟨_,jm _ rfl,rfl,rfl⟩,λb hb=>?_,hR⟩;cases jD.mp hb;exact I1.fpOk (jw _) I1.fresh
 .have e3:toS d=Ga ds:=by
   rw[<- e2];unfold gp;split
   .exact absurd ⟨_,rfl⟩ hx
   .rfl
  exact pA h ω s σ H R I ⟨H0,F,ψ,ds,r,by show(f ψ).bind toS=_;rwa[e1],q⟩
def zzI:wx X "str.startswith" (λx vs H Q=>∃ a b,x=.str a/\vs=[.str b]/\Q (.bl (ul a b)) H):=by
 intro ω s σ H x vs v us Q I rx rv h;obtain⟨a,b,rfl,rfl,q⟩:=h;obtain⟨t,rfl⟩:=rx;obtain⟨u,rfl,ru⟩:=rv.one;obtain⟨t2,rfl⟩:=ru;exact SC.startswith ⟨.bl _,H,I,rfl,q⟩
def iJ:D->D->Option D
 | .str x,.str y=>Ga (.bool (ul x y))
 | _,_=>Gb
def GT(ho:PV X o fo)(h:PV X e f)(hbase:attributeBase o "startswith" X.env (eval o X.env)=eval o X.env:=by rfl)
  (hst:Sb X e:=by rfl) (hline:(p.endLine==p2.line)=true:=by rfl):PV X (.Call (.Attribute o "startswith" p) [e] [] p2) (dX iJ fo f):=by
 refine fG (pQ uX PySem.F.slot_str_startswith PySem.F.type_str_startswith zzI ho (eY h fY hst) hbase (by rw[hst];rfl) hline hst rfl) λσ H Q=>?_;rintro⟨H0,F,ψ,d,r,e,q⟩;have⟨x,e1,e'⟩:=dz e;have⟨y,e2,e⟩:=dz e';clear e';refine⟨H0,F,ψ,x,r,e1,λv H1 F1 g1 f1 fh1 n1 rv=>?_⟩;cases rv<;>first|(cases e;done)|skip
 rename_i a;refine⟨rfl,H0,F1,ψ,y,r.grow g1 f1 fh1 n1,e2,λw H2 F2 g2 f2 fh2 n2 rw_=>?_⟩;cases rw_<;>first|(cases e;done)|skip
 rename_i b;cases e;exact⟨a,b,rfl,rfl,q _ H2 F2 (g1.trans g2) (f1.trans f2) fh2 (n1.trans n2 g1) (.bl _)⟩
def lu:List D->Option (List Str)
 | []=>Ga []
 | .str x::r=>(lu r).bind λl=>Ga (x::l)
 | _=>Gb
theorem KN {K:ja}{F:Hp}:∀ {ds:List D} {xs:List V} {l:List Str},lu ds=Ga l->dM K F ds xs->xs=l.map V.str
 | [],_,_,e,.nil=>by cases e;rfl
 | d::r,_,_,e,.cons h t=>by
  cases d<;>first|(cases e;done)|skip
  have⟨l,e1,e2⟩:=dz e;cases e2;cases h;rw[KN e1 t];rfl
def Lo:∀ {l:List Str} {us:List Gg},eC (l.map V.str) us->∃ lt:List (Str×Tok),us=strValues lt/\lt.map (·.1)=l
 | [],_,.nil=>⟨[],rfl,rfl⟩
 | x::l,_,.cons h t=>by
  obtain⟨tk,rfl⟩:=h;obtain⟨lt,rfl,e⟩:=Lo t;exact⟨(x,tk)::lt,rfl,by rw[kh,e]⟩
def zDy:wx X "str.join" (λx vs H Q=>∃ a p l,x=.str a/\vs=[.ref p]/\fQ X.K H p (l.map V.str)/\JoinOk a l=true/\Q (.str (kK a l)) H):=by
 intro ω s σ H x vs v us Q I rx rv h;obtain⟨a,p,l,rfl,rfl,hl,hok,q⟩:=h;obtain⟨t,rfl⟩:=rx;obtain⟨u,rfl,ru⟩:=rv.one;cases ru;have⟨its,rv2,pl,hz⟩:=I.list hl;obtain⟨lt,rfl,e⟩:=Lo rv2;exact SC.join pl.isList e hok λt' k=>⟨.str _,H,I.tok _,⟨_,rfl⟩,q⟩
def tq (a:D)(ds:List D):Option D:=match a with
 | .str x=>(lu ds).bind λl=>if JoinOk x l=true then Ga (.str (kK x l)) else Gb
 | _=>Gb
def Ct (f:FV)(g:FL):FV:=λψ=>(f ψ).bind λa=>(g ψ).bind λds=>tq a ds
def Eb{f:FL}(ho:PV X o fo)(h:rq X e f)(hbase:attributeBase o "join" X.env (eval o X.env)=eval o X.env:=by rfl)
  (hst:Sb X e:=by rfl) (hline:(p.endLine==p2.line)=true:=by rfl):PV X (.Call (.Attribute o "join" p) [e] [] p2) (Ct fo f):=by
 refine fG (pQ uX PySem.F.slot_str_join PySem.F.type_str_join zDy ho (eY h fY hst) hbase (by rw[hst];rfl) hline hst rfl) λσ H Q=>?_;rintro⟨H0,F,ψ,d,r,e,q⟩;have⟨x,e1,e'⟩:=dz e;have⟨ds,e2,e⟩:=dz e';clear e';refine⟨H0,F,ψ,x,r,e1,λv H1 F1 g1 f1 fh1 n1 rv=>?_⟩;cases rv<;>first|(cases e;done)|skip
 rename_i a;have⟨l,e3,e4⟩:=dz (show(lu ds).bind (λl=>if JoinOk a l=true then Ga (jL (kK a l)) else Gb)=Ga d from e);split at e4;rotate_left
 .cases e4
 rename_i hok;cases e4;refine⟨rfl,H0,F1,ψ,ds,r.grow g1 f1 fh1 n1,e2,λb xs H2 F2 g2 f2 fh2 n2 hl rr=>?_⟩;have:=KN e3 rr;subst this;exact⟨a,b,l,rfl,rfl,hl,hok,q _ H2 F2 (g1.trans g2) (f1.trans f2) fh2 (n1.trans n2 g1) (.str _)⟩
def zzJ:gk X (.type "int") (λxs H Q=>∃ x n,xs=[.str x]/\intText? x=Ga n/\x.length<=640/\Q (.int n) H):=by
 intro ω s σ H xs us Q I r h;obtain⟨x,n,rfl,hn,hl,q⟩:=h;obtain⟨u,rfl,ru⟩:=iP r;obtain⟨t,rfl⟩:=ru;exact PySem.W.KIN.call_text hn hl ⟨.int n,H,I.tok _,⟨_,rfl⟩,q⟩
def pR:D->Option D
 | .str x=>if x.length<=640 then(intText? x).map jO else Gb
 | d=>WN d
def AH(hg:Gl X "int")(hm:X.mg "int"=Gb)(ha:PV X e f)(hs:Sb X e:=by rfl):PV X (.Call (.Name "int" p) [e] [] pos) (un pR f):=by
 refine fG (Bt (QQ zzJ Dr) hg hm boot_int ha (hs:=hs)) λσ H Q=>?_;rintro⟨H0,F,ψ,d,r,e,q⟩;have⟨d',e1,e⟩:=dz e;refine⟨H0,F,ψ,d',r,e1,λv H1 F1 g1 f1 fh1 n1 rv=>?_⟩;cases rv<;>first|(cases e;done)|skip
 .rename_i b;cases e;exact .inr (.inr ⟨b,rfl,q _ H1 F1 g1 f1 fh1 n1 (.int _)⟩)
 .rename_i i;cases e;exact .inr (.inl ⟨i,rfl,q _ H1 F1 g1 f1 fh1 n1 (.int _)⟩)
 .rename_i x;have e':(if x.length<=640 then(intText? x).map jO else Gb)=Ga d:=e;split at e'
  .rename_i hz;obtain⟨n,hn,rfl⟩:=uV.mp e';exact .inl ⟨x,n,rfl,hn,hz,q _ H1 F1 g1 f1 fh1 n1 (.int _)⟩
  .cases e'
def To(hm:∃ t,X.mg x=Ga (.str y t))(hg:Gl X x:=by rfl)(hd:Nd x:=by decide):PV X (.Name x p) (dU (.str y)):=by
 obtain⟨t,hm⟩:=hm;exact Uf (v:=.str y) hm ⟨t,rfl⟩ (λ_ _=>.str _) hg hd
def Hm (g:FS)(k:FX)(cs:List Str)(gs:Str->FS):FS:=λψ=>match k ψ with
 | some c=>if c∈cs then(gs c ψ).bind λo=>match o with
  | .nx e=>Ga (.nx e)
  | _=>Gb
  else Gb
 | none=>g ψ
variable {g:FS}{x:Gj}
def zFs (hxe:∀ e s,¬X.xe e s)(hst:X.stack=X.env::X.outer/\X.env.frame=Ga X.env.locals)(hb:fT X body g)(hw:EM X body k)(hB:X.mg B=Ga (.ref Ba))(hbB:u5 X.K (.ref Ba) (.type "BaseException")=Ga true)
  (hcl:∀ c∈cs,∃ C,X.mg c=Ga (.ref C)/\kJ X.K (.ref C) (.ref Ba)=Ga true) (hs:∀ c∈cs,∀ v,fT (Cx.inX X v) (b₀::suite) (gs c)) (hg:Gl X B:=by rfl)
  (hdb:Nd B:=by decide):im X (.Try body [.ExceptHandler (Ga (.Name B Bp)) Gb (b₀::suite) hp] [] [] pos) (Hm g k cs gs):=by
 intro ω s σ H D I h;obtain⟨H0,F,ψ,o,r,e,p⟩:=h;refine wpAny_Try_except ?_;unfold Hm at e;cases hk:k ψ with
 | none =>
  rw[hk] at e;refine wpAny_mono (hb ω s σ H D I ⟨H0,F,ψ,o,r,e,p⟩) (λf s1 q=>?_) λe s z=>(hxe e s z).elim;cases f with
  | next=>exact wpAny_execs_nil q
  | brk=>exact q
  | cont=>exact q
  | ret u=>exact q
 | some c =>
  rw[hk] at e;dsimp only at e;split at e;rotate_left
  .cases e
  rename_i hc;have⟨o1,e1,e2⟩:=dz e;cases o1 with
  | nx env1 =>
   cases e2;have⟨C,hC,hkit⟩:=hcl c hc;refine hw ω s σ H H0 F ψ c _ _ I r hk ⟨⟨C,hC⟩,λC' s1 H1 x H' s' hm I1 W1 g1=>?_⟩;obtain rfl:C'=C:=by
    have q:=hm.symm.trans hC;cases q;rfl
   refine Rr I1 I1.ok.frames hst W1 λs2 W2=>?_;have J2:=W2.inv I1;refine wpAny_handleBy_cons (codeAny_handlers_test ?_) (by intro q;cases q);refine gK (X:=Cx.inX X (.ref x)) (Ah J2 _) hg hB ?_ hdb;have⟨ox,hx1,hx2,hx3,hx4,hx5,hx6⟩:=W2.frz;refine Mx J2.kIn ⟨hx1,hx2,hx4,by rw[hx3];trivial⟩ hkit hbB ?_;rw[Ge rfl];refine codeAny_handlers_suite ?_;refine xg W2.ex λh3 t3 k3 _=>?_;have W3:=W2.kx I1 (k3 _) t3;have J4:=W3.inv I1;refine wpAny_mono (hs c hc (.ref x) ω _ σ H' { nx:=D.nx,bk:=λ_ _=>False,ct:=λ_ _=>False,rt:=λ_ _=>False } (Ah J4 _) ⟨H0,F,ψ,_,r.later g1,e1,λσ' H2 F2 f2 n2 r2=>p _ H2 F2 f2 n2 r2⟩) (λf s6 q=>?_) λe s z=>(hxe e s z).elim;cases f with
   | next =>
    obtain⟨σ',H2,J,q⟩:=q;exact⟨_,H2,IQ I.ok J,q⟩
   | brk=>obtain⟨_,_,_,z⟩:=q;exact z.elim
   | cont=>obtain⟨_,_,_,z⟩:=q;exact z.elim
   | ret u=>obtain⟨_,_,_,_,_,z⟩:=q;exact z.elim
  | rt d=>cases e2
  | ro d=>cases e2
  | rc a d=>cases e2
  | bk d=>cases e2
  | ct d=>cases e2
def Cc:List Expr->Option (List Str)
 | []=>Ga []
 | .Constant (.str x) _ _::r=>(Cc r).bind λl=>Ga (x::l)
 | _=>Gb
def nZ (xs:List Str):FL:=λ_=>Ga (xs.map jL)
def rG:∀ {es:List Expr} {xs:List Str},Cc es=Ga xs->PL X es (nZ xs)
 | [],_,h=>by cases h;exact dF
 | e::r,xs,h=>by
  unfold Cc at h;split at h
  .rename_i q;cases q
  .rename_i x j p r' q;cases q;have⟨l,h1,h2⟩:=dz h;cases h2;exact dB (AM sJ λ_ _=>.str _) (rG h1) rfl
  .cases h
def wo (acc:Str)(l:List Str):Str:=l.foldl (λa y=>a++y) acc
def zDz (x y:Str):(x++y).length=x.length+y.length:=strLen_append x y
def Tc:∀ (l:List Str) (acc:Str),acc.length<=(wo acc l).length
 | [],_=>jw _
 | y::r,acc=>jX (by rw[zDz];omega) (Tc r (acc++y))
def PJ (X:Cx)(es:List Expr)(g:FL):Prop:=∀ ω s σ H Q (acc:Str),dE X ω σ H s ->
 (∃ H0 F ψ ds l,RS X.K H0 F H ψ σ/\g ψ=Ga ds/\lu ds=Ga l/\(wo acc l).length<=sizeLine/\∀ H' F',dA H H'->dA F F'->dA F' H'->eN F F' H->Q (.str (wo acc l)) H') ->
 wX X (joinParts acc (evalEach es X.env)) (EP X ω σ Q) X.xe s
def QO:PJ X [] (λ_=>Ga []):=by
 intro ω s σ H Q acc I h;obtain⟨H0,F,ψ,ds,l,r,e1,e2,hz,q⟩:=h;cases e1;cases e2;exact joinParts_nil ⟨.str acc,H,I.tok _,⟨_,rfl⟩,q H F (dA.refl _) (dA.refl _) r.fh (eN.refl _ _)⟩ hz
def yh{g:FL}(ha:PV X e f)(hr:PJ X es g):PJ X (e::es) (λψ=>(f ψ).bind λd=>(g ψ).bind λds=>Ga (d::ds)):=by
 intro ω s σ H Q acc I h;obtain⟨H0,F,ψ,ds,l,r,e1,e2,hz,q⟩:=h;have⟨d,e3,e1⟩:=dz e1;have⟨ds',e4,e1⟩:=dz e1;cases e1;cases d<;>first|(cases e2;done)|skip
 rename_i y _e;have⟨l',e5,e2⟩:=dz (show(lu ds').bind (λl=>Ga (y::l))=Ga l from e2);cases e2;show wX X (joinParts acc (eval e X.env::evalEach es X.env)) _ _ _;refine joinParts_cons (wpAny_mono (ha ω s σ H (λv H1=>∃ F1,dA H H1/\dA F F1/\dA F1 H1/\eN F F1 H/\v=.str y) I ⟨H0,F,ψ,.str y,r,e3,λv H1 F1 g1 f1 fh1 n1 rv=>⟨F1,g1,f1,fh1,n1,by cases rv;rfl⟩⟩) (λu s1 z=>?_) λ_ _ z=>z);obtain⟨v,H1,I1,rx,F1,g1,f1,fh1,n1,rfl⟩:=z;obtain⟨t,rfl⟩:=rx;refine⟨jX (Tc l' (acc++y)) hz,?_⟩;exact hr ω s1 σ H1 Q (acc++y) I1 ⟨H0,F1,ψ,ds',l',r.grow g1 f1 fh1 n1,e4,e5,hz,λH2 F2 g2 f2 fh2 n2=>q H2 F2 (g1.trans g2) (f1.trans f2) fh2 (n1.trans n2 g1)⟩
def Cp (ds:List D):Option D:=(lu ds).bind λl=>if (wo qg l).length<=sizeLine then Ga (.str (wo qg l)) else Gb
def Wp {e2:Expr}{g:FL}(h:PJ X (e1::e2::es) g):PV X (.JoinedStr (e1::e2::es) pos) (oW Cp g):=by
 intro ω s σ H Q I hw;obtain⟨H0,F,ψ,d,r,e,q⟩:=hw;have⟨ds,a1,a2⟩:=dz e;have⟨l,a3,a4⟩:=dz a2;split at a4
 .rename_i hz;cases a4;refine JoinedStr_many ?_;exact h ω s σ H Q qg I ⟨H0,F,ψ,ds,l,r,a1,a3,hz,λH' F' g1 f1 fh1 n1=>q _ H' F' g1 f1 fh1 n1 (.str _)⟩
 .cases a4
def rj:D->Option D
 | .int i=>if i.natAbs.log2<1920 then Ga (.str (toString i)) else Gb
 | .str x=>if x.length<=sizeLine then Ga (.str x) else Gb
 | _=>Gb
def Dt(ha:PV X e f):PV X (.FormattedValue e (-1) Gb pos) (un rj f):=by
 intro ω s σ H Q I hw;obtain⟨H0,F,ψ,d,r,e,q⟩:=hw;have⟨d',e1,e2⟩:=dz e;refine FormattedValue_plain (wpAny_mono (ha ω s σ H (λv H1=>∃ F1,dA H H1/\dA F F1/\dA F1 H1/\eN F F1 H/\eU X.K F1 d' v) I ⟨H0,F,ψ,d',r,e1,λv H1 F1 g1 f1 fh1 n1 rv=>⟨F1,g1,f1,fh1,n1,rv⟩⟩) (λu s1 z=>?_) λ_ _ z=>z);obtain⟨v,H1,I1,rx,F1,g1,f1,fh1,n1,rv⟩:=z;cases rv<;>first|(cases e2;done)|skip
 .rename_i i;have e':(if i.natAbs.log2<1920 then Ga (jL (toString i)) else Gb)=Ga d:=e2;split at e'
  .rename_i hz;cases e';obtain⟨t,rfl⟩:=rx;exact formatField_int_small hz ⟨.str _,H1,I1.tok _,⟨_,rfl⟩,q _ H1 F1 g1 f1 fh1 n1 (.str _)⟩
  .cases e'
 .rename_i x;have e':(if x.length<=sizeLine then Ga (jL x) else Gb)=Ga d:=e2;split at e'
  .rename_i hz;cases e';obtain⟨t,rfl⟩:=rx;exact formatField_str (λt' tk=>⟨.str x,H1,I1.tok _,⟨_,rfl⟩,q _ H1 F1 g1 f1 fh1 n1 (.str _)⟩) hz
  .cases e'
def IW:∀ l:List (Str×Tok),eC ((l.map (·.1)).map V.str) (strValues l)
 | []=>.nil
 | (x,t)::r=>.cons ⟨t,rfl⟩ (IW r)
def xz (x y:Str):Bool:=decide (x.length<=sizeLine)&&(!(y.length==0)&&(decide ((uA x y).length<=sizeLine)&&decide ((uN x (jT x y 0 x.length (x.length+1)) y.length).length<=sizeLine)))
def Zu:wx X "str.split" (λx vs H Q=>∃ a b,x=.str a/\vs=[.str b]/\xz a b=true/\∀ p,H p=Gb->Q (.ref p) (upd H p (.lst ((uA a b).map V.str)))):=by
 intro ω s σ H x vs v us Q I rx rv h;obtain⟨a,b,rfl,rfl,hok,q⟩:=h;obtain⟨t,rfl⟩:=rx;obtain⟨u,rfl,ru⟩:=rv.one;obtain⟨t2,rfl⟩:=ru;unfold xz at hok;rw[ju,ju,ju,decide_eq_true_eq,decide_eq_true_eq,decide_eq_true_eq,u8] at hok;obtain⟨z1,z2,z3,z4⟩:=hok;have hf:H s.heap.objs.size=Gb:=I.hok.fresh (jw _);have fin:∀ (l:List (Str×Tok)) (k:Nat),l.map (·.1)=uA a b->EP X ω σ Q (.ref s.heap.objs.size) { s with toks:=k,heap:=s.heap.push { cls:=.type "list",data:=.seq (strValues l).toArray } }:=by
  intro l k e;have z3':((uA a b).map V.str).length<=sizeLine:=by rwa[jk]
  have vv:eC ((uA a b).map V.str) (strValues l):=by rw[<- e];exact IW l
  exact⟨.ref s.heap.objs.size,upd H s.heap.objs.size (.lst ((uA a b).map V.str)),I.laid (t':=k) (λb u e=>jb _ e) (jw _) ⟨z3',strValues l,0,vv,jm _ rfl⟩,rfl,q _ hf⟩
 cases h1:(decide (a.length<b.length)||decide (k9 a<k9 b))
 .cases hf:(jT a b 0 a.length (a.length+1)).isEmpty
  .refine call_meets ui (typeIs_str _ _ _) uS (vo _ _) (meets_str_split_sep a b t t2 h1 z2 hf z1 z4) ?_;show wants _ _ _ { s with toks:=_,heap:=s.heap.push { cls:=.type "list",data:=.seq (strsFrom s.toks (uN a (jT a b 0 a.length (a.length+1)) b.length)).toArray } };rw[strsFrom_eq];exact fin (numbered s.toks _) _ ((numbered_texts _ _).trans ((Gf (ne_true_of_eq_false h1)).trans (Gf (ne_true_of_eq_false hf))).symm)
  .exact call_meets ui (typeIs_str _ _ _) uS (vo _ _) (meets_str_split_not_found a b t t2 h1 z2 hf)
    (fin [(a,t)] s.toks ((Gf (ne_true_of_eq_false h1)).trans (Ge hf)).symm)
 .exact call_meets ui (typeIs_str _ _ _) uS (vo _ _) (meets_str_split_cannot_occur a b t t2 h1)
   (fin [(a,t)] s.toks (Ge h1).symm)
def pd:D->D->Option (List D)
 | .str x,.str y=>if xz x y=true then Ga ((uA x y).map jL) else Gb
 | _,_=>Gb
def KZ {K:ja}{F:Hp}:∀ l:List Str,dM K F (l.map jL) (l.map V.str)
 | []=>.nil
 | x::r=>.cons (.str _) (KZ r)
def HH(ho:PV X o fo)(h:PV X e f)(hbase:attributeBase o "split" X.env (eval o X.env)=eval o X.env:=by rfl)
  (hst:Sb X e:=by rfl) (hline:(p.endLine==p2.line)=true:=by rfl):PO X (.Call (.Attribute o "split" p) [e] [] p2) (Ai pd fo f):=by
 refine fG (pQ uX ui qN Zu ho (eY h fY hst) hbase (by rw[hst];rfl) hline hst rfl) λσ H Q=>?_;rintro⟨H0,F,ψ,d,r,e,q⟩;have⟨x,e1,e'⟩:=dz e;have⟨y,e2,e⟩:=dz e';clear e';refine⟨H0,F,ψ,x,r,e1,λv H1 F1 g1 f1 fh1 n1 rv=>?_⟩;cases rv<;>first|(cases e;done)|skip
 rename_i a;refine⟨rfl,H0,F1,ψ,y,r.grow g1 f1 fh1 n1,e2,λw H2 F2 g2 f2 fh2 n2 rw_=>?_⟩;cases rw_<;>first|(cases e;done)|skip
 rename_i b;have e':(if xz a b=true then Ga ((uA a b).map jL) else Gb)=Ga d:=e;split at e';rotate_left
 .cases e'
 rename_i hok;cases e';refine⟨a,b,rfl,rfl,hok,λp hp=>?_⟩;have s2:dA H2 (upd H2 p (.lst ((uA a b).map V.str))):=dA.new hp;exact q p _ _ F2 ((g1.trans g2).trans s2) (f1.trans f2) (fh2.trans s2) (n1.trans n2 g1) ((g1.trans g2).free hp) (fh2.free hp) dH (KZ _)
def RX {b:Str}:∀ {l:List Str} {j:Nat},j<l.idxOf b->∀ (h2:j<l.length),(l[j]==b)=false
 | [],j,h,h2=>absurd h2 (Nat.not_lt_zero _)
 | a::r,j,h,h2=>by
  rw[List.idxOf_cons] at h;cases e:a==b with
  | true=>rw[e] at h;exact absurd h (Nat.not_lt_zero _)
  | false =>
   rw[e] at h;cases j with
   | zero=>exact e
   | succ k=>exact RX (qO h) (qO h2)
def zBp:wx X "list.index" (λx vs H Q=>∃ (p:Gj) (l:List Str) (b:Str),x=.ref p/\vs=[.str b]/\fQ X.K H p (l.map V.str)/\l.idxOf b<l.length/\Q (.int (l.idxOf b:Nat)) H):=by
 intro ω s σ H x vs v us Q I rx rv h;obtain⟨p,l,b,rfl,rfl,hl,hj,q⟩:=h;cases rx;obtain⟨u,rfl,ru⟩:=rv.one;obtain⟨t,rfl⟩:=ru;have⟨its,rv2,pl,hz⟩:=I.list hl;obtain⟨lt,rfl,e⟩:=Lo rv2;have⟨⟨cls,dd,data,sl⟩,ho,hc,n,hd⟩:=id pl.isList;simp only at hc hd;subst hc hd;have hlen:(strValues lt).length=l.length:=by rw[<- e];unfold strValues;rw[jk,jk]
 have hat:∀ j (h1:j<(strValues lt).length) (h2:j<l.length),∃ tk,(strValues lt)[j]=.str l[j] tk:=by
  intro j h1 h2;subst e;refine⟨(lt[j]'(by rw[jk] at h2;exact h2)).2,?_⟩;rw[JH];exact JH (λp:Str×Tok=>qf p.1 p.2)
 have z:l.length<=sizeLine:=by rw[jk] at hz;exact hz
 have zs:sizeLine<2^63-1:=by decide
 refine call_meets qG ⟨_,ho,rfl⟩ PySem.F.entry_list_index (PySem.F.args_list_index_2 _ _)
  (SeqAt.list_indexAt p (strValues lt).toArray n dd sl (.str b t) (λv=>match v with|.str a _=>a==b|_=>false) (l.idxOf b) (by rwa[ji,hlen]) (by omega) ?_ ?_) ⟨ho,λy hy=>?_,⟨.int _,H,I.tok _,⟨_,rfl⟩,q⟩⟩
 .obtain⟨tk,e2⟩:=hat (l.idxOf b) (by rwa[hlen]) hj;show(match (strValues lt)[l.idxOf b]'_ with|.str a _=>a==b|_=>false)=true;rw[e2]
  simpa using List.getElem_idxOf hj
 .intro j hjs hlt;have h2:j<l.length:=Ju hlt hj;obtain⟨tk,e2⟩:=hat j (by rwa[hlen]) h2;show(match (strValues lt)[j]'_ with|.str a _=>a==b|_=>false)=false;rw[e2];exact RX hlt h2
 .have hy':y∈strValues lt:=by simpa using hy
  unfold strValues at hy';obtain⟨⟨a,tk⟩,_,rfl⟩:=ue.mp hy';exact SeqAt.EqAt.str_str a tk b t
def pi:D->D->Option D
 | .list ds,.str b=>(lu ds).bind λl=>if l.idxOf b<l.length then Ga (.int (l.idxOf b:Nat)) else Gb
 | _,_=>Gb
def VM(ho:PV X o fo)(h:PV X e f)(hbase:attributeBase o "index" X.env (eval o X.env)=eval o X.env:=by rfl)
  (hst:Sb X e:=by rfl) (hline:(p.endLine==p2.line)=true:=by rfl):PV X (.Call (.Attribute o "index" p) [e] [] p2) (dX pi fo f):=by
 refine fG (pQ vB qG PySem.F.type_list_index zBp ho (eY h fY hst) hbase (by rw[hst];rfl) hline hst rfl) λσ H Q=>?_;rintro⟨H0,F,ψ,d,r,e,q⟩;have⟨x,e1,e'⟩:=dz e;have⟨y,e2,e⟩:=dz e';clear e';refine⟨H0,F,ψ,x,r,e1,λv H1 F1 g1 f1 fh1 n1 rv=>?_⟩;cases rv<;>first|(cases e;done)|skip
 rename_i a xs ds sq rr;refine⟨.inl ⟨rfl,xs,fh1.seq sq⟩,H0,F1,ψ,y,r.grow g1 f1 fh1 n1,e2,λw H2 F2 g2 f2 fh2 n2 rw_=>?_⟩;cases rw_<;>first|(cases e;done)|skip
 rename_i b;have⟨l,e3,e4⟩:=dz (show(lu ds).bind (λl=>if l.idxOf b<l.length then Ga (jO (l.idxOf b:Nat)) else Gb)=Ga d from e);split at e4;rotate_left
 .cases e4
 rename_i hj;cases e4;have:=KN e3 rr;subst this;exact⟨a,l,b,rfl,rfl,g2.seq (fh1.seq sq),hj,q _ H2 F2 (g1.trans g2) (f1.trans f2) fh2 (n1.trans n2 g1) (.int _)⟩
noncomputable section
def zx (f:FV)(g h:FP)(ψ:En):Option D:=(f ψ).bind λx=>(g ψ).bind λl=>(h ψ).bind λu=>xJ x l u
def FO (f:FV)(g:FL)(ψ:En):Option D:=(f ψ).bind λa=>(g ψ).bind λds=>tq a ds
def yb (xs:List Str)(ψ:En):Option (List D):=Ga (xs.map jL)
def GX (d:List D)(i:Int):fq (.list d) (.int i)=atI d i:=(rfl)
def RH (d:List D)(i:Int):fq (.tuple d) (.int i)=atI d i:=(rfl)
def zFt (x:Str):gp (.str x)=Ga ((sg x).map one):=(rfl)
def zDA (x y:Str):pO (.str x) (.str y)=Ga (.bool (Ed x y)):=(rfl)
def Ol {x:Str}(hx:jG x=true)(hy:jG y=true):gf (.str x) (.str y)=Ga (.bool (!decide (x=y))):=by
 show(if (jG x&&jG y&&true)=true then Ga (kP (!(x==y))) else Gb)=_;rw[hx,hy,Ge (by decide)];by_cases h:x=y
 .subst h;rw[Gc rfl,beq_self_eq_true]
 .rw[Gd h,beq_eq_false_iff_ne.mpr h]
end
def zFv {xe:Gg->Gh->Prop}{N':List Str}{fp:List Gj}{pn pp:List (Gj×Obj)}(I:dE (gh X scope cl C N' s H fp pn xe) pp σ' H' s'):dE (gP X scope cl C N' s H fp pn) pp σ' H' s':=by
 obtain⟨ok,a1,a2,a3,a4,a5,a6,a7,a8,a9,a10⟩:=I;obtain⟨b1,b2,b3,b4,b5,b6,b7,b8,b9,b10,b11,b12,b13,b14,b15,b16,b17,b18⟩:=ok;exact⟨⟨b1,b2,b3,b4,b5,b6,b7,b8,b9,b10,b11,b12,b13,b14,b15,b16,b17,b18⟩,a1,a2,a3,a4,a5,a6,a7,a8,a9,a10⟩
def Kc (C:Gj)(fs:List Gj)(h0:Heap)(H:Hp)(h h':Heap):Prop :=
 ∀ b o,b≠C->h.get? b=Ga o->(h0.get? b≠Gb\/H b≠Gb\/∀ vs,o.data≠.fields vs)->∃ sl,h'.get? b=Ga { o with slots:=sl }/\(b∉fs->sl=o.slots)
def Kc.trans (a:Kc C fs h0 H h h1)(b:Kc C fs h0 H h1 h2):Kc C fs h0 H h h2:=λc o n e q=>by
 have⟨sl,e1,n1⟩:=a c o n e q;have⟨sl2,e2,n2⟩:=b c _ n e1 q;exact⟨sl2,e2,λhc=>(n2 hc).trans (n1 hc)⟩
def Kx.kc (a:Kx fs h0 H h h1):Kc C fs h0 H h h1:=λc o _ e q=>a.1 c o e q
def Kc.but (a:kZ C h h1):Kc C fs h0 H h h1:=λc o n e _=>⟨o.slots,(a.2 c n).trans e,λ_=>rfl⟩
def SD {base:Heap}:∀ {l:List Env},C∉gE l->kZ C h h1->h.FunFrames base l->h1.FunFrames base l
 | [],_,_,_=>trivial
 | ψ::r,n,sb,hl=>by
  obtain⟨hk,⟨L,o,hf,hn,ho,hd⟩,hr⟩:=hl;have e:gE (ψ::r)=L::gE r:=by unfold gE;rw[uu,hf]
  rw[e,jz,not_or] at n;exact⟨hk,⟨L,o,hf,hn,(sb.2 L (kW n.1)).trans ho,hd⟩,SD n.2 sb hr⟩
def zFw (J:dE X ω σ H s)(hx:X.ex=[])(c0:X.s₀.heap.get? C=Gb)(cH:H C=Gb)(k:Kc C (gE X.stack) X.s₀.heap H s.heap h'):Un X.fs9 [] X.H₀ H X.s₀.heap h'/\HOk X.prog X.w H h':=by
 have low:∀ b o,X.s₀.heap.get? b=Ga o->b≠X.env.locals:=λb o e z=>by
  subst z;exact absurd (jg e) (Nat.not_lt.mpr J.ok.above)
 have nx:∀ b:Gj,b∉X.ex:=λb z=>by rw[hx] at z;simp at z
 have nC:∀ b o,X.s₀.heap.get? b=Ga o->b≠C:=λb o e z=>by rw[z,c0] at e;cases e
 have nH:∀ b,H b≠Gb->b≠C:=λb e z=>e (by rwa[z]);have nstk:∀ b o,X.s₀.heap.get? b=Ga o->b∉X.fs9->b∉gE X.stack:=λb o e n z=>(jz.mp (J.stkSub b z)).elim (low b o e) n;refine⟨⟨λb o e n hb _=>?_,λb o e n hb _=>?_,λb o e n _=>J.base.free b o e n (nx b),λb o e _=>?_,J.base.tups,J.base.frzs,J.base.tbls⟩,λa o e=>?_⟩
 .have e1:=J.base.keep b o e n hb (nx b);obtain⟨sl,e2,q⟩:=k b o (nC b o e) e1 (.inl (by rw[e];exact λz=>by cases z));rw[zI (q (nstk b o e hb))] at e2;exact e2
 .obtain⟨sl,e1⟩:=J.base.slot b o e n hb (nx b);obtain⟨sl2,e2,_⟩:=k b _ (nC b o e) e1 (.inl (by rw[e];exact λz=>by cases z));exact⟨sl2,e2⟩
 .obtain⟨o1,e1⟩:=J.base.there b o e (nx b);obtain⟨sl2,e2,_⟩:=k b _ (nC b o e) e1 (.inl (by rw[e];exact λz=>by cases z));exact⟨_,e2⟩
 .have tr:∀ b u,H b≠Gb->s.heap.get? b=Ga u->h'.get? b=Ga u:=λb u hb e1=>by
   have⟨sl,e2,q⟩:=k b u (nH b hb) e1 (.inr (.inl hb));rw[zI (q λz=>hb (J.stkFree b z))] at e2;exact e2
  exact(J.hok a o e).stay (λb u hb e1=>tr b u (by
   rcases hb with rfl|hb
   .rw[e];exact λz=>by cases z
   .rw[hb];exact λz=>by cases z) e1) (λb z=>z) λb xs z=>z
def Kx.refl:Kx fs h0 H h h:=Kx.of λ_ _ e=>e
def Wj {fl:Gg}(hfr:A.frames=Ga (ψ::outer))(hl:s.heap.FunFrames base (ψ::outer))(hf:ψ.frame=Ga L)(ht:iU h0 H x cls fl s.heap)(hz:∀ b o,h0.get? b=Ga o->b<s.heap.objs.size)(hH:∀ b,H b≠Gb->b<s.heap.objs.size)
  (h:∀ h',iU h0 H x cls (rawInt L) h'->Kx (gE (ψ::outer)) h0 H s.heap h'->s.heap.objs.size<=h'.objs.size->Q () { s with heap:=h' }):wpAny M A (noteFrame (.ref x) ψ) Q E s:=by
 by_cases c:(fl==rawInt L)=true
 .have:=beq_iff_eq.mp c;subst this;have ht':=ht;obtain⟨n0,nH,oe,vs,T,oT,ts,he,⟨hc,hdn⟩,hd,h1,hT,eT,dT,h3,m0,mH⟩:=ht;unfold noteFrame;simp only[hf];refine dv (wpAny_field he hd h1 ?_);rw[Ge (show(jH T !=jC)=true by simp)];refine dv (wpAny_field eT dT h3 ?_);rw[Ge c];exact dw (h s.heap ht' Kx.refl (jw _))
 .obtain⟨n0,nH,oe,vs,T,oT,ts,he,⟨hc,hdn⟩,hd,h1,hT,eT,dT,h3,m0,mH⟩:=ht;subst hc;unfold noteFrame;simp only[hf];refine dv (wpAny_field he hd h1 ?_);rw[Ge (show(jH T !=jC)=true by simp)];refine dv (wpAny_field eT dT h3 ?_);rw[Gf c];refine dv (wpAny_setField eT dT (kj.mp h3).1 ?_);have k1:∀ fs,Kx fs h0 H s.heap (s.heap.update T (kf (·.setIfInBounds 3 jC))):=λfs=>Kx.upd eT dT m0 mH (by decide);have z1:(s.heap.update T (kf (·.setIfInBounds 3 jC))).objs.size=s.heap.objs.size:=by simp[vC]
  exact KD hfr ((k1 []).frames hl) hf ((jN _ _ hT).trans he) hdn hd (kj.mp h1).1 n0 nH (λb o q=>by rw[z1];exact hz b o q) (λb q=>by rw[z1];exact hH b q) λh' t k z=>h h' t ((k1 _).trans k) (by rw[z1] at z;exact z)
def zDB {fl:Gg}(hfr:A.frames=Ga (ψ::outer))(hl:s.heap.FunFrames base (ψ::outer))(hf:ψ.frame=Ga L)(ht:iU h0 H x cls fl s.heap)(hz:∀ b o,h0.get? b=Ga o->b<s.heap.objs.size)(hH:∀ b,H b≠Gb->b<s.heap.objs.size)
  (h:∀ h',iU h0 H x cls .none h'->Kx (gE (ψ::outer)) h0 H s.heap h'->s.heap.objs.size<=h'.objs.size->Q () { s with heap:=h' }):wpAny M A (leaving ψ (.ref x)) Q E s:=by
 unfold leaving;refine dv (Wj hfr hl hf ht hz hH λh1 t1 k1 z1=>?_);exact xg t1 λh2 t2 k2 z2=>h h2 t2 (k1.trans (k2 _)) (by rwa[z2])
def zDC {what:String}{cenv:Env}{fl:Gg}{R:α->Gh->Prop}(ht:iU h0 H x cls fl s.heap)(h:∀ h' fl',iU h0 H x cls fl' h'->(∀ fs,Kx fs h0 H s.heap h')->h'.objs.size=s.heap.objs.size->E (.ref x) { s with heap:=h' }):wpAny M A (Jz what (.ref x) cenv:Sem α) R E s:=by
 obtain⟨n0,nH,oe,vs,T,oT,ts,he,hc,hd,h1,hT,eT,dT,h3,m0,mH⟩:=ht;have hs3:3<ts.size:=(kj.mp h3).1;unfold Jz;refine dv (wpAny_field he hd h1 ?_);rw[Gf (show ¬(jH T==jC)=true by simp)];unfold setFlight;refine dv (dv (wpAny_field he hd h1 ?_));rw[Ge (show(jH T !=jC)=true by simp)];refine wpAny_setField eT dT hs3 ?_;refine wpAny_throw (h _ _ ⟨n0,nH,oe,vs,T,_,_,(jN _ _ hT).trans he,hc,hd,h1,hT,jI _ eT (kA (j8 dT _)),j8 dT _,by simp[hs3];rfl,m0,mH⟩ (λfs=>Kx.upd eT dT m0 mH (by decide)) ?_);simp[vC]
def tj (fe:FV)(kx:FX)(base:En):List D->Option Str
 | []=>Gb
 | d::r=>match kx (.val d::base) with
  | some c=>Ga c
  | none=>(fe (.val d::base)).bind λ_=>tj fe kx base r
def GS (fi:FL)(fe:FV)(kx:FX)(ix:List Nat):FX:=λψ=>(fi ψ).bind λds=>if ds.length<=1000000 then tj fe kx (gm ix ψ) ds else Gb
variable {ψ:En}{E:XK}{x:Str}{k:Nat}
def Ze{J:It}{c:Str}{fe:FV}{kx:FX}{ix:List Nat}{D0:Gj}{Qv:Hp->Prop}{g:TG}
  (hg:∀ v σ H Q,tG K (λd ψ=>Ga (ψ.set 0 (.val d))) v σ H Q->g v σ H Q)
  (nd:ix.Nodup) (r:RS K H0 F1 H1 ψ σ) (Y:∀ F2,dA F1 F2->lh K J F2 ds) (e:tj fe kx (gm ix ψ) ds=Ga c) (hz:ds.length<=1000000) (hD:H1 D0=Gb) (w:Xw mg E c H0) :
  wO J g (λ_ H Q=>Q true H) (λσ H Q=>tV K fe σ H Q\/MO K mg E kx σ H Q) D0 (prj ix σ) (upd H1 D0 (.lst [])) Qv:=by
 have fD:F1 D0=Gb:=r.fh.free hD;have h0D:H0 D0=Gb:=r.h0.free hD;have g0:dA H1 (upd H1 D0 (.lst [])):=dA.new hD;refine⟨λi m σ' H'=>i+m=ds.length/\∃ F2 sx ys,RS K (upd H0 D0 (.lst ys)) F2 H' (sx::gm ix ψ) σ'/\dA F1 F2/\eN F1 F2 H1/\dA H1 H'/\F2 D0=Gb/\H' D0=Ga (.lst ys)/\ys.length<=i /\
  tj fe kx (gm ix ψ) (ds.drop i)=Ga c,⟨ds.length,by omega,F1,.no,[],(r.prj ix nd).lend hD,.refl _,.refl _ _,g0,fD,dH,jw _,e⟩,?_⟩
 rintro i m σ' H' ⟨hm,F2,sx,ys,r2,f2,n2,g2,fd2,hd2,hl2,e2⟩;have⟨yd,yg⟩:=Y F2 f2 H' r2.fh i;by_cases hlt:i<ds.length
 .obtain⟨go,yy⟩:=yg ds[i] (by simp[hlt]);rw[uj hlt] at e2;unfold tj at e2;refine .inr ⟨go,λσ3 H3=>i+1+(m-1)=ds.length/\∃ F2 sx ys,RS K (upd H0 D0 (.lst ys)) F2 H3 (sx::gm ix ψ) σ3/\dA F1 F2/\eN F1 F2 H1/\dA H1 H3/\F2 D0=Gb/\H3 D0=Ga (.lst ys)/\ys.length<=i+1 /\
   tj fe kx (gm ix ψ) (ds.drop (i+1))=Ga c,λσ3 H3 h3=>⟨m-1,by omega,h3⟩,λx Hx yl=>?_⟩
  have⟨gx,F4,f4,fh4,n4,rx⟩:=yy x Hx yl;have r4:=r2.grow gx f4 fh4 n4;have noD:∀ {F F' H:Hp},F D0=Gb->(∃ o,H D0=Ga o)->eN F F' H->F' D0=Gb:=λ{F F' H} a ⟨o,b⟩ n=>by
   cases z:F' D0 with
   | none=>rfl
   | some o'=>have:=n D0 o' z a;rw[b] at this;cases this
  have fd4:F4 D0=Gb:=noD fd2 ⟨_,hd2⟩ n4;refine hg _ _ _ _ ⟨upd H0 D0 (.lst ys),F4,sx::gm ix ψ,ds[i],.val ds[i]::gm ix ψ,r4,rx,rfl,λσ5 r5=>?_⟩;have hd6:Hx D0=Ga (.lst ys):=gx _ _ hd2;have s6:dA H1 Hx:=g2.trans gx;have nn4:eN F1 F4 H1:=n2.trans n4 g2;refine mP ?_;split at e2
  .rename_i c' hk;cases e2;exact .inr ⟨upd H0 D0 (.lst ys),F4,.val ds[i]::gm ix ψ,c,r5,hk,w.dn (dA.new h0D)⟩
  .obtain⟨y,x3,x4⟩:=dz e2;refine .inl ⟨upd H0 D0 (.lst ys),F4,.val ds[i]::gm ix ψ,y,r5,x3,λv H7 F7 g7 f7 fh7 n7 rv=>⟨ys,g7 _ _ hd6,?_,by omega,F7,.val ds[i],ys++[v],?_,f2.trans (f4.trans f7),?_,?_,noD fd4 ⟨_,hd6⟩ n7,dH,?_,x4⟩⟩
   .have:ys.length<1000000:=by omega
    exact jf this (by rw[sizeLine_eq];decide)
   .exact(r5.grow g7 f7 fh7 n7).swap (noD fd4 ⟨_,hd6⟩ n7)
   .exact nn4.trans n7 s6
   .exact(s6.trans g7).put hD (Ow.nf (ob:=.lst ys) trivial (g7 _ _ hd6))
   .rw[jA,uk];omega
 .rw[uy (by omega)] at e2;cases e2
section
variable {P:Program}{w:World}{K:ja}{mg:Str->Option Gg}{base:Heap}{N:List Str}{qual:Str}{sc:Scope}{f:Gj}{cd:Gg}{A:Around}{outer:List Env}{s₀:Gh}{H₀:Hp}{E:XK}
variable {elt iter:Expr}{x:Str}{px pos:Pos}{scope:Scope}{fr:List Str}{ix:List Nat}{fi:FL}{fe:FV}{kx:FX}
abbrev oO (P:Program)(w:World)(K:ja)(mg:Str->Option Gg)(base:Heap)(N:List Str)(qual:Str)(sc:Scope)(f:Gj)(cd:Gg)(A:Around)(outer:List Env)(s₀:Gh)(H₀:Hp)(E:XK):Cx:=fN (fM P w) P w K mg base N qual sc f cd A outer s₀ H₀ E
def LX (X:Cx)(E:XK)(scope:Scope)(cl:List (Str×Gj))(N':List Str)(fp:List Gj)(ω:List (Gj×Obj))(C:Gj)(s3:Gh)(H3:Hp)(e:Gg)(s':Gh):Prop:=∃ pp σ' H1 s1,dE (gP X scope cl C N' s3 H3 fp ω) pp σ' H1 s1/\fM X.prog X.w X.stack H1 s1 E e s'
def NL{N':List Str}{fp:List Gj}{s3:Gh}{H3:Hp}:gU (fM X.prog X.w) (gh X scope cl C N' s3 H3 fp ω (LX X E scope cl N' fp ω C s3 H3)) E:=λpp σ' H1 s1 _ _ I1 h1=>by
 show LX X E scope cl N' fp ω C s3 H3 _ _;exact⟨pp,σ',H1,s1,zFv I1,h1⟩
def zDE {use:Option (Gg->Sem Unit)}{cp:Pos}{s1:Gh}(S:mV N sc scope x fr ix)(hi:rY (oO P w K mg base N qual sc f cd A outer s₀ H₀ E) (.Name x px) iter fi)(nd:(x::fr).Nodup)(hl:scope.names.lookup x=Ga .local)
  (he:∀ cl C s H fp ω xe,PV (gh (oO P w K mg base N qual sc f cd A outer s₀ H₀ E) scope cl C (x::fr) s H fp ω xe) elt fe)
  (hx:∀ cl C s H fp ω xe,gU (fM P w) (gh (oO P w K mg base N qual sc f cd A outer s₀ H₀ E) scope cl C (x::fr) s H fp ω xe) E->me (gh (oO P w K mg base N qual sc f cd A outer s₀ H₀ E) scope cl C (x::fr) s H fp ω xe) E elt kx)
  (hs:∀ v,foldedSetIterable iter (envOfC qual sc s₀.heap.objs.size f cd) v=pure v:=by intro _;rfl) :
  dE (oO P w K mg base N qual sc f cd A outer s₀ H₀ E) ω σ H1 s1->Di K mg E (GS fi fe kx ix) σ H1->wpAny (model P w) (A.deeper (envOfC qual sc s₀.heap.objs.size f cd)) (comprehension (.ListComp elt [⟨.Name x px,iter,[],0⟩] scope pos) scope (envOfC qual sc s₀.heap.objs.size f cd) cp (newList []) false (eval iter (envOfC qual sc s₀.heap.objs.size f cd)) use) (λ_ _=>False) (oO P w K mg base N qual sc f cd A outer s₀ H₀ E).xe s1:=by
 intro I hw;have⟨cl,hclos,hl1,hl2⟩:=LM I S;obtain⟨H0,F,ψ,c,r,e,xw⟩:=hw;have⟨ds,e1,e⟩:=dz e;split at e;rotate_left
 .cases e
 rename_i hz;refine wpAny_comprehension_free (use:=use) rfl hs hclos S.kind S.locs (wpAny_mono (hi ω s1 σ H1 (λJ H2=>∃ F1,dA H1 H2/\dA F F1/\dA F1 H2/\eN F F1 H1/\∀ F2,dA F1 F2->lh K J F2 ds) I ⟨H0,F,ψ,ds,r,e1,λJ H1 F1 g1 f1 fh1 n1 Y=>⟨F1,g1,f1,fh1,n1,Y⟩⟩)
  (λxv s1 h1=>wpAny_mono h1 (λitv s2 h2=>?_) λ_ _ z=>z) λ_ _ z=>z)
 obtain⟨it,fp,tn,J,H2,eit,I2,T,st2,f2,F1,g1,f1,fh1,n1,Y⟩:=h2;subst eit;refine Wq (nb:=[x]) (xe:=LX (oO P w K mg base N qual sc f cd A outer s₀ H₀ E) E scope cl (x::fr) fp ω)
  (g:=tG K (λd ψ=>Ga (ψ.set 0 (.val d)))) (te:=λσ H Q=>tV K fe σ H Q\/MO K mg E kx σ H Q) (tc:=λ_ H Q=>Q true H) (ifs:=[]) (RR:=λacc C=>compPost (model P w) (A.deeper (envOfC qual sc s₀.heap.objs.size f cd)) (oO P w K mg base N qual sc f cd A outer s₀ H₀ E).xe use (λ_ _=>False) acc C) (Qv:=λD0 H'=>False) S hl1 hl2 I2 T st2 f2 rfl
  (λC s' H'=>⟨FQ 0 nd rfl (.inl (lookup_relabel_local hl)) (.inr (lookup_relabel_local hl)),rfl,λω s σ H Q I h=>h.elim (he cl C s' H' fp _ _ ω s σ H Q I) (hx cl C s' H' fp _ _ NL ω s σ H Q I)⟩)
  (λD0 hD=>Ze (λ_ _ _ _ h=>h) S.apart (r.grow g1 f1 fh1 n1) Y e hz hD xw) (λD0 C s3 H3 hC back e s' h=>?_) λD0 C s' H' I' hC hn hf hq=>hq.elim
 obtain⟨pp,σ',Hc,sc1,Ic,y,Cy,H',rfl,os,bare,u,hok,t,hE⟩:=h;have Jc:=Ic.call' (ch:=[]) os u hok bare λb z=>absurd z (by simp);have⟨J,m,hm⟩:=back _ _ _ _ Jc;have⟨J0,_⟩:=back _ _ _ _ Ic;have t0:=Ky J0 rfl t;have nC:C∉gE (envOfC qual sc s₀.heap.objs.size f cd::outer):=λz=>by
  have⟨_,o,ho,_⟩:=I2.stack.mem z;exact absurd (jf (jg ho) hC) (ka _)
 have c0:s₀.heap.get? C=Gb:=by
  cases q:s₀.heap.get? C with
  | none=>rfl
  | some o=>exact absurd (jf (jg q) (jX I2.sz hC)) (ka _)
 have cH:H' C=Gb:=Jc.free;have lt0:∀ b o,s₀.heap.get? b=Ga o->b<s'.heap.objs.size:=λb o q=>jf (jg q) J.sz;have ltH:∀ b,H' b≠Gb->b<s'.heap.objs.size:=λb q=>by
  cases z:H' b with
  | none=>exact absurd z q
  | some o=>exact J.hok.lt z
 show wpAny _ _ (noteFrame (.ref y) (envOfC qual sc s₀.heap.objs.size f cd)) _ _ _;refine Wj (h0:=s₀.heap) (H:=H') J.ok.frames J.stack rfl t0 lt0 ltH λh1 t1 k1 z1=>?_;obtain⟨oc,es,ep,eo,do_,sk,fnd⟩:=hm;obtain⟨sl,e1c,_⟩:=k1.1 C oc eo (.inr (.inr λvs z=>by rw[do_] at z;cases z))
 suffices key:∃ m,h1.Ns C m/\∀ h2,kZ C h1 h2->∀ cenv:Env,cenv.locals=C->wpAny (model P w) (A.deeper (envOfC qual sc s₀.heap.objs.size f cd)) (Jz "comprehension.variables-let-go" (.ref y) cenv:Sem Gg) (λ_ _=>False) (oO P w K mg base N qual sc f cd A outer s₀ H₀ E).xe { s' with heap:=h2 } by
  cases use<;>exact key
 refine⟨m,⟨_,es,ep,e1c,do_,sk,fnd⟩,λh2 sb cenv _=>?_⟩;have t2:iU s₀.heap H' y (.ref Cy) (rawInt s₀.heap.objs.size) h2:=by
  obtain⟨n0,nH,oe,vs,T,oT,ts,he,hc,hd,h1,hT,eT,dT,h3,m0,mH⟩:=t1;have ny:y≠C:=λz=>by
   rw[z,e1c] at he;cases he;rw[show oc.data=_ from do_] at hd;cases hd
  have nT:T≠C:=λz=>by
   rw[z,e1c] at eT;cases eT;rw[show oc.data=_ from do_] at dT;cases dT
  exact⟨n0,nH,oe,vs,T,oT,ts,(sb.2 _ ny).trans he,hc,hd,h1,hT,(sb.2 _ nT).trans eT,dT,h3,m0,mH⟩
 refine zDC (s:={ s' with heap:=h2 }) t2 λh3 fl' t3 k3 z3=>?_;have z2:s'.heap.objs.size<=h3.objs.size:=by
  rw[z3];show _<=h2.objs.size;rwa[sb.1]
 have fl3:h3.FunFrames base (envOfC qual sc s₀.heap.objs.size f cd::outer):=(k3 []).frames (SD nC sb (k1.frames J.stack));refine zDB (s:={ s' with heap:=h3 }) (h0:=s₀.heap) (H:=H') J.ok.frames fl3 rfl t3 (λb o q=>jf (lt0 b o q) z2) (λb q=>jf (ltH b q) z2) λh4 t4 k4 _=>?_;have kk:Kc C (gE (envOfC qual sc s₀.heap.objs.size f cd::outer)) s₀.heap H' s'.heap h4:=(Kx.kc k1).trans ((Kc.but sb).trans ((Kx.kc (k3 _)).trans (Kx.kc k4)));have⟨u4,hok4⟩:=zFw J rfl c0 cH kk;exact⟨y,Cy,H',rfl,J.os,J.bare,u4,hok4,t4,hE⟩
def SR{py spos:Pos}(S:mV N sc scope x fr ix)(hi:rY (oO P w K mg base N qual sc f cd A outer s₀ H₀ E) (.Name x px) iter fi)(nd:(x::fr).Nodup)(hl:scope.names.lookup x=Ga .local)
  (he:∀ cl C s H fp ω xe,PV (gh (oO P w K mg base N qual sc f cd A outer s₀ H₀ E) scope cl C (x::fr) s H fp ω xe) elt fe)
  (hx:∀ cl C s H fp ω xe,gU (fM P w) (gh (oO P w K mg base N qual sc f cd A outer s₀ H₀ E) scope cl C (x::fr) s H fp ω xe) E->me (gh (oO P w K mg base N qual sc f cd A outer s₀ H₀ E) scope cl C (x::fr) s H fp ω xe) E elt kx)
  (hsw:swapsWith (.ListComp elt [⟨.Name x px,iter,[],0⟩] scope pos) (Ga (.Name y py)) spos.line (envOfC qual sc s₀.heap.objs.size f cd)=pure true:=by rfl) (hs:∀ v,foldedSetIterable iter (envOfC qual sc s₀.heap.objs.size f cd) v=pure v:=by intro _;rfl) :
  mK (oO P w K mg base N qual sc f cd A outer s₀ H₀ E) E (.Assign [.Name y py] (.ListComp elt [⟨.Name x px,iter,[],0⟩] scope pos) spos) (GS fi fe kx ix):=by
 intro ω s σ H D I hw;show wpAny (model P w) (A.deeper (envOfC qual sc s₀.heap.objs.size f cd)) (exec _ (envOfC qual sc s₀.heap.objs.size f cd)) _ _ s;rw[exec_Assign_Name_used _ _ _ _ hsw];refine dv (wpAny_standAt (dv ?_));show wpAny _ _ (do let _ <- comprehension (.ListComp elt [⟨.Name x px,iter,[],0⟩] scope pos) scope (envOfC qual sc s₀.heap.objs.size f cd) _ (newList []) false (eval iter (envOfC qual sc s₀.heap.objs.size f cd)) (Ga (assign (.Name y py) (envOfC qual sc s₀.heap.objs.size f cd)))) _ _ s;exact dv (wpAny_mono (zDE S hi nd hl he hx hs I hw) (λ_ _ z=>z.elim) λ_ _ z=>z)
end
def xL (K:ja)(mg:Str->Option Gg)(c:dZ)(fx:List D->Option Str):Sp:=λvs H _ E=>∃ (F:Hp) (g:Gj) (us:List V) (ds:List D) (cn:Str),vs=.ref g::us/\c.C g F H/\dA F H/\dM K F ds us/\fx ds=Ga cn/\Xw mg E cn H
def Ca (np n:Nat)(c:dZ)(k:FX)(ds:List D):Option Str:=if ds.length+1=np then k (startF n c ds) else Gb
section
variable {P:Program}{w:World}{K:ja}{mg:Str->Option Gg}{base:Heap}{x qual:Str}{st:Stmt}{f:Gj}{fd:Gi}{N ps:List Str}{k:Nat}{kx:FX}{c:dZ}
def MD (F:le K x qual st f fd)(S:dD N ps (defScope st))
  (hb:∀ {cdv:Gg} {A:Around} {outer:List Env} {s:Gh} {H:Hp} {E:XK},eP k (A.deeper (envOfC qual (defScope st) s.heap.objs.size f cdv))->my (fN (fM P w) P w K mg base N qual (defScope st) f cdv A outer s H E) E (defBody st) kx) :
  dJ P w K mg base (fM P w) (k+1) f fd ps (xL K mg c (Ca ps.length N.length c kx)):=by
 obtain⟨oc,od,kV,doc,pm,an,cdv,ct,osl,rfl,lk,hcd⟩:=F.ex;refine rl lk hcd S (λvs H Q E h=>?_) λA outer s H vs Q E hr h=>?_
 .obtain⟨F0,g0,us,ds,cn,rfl,_,_,r,e,_⟩:=h;rw[jr,<- r.length];exact(pj e).1
 .obtain⟨F0,g0,us,ds,cn,rfl,hC,hs,r,e,w⟩:=h;exact⟨_,hb hr,H,F0,_,cn,RS.startF hs r hC,(pj e).2,w⟩
end
open Classical in
noncomputable def GZ (i:Nat)(c:dZ)(g:FL)(fx:List D->Option Str):FX:=λψ=>if ψ[i]?=Ga (.fn c) then(g ψ).bind fx else Gb
def pD (x y:Str)(k:Int):List Str:=uN x (jT x y 0 x.length (limitOf x k)) y.length
def tw (x y:Str)(k:Int):Bool:=decide (x.length<=sizeLine)&&(!(y.length==0)&&(!(decide (x.length<y.length)||decide (k9 x<k9 y))&&(!(jT x y 0 x.length (limitOf x k)).isEmpty&&(decide ((pD x y k).length<=sizeLine)&&!(decide (k < -(2^63:Int))||decide (k≥2^63))))))
def zzP:wx X "str.split" (λx vs H Q=>∃ a b k,x=.str a/\vs=[.str b,.int k]/\tw a b k=true/\∀ p,H p=Gb->Q (.ref p) (upd H p (.lst ((pD a b k).map V.str)))):=by
 intro ω s σ H x vs v us Q I rx rv h;obtain⟨a,b,k,rfl,rfl,hok,q⟩:=h;obtain⟨t,rfl⟩:=rx;cases rv with
 | cons r1 r2 =>
  cases r2 with
  | cons r2 r3 =>
   cases r3;obtain⟨t1,rfl⟩:=r1;obtain⟨t2,rfl⟩:=r2;unfold tw at hok;simp only[ju,u8,decide_eq_true_eq] at hok;obtain⟨z1,z2,z3,z4,z5,z6⟩:=hok;have hf:H s.heap.objs.size=Gb:=I.hok.fresh (jw _);refine call_meets ui (typeIs_str _ _ _) uS (PySem.F.args_str_split_3 _ _ _) (meets_str_split_sep_max a b k t t1 t2 z6 z3 z2 z4 z1 z5) ?_;show wants _ _ _ { s with toks:=_,heap:=s.heap.push { cls:=.type "list",data:=.seq (strsFrom s.toks (pD a b k)).toArray } };rw[strsFrom_eq];have z5':((pD a b k).map V.str).length<=sizeLine:=by rwa[jk]
   have vv:eC ((pD a b k).map V.str) (strValues (numbered s.toks (pD a b k))):=by have z:=IW (numbered s.toks (pD a b k));rw[numbered_texts] at z;exact z
   exact⟨.ref s.heap.objs.size,upd H s.heap.objs.size (.lst ((pD a b k).map V.str)),I.laid (λb u e=>jb _ e) (jw _) ⟨z5',_,0,vv,jm _ rfl⟩,rfl,q _ hf⟩
def wl:D->D->D->Option (List D)
 | .str x,.str y,.int k=>if tw x y k=true then Ga ((pD x y k).map jL) else Gb
 | _,_,_=>Gb
def zp (g:D->D->D->Option (List D))(f1 f2 f3:FV):FL:=λψ=>(f1 ψ).bind λa=>(f2 ψ).bind λb=>(f3 ψ).bind λc=>g a b c
def UZ {e3:Expr}{f3:FV}(ho:PV X o fo)(h:PV X e f)(h3:PV X e3 f3)(hbase:attributeBase o "split" X.env (eval o X.env)=eval o X.env:=by rfl)
  (hst:starEach [e,e3] X.env=(false,eval e X.env)::starEach [e3] X.env:=by rfl) (hst2:Sb X e3:=by rfl) (hfew:((backTo p2 (starEach [e,e3] X.env)).all (λx=>!x.1)&&(backToKw p2 (keywordEach [] X.env)).all (λx=>x.1.isSome)
   && decide ([e,e3].length+([]:List Keyword).length+(if ([]:List Keyword).isEmpty then 0 else 1)<30))=true:=by rfl) (hline:(p.endLine==p2.line)=true:=by rfl) (hplain:(backTo p2 (starEach [e3] X.env)).any (·.1)=false:=by rfl):PO X (.Call (.Attribute o "split" p) [e,e3] [] p2) (zp wl fo f f3):=by
 refine fG (pQ uX ui qN zzP ho (eY h (eY h3 fY hst2) hst) hbase hfew hline hst hplain) λσ H Q=>?_;rintro⟨H0,F,ψ,d,r,e,q⟩;have⟨x,e1,e'⟩:=dz e;have⟨y,e2,e''⟩:=dz e';have⟨z,e3,e⟩:=dz e'';clear e' e'';refine⟨H0,F,ψ,x,r,e1,λv H1 F1 g1 f1 fh1 n1 rv=>?_⟩;cases rv<;>first|(cases e;done)|skip
 rename_i a;have r1:=r.grow g1 f1 fh1 n1;refine⟨rfl,H0,F1,ψ,y,r1,e2,λw H2 F2 g2 f2 fh2 n2 rw_=>?_⟩;cases rw_<;>first|(cases e;done)|skip
 rename_i b;refine⟨H0,F2,ψ,z,r1.grow g2 f2 fh2 n2,e3,λw3 H3 F3 g3 f3 fh3 n3 rw3=>?_⟩;cases rw3<;>first|(cases e;done)|skip
 rename_i k;have e':(if tw a b k=true then Ga ((pD a b k).map jL) else Gb)=Ga d:=e;split at e';rotate_left
 .cases e'
 rename_i hok;cases e';refine⟨a,b,k,rfl,rfl,hok,λp hp=>?_⟩;have s2:dA H3 (upd H3 p (.lst ((pD a b k).map V.str))):=dA.new hp;have gg:=(g1.trans g2).trans g3;exact q p _ _ F3 (gg.trans s2) ((f1.trans f2).trans f3) (fh3.trans s2) ((n1.trans n2 g1).trans n3 (g1.trans g2)) (gg.free hp) (fh3.free hp) dH (KZ _)
def atT (kvs:List (Str×D))(k:Str):Option D:=(kvs.find? λp=>decide (p.1=k)).map (·.2)
def iW (kvs:List (Str×D))(k:Str)(d:D):List (Str×D):=if (kvs.any λp=>decide (p.1=k))=true then kvs.map (λp=>if p.1=k then(p.1,d) else p) else kvs++[(k,d)]
def fv.length {K:ja}{F:Hp}:∀ {l:List (Str×D)} {m:List (fJ×V)},fv K F l m->m.length=l.length
 | _,_,.nil=>rfl
 | _,_,.cons _ t=>congrArg Jv t.length
def fv.at {K:ja}{F:Hp}(k:Str):∀ {l:List (Str×D)} {m:List (fJ×V)},fv K F l m->(atT l k=Gb/\oo m (Sum.inr k:fJ)=Gb)\/∃ d v,atT l k=Ga d/\oo m (Sum.inr k:fJ)=Ga v/\eU K F d v
 | _,_,.nil=>.inl ⟨rfl,rfl⟩
 | (j,d)::l,(_,v)::m,.cons h t=>by
  by_cases c:j=k
  .subst c;exact .inr ⟨d,v,by unfold atT;rw[List.find?_cons_of_pos (p:=λ(p:Str×D)=>decide (p.1=j)) (Gc rfl)];rfl,yW rfl,h⟩
  .rw[zL (λz=>c (Sum.inr.inj z))];unfold atT;rw[vL (p:=λ(p:Str×D)=>decide (p.1=k)) (by simpa using c)];exact t.at k
def fv.any {K:ja}{F:Hp}(k:Str):∀ {l:List (Str×D)} {m:List (fJ×V)},fv K F l m->(m.any λkv=>decide (kv.1=(Sum.inr k:fJ)))=l.any λp=>decide (p.1=k)
 | _,_,.nil=>rfl
 | (j,d)::l,(_,v)::m,.cons h t=>by rw[vU,vU,t.any k,DS]
def fv.maps {K:ja}{F:Hp}{k:Str}{d:D}{v:V}(q:eU K F d v):∀ {l:List (Str×D)} {m:List (fJ×V)},fv K F l m->fv K F (l.map λp=>if p.1=k then(p.1,d) else p) (m.map λkv=>if kv.1=(Sum.inr k:fJ) then(kv.1,v) else kv)
 | _,_,.nil=>.nil
 | (j,e)::l,(_,u)::m,.cons h t=>by
  rw[kh,kh];by_cases c:j=k
  .subst c;rw[Ge rfl,Ge rfl];exact .cons q (t.maps q)
  .rw[Gf c,Gf (λz=>c (Sum.inr.inj z))];exact .cons h (t.maps q)
def fv.snoc {K:ja}{F:Hp}{k:Str}{d:D}{v:V}(q:eU K F d v):∀ {l:List (Str×D)} {m:List (fJ×V)},fv K F l m->fv K F (l++[(k,d)]) (m++[((Sum.inr k:fJ),v)])
 | _,_,.nil=>.cons q .nil
 | _,_,.cons h t=>.cons h (t.snoc q)
def fv.put{k:Str}{l:List (Str×D)}{m:List (fJ×V)}(r:fv K F l m)(q:eU K F d v):fv K F (iW l k d) (rh m (Sum.inr k:fJ) v):=by
 unfold iW rh;rw[r.any k];split
 .exact r.maps q
 .exact r.snoc q
def GI:List (D×D)->Option (List (Str×D))
 | []=>Ga []
 | (.str k,d)::r=>(GI r).bind λl=>Ga ((k,d)::l)
 | _=>Gb
def AX:D->Option (List (Str×D))
 | .dict ((.none,.none)::(.none,.none)::l)=>GI l
 | _=>Gb
def Qe:∀ kvs:List (Str×D),GI (kvs.map λp=>(jL p.1,p.2))=Ga kvs
 | []=>rfl
 | (k,d)::r=>by
  show(GI (r.map λp=>(jL p.1,p.2))).bind _=_;rw[Qe r];rfl
def OG (kvs:List (Str×D)):AX (pC kvs)=Ga kvs:=Qe kvs
def eU.str_dict(r:eU K F d v)(e:AX d=Ga kvs):∃ a ws,v=.ref a/\Rd F a (.dK ws)/\fv K F kvs ws:=by
 cases r with
 | @dcs a kvs' ws h r =>
  have e':AX (pC kvs')=Ga kvs:=e;rw[OG] at e';cases e';exact⟨a,ws,rfl,h,r⟩
 | @dic a ks as ep hs h ok r =>
  cases ks with
  | nil=>cases e
  | cons k r=>cases k<;>cases e
 | _=>cases e
def ef (d:D):D->Option D
 | .str k=>(AX d).bind λkvs=>atT kvs k
 | _=>Gb
def iX{g:FV}(hu:X.A.units+100<cLine)(ha:PV X a f)(hb:PV X b g)(hs:Ae b:=by exact λ_ _=>rfl):PV X (.Subscript a b pos) (dX ef f g):=by
 refine fG (Bq (by omega) ha hb hs) λσ H Q=>?_;rintro⟨H0,F,ψ,d,r,e,q⟩;have⟨x,e1,e⟩:=dz e;have⟨y,e2,e⟩:=dz e;obtain⟨k,rfl⟩:∃ k:Str,y=.str k:=by cases y<;>first|(cases e;done)|exact⟨_,rfl⟩
 have⟨kvs,e3,e4⟩:=dz (show(AX x).bind (λkvs=>atT kvs k)=Ga d from e);refine⟨H0,F,ψ,x,r,e1,λv H1 F1 g1 f1 fh1 n1 rv=>?_⟩;refine⟨H0,F1,ψ,.str k,r.grow g1 f1 fh1 n1,e2,λv2 H2 F2 g2 f2 fh2 n2 rv2=>?_⟩;cases rv2;obtain⟨a,ws,rfl,fa,rr⟩:=(rv.mono f2).str_dict e3;rcases rr.at k with ⟨z1,z2⟩|⟨d',v',z1,z2,z3⟩
 .rw[z1] at e4;cases e4
 .rw[z1] at e4;cases e4;exact⟨a,v',rfl,⟨ws,Sum.inr k,Rd.mono fh2 fa,rfl,z2.symm⟩,q v' H2 F2 (g1.trans g2) (f1.trans f2) fh2 (n1.trans n2 g1) z3⟩
def Qz (i:Nat)(hN:X.N.Nodup)(hi:X.N[i]?=Ga x:=by rfl)(hx:rE X.env.scope x:=by ac_rfl)
  (hs:swapsWith (.Dict [] [] p) (Ga (.Name x pos')) pos.line X.env=pure false:=by rfl) (hf:Sd X x:=by ac_rfl) :
  im X (.Assign [.Name x pos'] (.Dict [] [] p) pos) (λψ=>Ga (.nx (ψ.set i (.dks [])))):=by
 intro ω s σ H D I hw;refine pG hN hi hx Am hs hf ω s σ H D I ?_;obtain⟨H0,F,ψ,o,r,e,p⟩:=hw;cases e;have hl:i<σ.length:=by rw[I.len];exact(je.mp hi).1
 intro a ha;exact p _ _ F (.refl _) (.refl _ _) ((r.later (dA.new ha)).putG hl ⟨a,[],rfl,dH,r.fh.free ha,r.h0.free ha,.nil⟩ λj s o _ ej=>r.ne_free ha j s o ej)
def wm (i:Nat)(f g:FV):FS:=λψ=>(g ψ).bind λv=>(f ψ).bind λk=>match ψ[i]?,k with
 | some (.dks kvs),.str n=>if kvs.length<1000 then Ga (.nx (ψ.set i (.dks (iW kvs n v)))) else Gb
 | _,_=>Gb
def SW (i:Nat){g:FV}(hu:X.A.units+100<cLine)(hk:PV X ke f)(hval:PV X value g)(hN:X.N[i]?=Ga x:=by rfl)(hv:lK X.env.scope x:=by ac_rfl)
  (hd:Nd x:=by decide) (hcd:(x==("__classdict__":Str))=false:=by decide)
  (hs:swapsWith value (Ga (.Subscript (.Name x p) ke p2)) pos.line X.env=pure false:=by rfl) :
  im X (.Assign [.Subscript (.Name x p) ke p2] value pos) (wm i f g):=by
 refine iR (Au (by omega) (gz (pos:=p) hN hv hd hcd) hk hval hs) λE σ H=>?_;rintro⟨H0,F,ψ,o,r,e,p⟩;have⟨v,e0,e⟩:=dz e;have⟨k,e1,e2⟩:=dz e;clear e;split at e2;rotate_left
 .cases e2
 rename_i kvs n z;split at e2;rotate_left
 .cases e2
 rename_i c;cases e2;refine⟨H0,F,ψ,v,r,e0,λvv H1 F1 g1 f1 fh1 n1 rv=>?_⟩;have r1:=r.grow g1 f1 fh1 n1;have⟨u,x3,a,ws,x4,ha1,fa,h0a,rr⟩:=r1.sl i _ z;subst x4;refine⟨.ref a,x3,H0,F1,ψ,.str n,r1,e1,λkk H2 F2 g2 f2 fh2 n2 rk=>?_⟩;cases rk;have r2:=r1.grow g2 f2 fh2 n2;have⟨u,x5,a',ws',x6,ha2,fa2,h0a2,lv⟩:=r2.sl i _ z;subst x6;rw[x3] at x5;cases x5;refine⟨a,_,rfl,xE.k9 (k:=Sum.inr n) ha2 (by rw[lv.length];exact jf c (by rw[sizeLine_eq];decide)),?_⟩;exact p σ _ F2 (f1.trans f2) (((n1.dn r.h0).up (n2.dn r1.h0))) (r2.chgG z rfl x3 ⟨a,_,rfl,dH,fa2,h0a2,lv.put (rv.mono f2)⟩)
structure GDk (P:Program)(w:World)(K:ja)(mg:Str->Option Gg)(x:Str)(tab:List (Str×D)):Prop where
 e:∃ (a:Gj) (ws:List (fJ×V)),mg x=Ga (.ref a)/\(a==sysModules)=false/\(∀ h:Heap,K.In h->∃ vs,KV ws vs/\h.DictOf (gZ P w) a vs)/\∀ F,fv K F tab ws
def mO (tab:List (Str×D))(f:FV):FV:=λψ=>(f ψ).bind λk=>match k with
 | .str n=>atT tab n
 | _=>Gb
def nL (tab:List (Str×D))(f:FV):FB:=λψ=>(f ψ).bind λk=>match k with
 | .str n=>Ga (!(atT tab n).isSome)
 | _=>Gb
def AI{tab:List (Str×D)}(G:GDk X.prog X.w X.K X.mg x tab)(hb:PV X b f)(hg:Gl X x:=by rfl)(hd:Nd x:=by decide)(hs:Ae b:=by exact λ_ _=>rfl) :
  PV X (.Subscript (.Name x p) b pos) (mO tab f):=by
 intro ω s σ H Q I hw;obtain⟨H0,F,ψ,d,r,e,q⟩:=hw;have⟨y,e2,e⟩:=dz e;obtain⟨k,rfl⟩:∃ k:Str,y=.str k:=by cases y<;>first|(cases e;done)|exact⟨_,rfl⟩
 have⟨a,ws,m,sm,dd,rep⟩:=G.e;refine Bj qm.lookup hs (gK I hg m ?_ hd);refine eV (hb ω s σ H (λv2 H2=>∃ F2,dA H H2/\dA F F2/\dA F2 H2/\eN F F2 H/\eU X.K F2 (.str k) v2) I ⟨H0,F,ψ,.str k,r,e2,λv2 H2 F2 g2 f2 fh2 n2 rv2=>⟨F2,g2,f2,fh2,n2,rv2⟩⟩) λu2 s2 ⟨v2,H2,I2,rx2,F2,g2,f2,fh2,n2,rv2⟩=>?_;cases rv2;have⟨vs,rel,dd⟩:=dd _ I2.kIn;have e4:atT tab k=Ga d:=e;rcases(rep F2).at k with ⟨z1,z2⟩|⟨d',v',z1,z2,z3⟩
 .rw[z1] at e4;cases e4
 .rw[z1] at e4;cases e4;obtain⟨w',hw,rw'⟩:=mw.some_of (v:=v') (o:=valueAt vs (Sum.inr k)) (by rw[<- z2];exact rel.val _);exact⟨dd.typeIs,wpAny_getItem_of (wZ (k:=Sum.inr k) rx2) dd.mapOf hw ⟨v',H2,I2.tok _,rw',q v' H2 F2 g2 f2 fh2 n2 z3⟩⟩
def QL{tab:List (Str×D)}(G:GDk X.prog X.w X.K X.mg x tab)(hb:PV X b f)(hg:Gl X x:=by rfl)(hd:Nd x:=by decide)
  (hm:behindInMarks .NotIn (.Name x p)=false:=by first|rfl|with_unfolding_all rfl):PB X (.Compare b [.NotIn] [.Name x p] pos) (nL tab f):=by
 have pc:PC X .NotIn b (.Name x p) (λσ H Q=>∃ H0 F ψ k,RS X.K H0 F H ψ σ/\f ψ=Ga (.str k)/\∀ H',dA H H'->Q (.bl (!(atT tab k).isSome)) H'):=by
  intro ω s σ H Q I hw;obtain⟨H0,F,ψ,k,r,e2,q⟩:=hw;have⟨a,ws,m,sm,dd,rep⟩:=G.e;refine eV (hb ω s σ H (λv2 H2=>∃ F2,dA H H2/\dA F F2/\dA F2 H2/\eN F F2 H/\eU X.K F2 (.str k) v2) I ⟨H0,F,ψ,.str k,r,e2,λv2 H2 F2 g2 f2 fh2 n2 rv2=>⟨F2,g2,f2,fh2,n2,rv2⟩⟩) λu2 s2 ⟨v2,H2,I2,rx2,F2,g2,f2,fh2,n2,rv2⟩=>gK I2 hg m ?_ hd;cases rv2;have⟨vs,rel,dd⟩:=dd _ I2.kIn;refine wpAny_notIn_of (wZ (k:=Sum.inr k) rx2) sm dd.mapOf ?_;have ez:(valueAt vs (Sum.inr k:fJ)).isSome=(atT tab k).isSome:=by
   rw[<- (rel.val _).isSome_eq];rcases(rep F2).at k with ⟨z1,z2⟩|⟨d',v',z1,z2,z3⟩<;>rw[z1,z2]<;>rfl
  rw[ez];exact⟨.bl _,H2,I2.tok _,rfl,q H2 g2⟩
 refine tJ (DN pc hm) λσ H Q=>?_;rintro⟨H0,F,ψ,b,r,e,q⟩;have⟨y,e2,e⟩:=dz e;obtain⟨k,rfl⟩:∃ k:Str,y=.str k:=by cases y<;>first|(cases e;done)|exact⟨_,rfl⟩
 cases e;exact⟨H0,F,ψ,k,r,e2,λH' g=>⟨_,rfl,q H' g⟩⟩
def Hl (i:Nat)(f:FV):FV:=λψ=>(f ψ).bind λk=>match ψ[i]?,k with
 | some (.dsk _ _ _ kvs),.str n=>atT kvs n
 | _,_=>Gb
def Ft (i:Nat)(f:FV):FB:=λψ=>(f ψ).bind λk=>match ψ[i]?,k with
 | some (.dsk _ _ _ kvs),.str n=>Ga (!(atT kvs n).isSome)
 | _,_=>Gb
structure DkC (K:ja)(C:Gj):Prop where
 cl:rW K C
 na:nV K C "runs"
def RS.dsk(r:RS K H0 F H ψ σ){p q:Gj}(e:ψ[i]?=Ga (.dsk C p q kvs)) :
  σ[i]?=Ga (Ga (.ref p))/\∃ dx ws,H p=Ga (.ins C dx [("runs",.ref q)])/\H q=Ga (.dK ws)/\fv K F kvs ws:=by
 have⟨u,e1,e2,dx,ws,h1,h2,rr⟩:=r.sl i _ e;subst e2;exact⟨e1,dx,ws,r.h0 _ _ h1,r.h0 _ _ h2,rr⟩
open Classical in
noncomputable def Dj (i:Nat)(C:Gj)(f:FV):FV:=λψ=>match ψ[i]? with
 | some (.dsk C' _ _ _)=>if C'=C then f ψ else Gb
 | _=>Gb
def zFx (i:Nat)(hu:X.A.units+100<cLine)(T:DkC X.K C)(hk:PV X ke f)(hN:X.N[i]?=Ga x:=by rfl)(hv:lK X.env.scope x:=by ac_rfl)(hd:Nd x:=by decide)
  (hcd:(x==("__classdict__":Str))=false:=by decide) (hba:attributeBase (.Name x p) "runs" X.env (eval (.Name x p) X.env)=eval (.Name x p) X.env:=by rfl) (hs:Ae ke:=by exact λ_ _=>rfl) :
  PV X (.Subscript (.Attribute (.Name x p) "runs" p2) ke pos) (Dj i C (Hl i f)):=by
 refine fG (Bq (by omega) (zu (gz hN hv hd hcd) hba) hk hs) λσ H Q=>?_;rintro⟨H0,F,ψ,d,r,e,q⟩;unfold Dj at e;split at e;rotate_left
 .cases e
 rename_i C' p' r' kvs z;split at e;rotate_left
 .cases e
 rename_i ec;subst ec;have⟨y,e2,e⟩:=dz e;obtain⟨k,rfl⟩:∃ k:Str,y=.str k:=by
  rw[z] at e;cases y<;>first|(cases e;done)|exact⟨_,rfl⟩
 rw[z] at e;have e4:atT kvs k=Ga d:=e;have⟨s1,dx,ws,h1,h2,rr⟩:=r.dsk z;refine⟨.ref p',s1,p',C',dx,_,.ref r',rfl,h1,T.cl,T.na,rfl,H0,F,ψ,.str k,r,e2,λv2 H2 F2 g2 f2 fh2 n2 rv2=>?_⟩;cases rv2;rcases(rr.mono f2).at k with ⟨z1,z2⟩|⟨d',v',z1,z2,z3⟩
 .rw[z1] at e4;cases e4
 .rw[z1] at e4;cases e4;exact⟨r',v',rfl,⟨ws,Sum.inr k,.inl (g2 _ _ h2),rfl,z2.symm⟩,q v' H2 F2 g2 f2 fh2 n2 z3⟩
open Classical in
noncomputable def xB (i:Nat)(C:Gj)(f:FB):FB:=λψ=>match ψ[i]? with
 | some (.dsk C' _ _ _)=>if C'=C then f ψ else Gb
 | _=>Gb
def Rw (i:Nat)(hu:X.A.units+100<cLine)(T:DkC X.K C)(hk:PV X ke f)(hN:X.N[i]?=Ga x:=by rfl)(hv:lK X.env.scope x:=by ac_rfl)(hd:Nd x:=by decide)
  (hcd:(x==("__classdict__":Str))=false:=by decide) (hba:attributeBase (.Name x p) "runs" X.env (eval (.Name x p) X.env)=eval (.Name x p) X.env:=by rfl) (hm:behindInMarks .NotIn (.Attribute (.Name x p) "runs" p2)=false:=by first|rfl|with_unfolding_all rfl) :
  PB X (.Compare ke [.NotIn] [.Attribute (.Name x p) "runs" p2] pos) (xB i C (Ft i f)):=by
 refine tJ (DN (Dx (by omega) hk (zu (gz hN hv hd hcd) hba)) hm) λσ H Q=>?_;rintro⟨H0,F,ψ,b,r,e,q⟩;unfold xB at e;split at e;rotate_left
 .cases e
 rename_i C' p' r' kvs z;split at e;rotate_left
 .cases e
 rename_i ec;subst ec;have⟨y,e2,e⟩:=dz e;obtain⟨k,rfl⟩:∃ k:Str,y=.str k:=by
  rw[z] at e;cases y<;>first|(cases e;done)|exact⟨_,rfl⟩
 rw[z] at e;cases e;refine⟨H0,F,ψ,.str k,r,e2,λv2 H2 F2 g2 f2 fh2 n2 rv2=>?_⟩;cases rv2;have⟨s1,dx,ws,h1,h2,rr⟩:=(r.grow g2 f2 fh2 n2).dsk z;refine⟨.ref p',s1,p',C',dx,_,.ref r',rfl,h1,T.cl,T.na,rfl,r',oo ws (Sum.inr k:fJ),rfl,⟨ws,Sum.inr k,.inl h2,rfl,rfl⟩,_,rfl,?_⟩;have ez:(oo ws (Sum.inr k:fJ)).isSome=(atT kvs k).isSome:=by rcases rr.at k with ⟨z1,z2⟩|⟨d',v',z1,z2,z3⟩<;>rw[z1,z2]<;>rfl
 rw[ez];exact q H2 g2
def pf (K:ja)(C:Gj)(fm:Sl->List D->Option D):Sp:=λvs H Q _=>∃ (F:Hp) (p dx r:Gj) (ws:List (fJ×V)) (kvs:List (Str×D)) (us:List V) (ds:List D) (d:D),vs=.ref p::us/\H p=Ga (.ins C dx [("runs",.ref r)])/\H r=Ga (.dK ws)/\fv K F kvs ws/\dA F H/\dM K F ds us/\fm (.dsk C p r kvs) ds=Ga d/\∀ v H' F',dA H H'->dA F F'->dA F' H'->eN F F' H->eU K F' d v->Q v H'
def startD (n:Nat)(s:Sl)(ds:List D):En:=s::(ds.map .val++uQ (n-(ds.length+1)) .no)
def RS.startD {K:ja}{F H:Hp}{N:List Str}{us:List V}{ds:List D}{C p dx r:Gj}{ws:List (fJ×V)}{kvs:List (Str×D)}(hN:us.length+1<=N.length)(g:dA F H)(rr:dM K F ds us)(h1:H p=Ga (.ins C dx [("runs",.ref r)]))(h2:H r=Ga (.dK ws))(rk:fv K F kvs ws) :
  RS K H F H (T3.startD N.length (.dsk C p r kvs) ds) (L2.start N (.ref p::us)):=by
 have hl:=rr.length;have no:∀ (i:Nat) (s:Sl),ic s=true->(T3.startD N.length (.dsk C p r kvs) ds)[i]?=Ga s->False:=λi s o e=>by
  unfold T3.startD at e;cases i with
  | zero=>cases e;cases o
  | succ i =>
   rw[uo] at e;by_cases hi:i<ds.length
   .rw[kn (by simpa using hi),jE,jn hi] at e;cases e;cases o
   .rw[ki (by simpa using hi),kC] at e;split at e<;>cases e;cases o
 refine⟨.refl _,g,λi s e=>?_,λi j a s t o1 o2 e1=>(no i s o1 e1).elim⟩;unfold T3.startD at e;unfold L2.start;cases i with
 | zero=>cases e;exact⟨_,rfl,rfl,dx,ws,h1,h2,rk⟩
 | succ i =>
  rw[uo] at e;rw[kh,kM,uo];by_cases hi:i<ds.length
  .rw[kn (by simpa using hi),jE,jn hi] at e;cases e;have⟨v,e1,e2⟩:=rr.get (jn hi);exact⟨Ga v,by rw[kn (by rw[jk];omega),jE,e1];rfl,v,rfl,e2⟩
  .rw[ki (by simpa using hi),kC] at e;split at e;rotate_left
   .cases e
   rename_i hlt;cases e;rw[jk] at hlt;refine⟨Gb,?_,trivial⟩;rw[ki (by rw[jk];omega),jk,kC,Ge];simp only[jr];omega
def zS:gY->Option D
 | .rt d=>Ga d
 | _=>Gb
def wk (np n:Nat)(g:FS):Sl->List D->Option D:=λs ds=>if ds.length+1=np then(g (startD n s ds)).bind zS else Gb
def Gw{s:Sl}(h:wk n m g s ds=Ga d):ds.length+1=n/\g (startD m s ds)=Ga (.rt d):=by
 have⟨c,h⟩:=pj h;have⟨o,e1,e2⟩:=dz h;cases o<;>first|(cases e2;done)|skip
 cases e2;exact⟨c,e1⟩
variable {f:Gj}{m:Str}
def Xd (F:le K x qual st f fd)(S:dD N ps (defScope st))(hpn:ps.length<=N.length)
  (hb:He dS P w K mg base N qual st f k λX _=>fT X.nox (defBody st) g) :
  dJ P w K mg base dS (k+1) f fd ps (pf K C (wk ps.length N.length g)):=by
 refine F.ok S (λvs H Q E h=>?_) (λcdv A outer s H vs Q E hr h=>?_)
 .obtain⟨F0,p,dx,r,ws,kvs,us,ds,d,rfl,_,_,_,_,rr,e,_⟩:=h;have⟨c,_⟩:=Gw e;rwa[jr,<- rr.length]
 .obtain⟨F0,p,dx,r,ws,kvs,us,ds,d,rfl,h1,h2,rk,g0,rr,e,q⟩:=h;have⟨c,e1⟩:=Gw e;refine⟨_,hb hr,H,F0,_,.rt d,RS.startD (by rwa[<- rr.length,c]) g0 rr h1 h2 rk,e1,λv H' F' g f fh n rv=>q v H' F' g f fh n rv⟩
open Classical in
noncomputable def eW (i:Nat)(C:Gj)(fm:Sl->List D->Option D)(ga:FL):FV:=λψ=>match ψ[i]? with
 | some (.dsk C' p r kvs)=>if C'=C then(ga ψ).bind (fm (.dsk C' p r kvs)) else Gb
 | _=>Gb
def CL(hl:([("runs",V.ref 0)]:List (Str×V)).lookup m=Gb)(v:V):([("runs",v)]:List (Str×V)).lookup m=Gb:=by
 revert hl;unfold uK;cases m=="runs"
 .exact id
 .intro z;cases z
def xa (i:Nat){pl:Sem Bool}{CX:mz}(c:rW X.K C)(hm:zP X.K C m f)(F:Fq X CX k f fd ps sp)(hr:eP k X.A)(hb:fS X.K fd ps [])(hP:gU CX X E)(ha:PL X (e::es) ga)
  (hN:X.N[i]?=Ga x:=by rfl) (hv:lK X.env.scope x:=by ac_rfl) (hd:Nd x:=by decide)
  (hcd:(x==("__classdict__":Str))=false:=by decide)
  (hst:Sa X e es:=by rfl) (hpl:Sc X pos es:=by rfl)
  (ht:eval (.Call (.Attribute (.Name x p) m apos) (e::es) [] pos) X.env=(do
   let ov <- eval (.Name x p) X.env
   standAt apos.atName
   let (f,first) <- holding [ov] (getMethod ov m pl)
   callWith pos f first (backTo pos (starEach (e::es) X.env)) (backToKw pos (keywordEach [] X.env))):=by rfl) :
  PE X (.Call (.Attribute (.Name x p) m apos) (e::es) [] pos) (tu C m sp [] E (xN i) (tL X.K ga)) :=
 HP (pl:=pl) (gz hN hv hd hcd) c hm F hr hb .nil hP ha.pa hst hpl ht
def Kq{fm:Sl->List D->Option D}(hl:([("runs",V.ref 0)]:List (Str×V)).lookup m=Gb)(h:PE X e0 (tu C m (pf X.K C fm) [] E (xN i) (tL X.K ga))):PV X e0 (eW i C fm ga):=by
 refine fG h λσ H Q=>?_;rintro⟨H0,F,ψ,d,r,e,q⟩;unfold eW at e;split at e;rotate_left
 .cases e
 rename_i C' p' r' kvs z;split at e;rotate_left
 .cases e
 rename_i ec;subst ec;have⟨ds,e1,e2⟩:=dz e;have⟨s1,dx,ws,h1,h2,rr⟩:=r.dsk z;refine⟨.ref p',s1,p',dx,_,rfl,h1,CL hl _,H0,F,ψ,ds,r,e1,λvs H1 F1 g1 f1 fh1 n1 rv=>?_⟩;refine⟨F1,p',dx,r',ws,kvs,vs,ds,d,by rw[jJ],g1 _ _ h1,g1 _ _ h2,rr.mono f1,fh1,rv,e2,λv H2 F2 g2 f2 fh2 n2 rv2=>?_⟩;exact q v H2 F2 (g1.trans g2) (f1.trans f2) fh2 (n1.trans n2 g1) rv2
def lW (R:List Gj)(H0 H1:Hp):Prop:=(∀ b,b∉R->H1 b=H0 b)/\∀ r∈R,∃ ws,H1 r=Ga (.dK ws)
abbrev AllK (R:List Gj)(H:Hp):Prop:=∀ r∈R,∃ ws,H r=Ga (.dK ws)
def lW.refl(h:AllK R H):lW R H H:=⟨λ_ _=>rfl,h⟩
def lW.trans {R:List Gj}{H0 H1 H2:Hp}(a:lW R H0 H1)(b:lW R H1 H2):lW R H0 H2:=⟨λc h=>(b.1 c h).trans (a.1 c h),b.2⟩
def lW.non(a:lW R H0 H1){b:Gj}(h:H1 b=Gb):H0 b=Gb:=by
 by_cases hb:b∈R
 .obtain⟨ws,z⟩:=a.2 b hb;rw[z] at h;cases h
 .rwa[<- a.1 b hb]
def eN.chg(n:eN F F' H1)(c:lW R H0 H1):eN F F' H0:=λb o e f=>c.non (n b o e f)
structure US (K:ja)(R:List Gj)(H0 F H:Hp)(ψ:En)(σ:St):Prop where
 rs:RS K H0 F H ψ σ
 fr:∀ r∈R,F r=Gb
 hr:AllK R H0
def US.to(u:US K R H0 F H ψ σ)(n:eN F F' H0)(r':RS K H0 F' H' env' σ'):US K R H0 F' H' env' σ':=by
 refine⟨r',λr hr=>?_,u.hr⟩;cases z:F' r with
 | none=>rfl
 | some o =>
  have⟨ws,h⟩:=u.hr r hr;rw[n r o z (u.fr r hr)] at h;cases h
def sT (K:ja)(R:List Gj)(H0 F:Hp)(E:sR):gY->Prop
 | .nx ψ=>∀ σ' H' F' H1,lW R H0 H1->dA F F'->eN F F' H0->US K R H1 F' H' ψ σ'->E.nx σ' H'
 | .rc d ψ=>∀ v σ' H' F' H1,lW R H0 H1->dA F F'->eN F F' H0->US K R H1 F' H' ψ σ'->eU K F' d v->E.rt v H'
 | .rt d=>∀ v H' F' H1,lW R H0 H1->dA H1 H'->dA F F'->dA F' H'->eN F F' H0->eU K F' d v->E.rt v H'
 | .ct ψ=>∀ σ' H' F' H1,lW R H0 H1->dA F F'->eN F F' H0->US K R H1 F' H' ψ σ'->E.ct σ' H'
 | .bk ψ=>∀ σ' H' F' H1,lW R H0 H1->dA F F'->eN F F' H0->US K R H1 F' H' ψ σ'->E.bk σ' H'
 | _=>False
def sT.mono{E:sR}{o:gY}(c:lW R H0 H1)(f:dA F F1)(n:eN F F1 H0)(p:sT K R H0 F E o):sT K R H1 F1 E o:=by
 cases o with
 | nx ψ=>exact λσ' H' F' H2 c2 f2 n2 u=>p σ' H' F' H2 (c.trans c2) (f.trans f2) (n.up (n2.chg c)) u
 | rc d ψ=>exact λv σ' H' F' H2 c2 f2 n2 u rv=>p v σ' H' F' H2 (c.trans c2) (f.trans f2) (n.up (n2.chg c)) u rv
 | rt d=>exact λv H' F' H2 c2 g f2 fh n2 rv=>p v H' F' H2 (c.trans c2) g (f.trans f2) fh (n.up (n2.chg c)) rv
 | ct ψ=>exact λσ' H' F' H2 c2 f2 n2 u=>p σ' H' F' H2 (c.trans c2) (f.trans f2) (n.up (n2.chg c)) u
 | bk e=>exact λσ' H' F' H2 c2 f2 n2 u=>p σ' H' F' H2 (c.trans c2) (f.trans f2) (n.up (n2.chg c)) u
 | ro e=>exact p.elim
def tU (K:ja)(R:List Gj)(g:FS):TS:=λE σ H=>∃ H0 F ψ o,US K R H0 F H ψ σ/\g ψ=Ga o/\sT K R H0 F E o
abbrev PU (X:Cx)(R:List Gj)(st:Stmt)(g:FS):Prop:=PS X st (tU X.K R g)
abbrev om (X:Cx)(R:List Gj)(st:List Stmt)(g:FS):Prop:=lc X st (tU X.K R g)
def US.post{E:sR}{o:gY}(u:US K R H0 F H ψ σ)(p:sT K R H0 F E o):Ak K H0 F E o:=by
 cases o with
 | nx ψ=>exact λσ' H' F' f n r'=>p σ' H' F' H0 (.refl u.hr) f n (u.to n r')
 | rc d ψ=>exact λv σ' H' F' f n r' rv=>p v σ' H' F' H0 (.refl u.hr) f n (u.to n r') rv
 | rt d=>exact λv H' F' g f fh n rv=>p v H' F' H0 (.refl u.hr) g f fh n rv
 | ct ψ=>exact λσ' H' F' f n r'=>p σ' H' F' H0 (.refl u.hr) f n (u.to n r')
 | bk e=>exact λσ' H' F' f n r'=>p σ' H' F' H0 (.refl u.hr) f n (u.to n r')
 | ro e=>exact p.elim
def oY(h:im X st g):PU X R st g:=by
 refine iR h λE σ H=>?_;rintro⟨H0,F,ψ,o,u,e,p⟩;exact⟨H0,F,ψ,o,u.rs,e,u.post p⟩
def Hb:om X R [] (λψ=>Ga (.nx ψ)):=by
 refine yp fy λE σ H=>?_;rintro⟨H0,F,ψ,o,u,e,p⟩;exact⟨H0,F,ψ,o,u.rs,e,u.post p⟩
def ym(h:PU X R st g):om X R [st] g:=xC h
def tQ{k:FS}(h1:PU X R st g)(h2:om X R rest k):om X R (st::rest) (λψ=>mT (g ψ) k):=by
 refine yp (oq h1 h2) λE σ H=>?_;rintro⟨H0,F,ψ,o,u,e,p⟩;have⟨o1,e1,e2⟩:=dz e;refine⟨H0,F,ψ,o1,u,e1,?_⟩;cases o1 with
 | nx env1=>exact λσ' H' F' H1 c f n u'=>⟨H1,F',env1,o,u',e2,p.mono c f n⟩
 | rt d=>cases e2;exact p
 | ro d=>cases e2;exact p
 | rc a d=>cases e2;exact p
 | bk d=>cases e2;exact p
 | ct d=>cases e2;exact p
def EQ{a b:List Stmt}{fc:FB}{k:FS}(hc:PB X c fc)(ha:om X R a g)(hb:om X R b k):PU X R (.If c a b pos) (λψ=>(fc (frz ψ)).bind λt=>if t then g ψ else k ψ):=by
 refine iR (xf hc ha hb) λE σ H=>?_;rintro⟨H0,F,ψ,o,u,e,p⟩;have⟨t,e1,e⟩:=dz e;refine⟨H0,H,frz ψ,t,u.rs.frz,e1,λH' g'=>?_⟩;have u':US X.K R H0 F H' ψ σ:=u.to (.refl _ _) (u.rs.later g');cases t with
 | true=>exact mP ⟨H0,F,ψ,o,u',e,p⟩
 | false=>exact mZ ⟨H0,F,ψ,o,u',e,p⟩
def ZU{f:FV}(h:PV X e f):PU X R (.Return (Ga e) pos) (LB f):=oY (zES h)
def zBr {st:List Stmt}(hn:∀ ψ,g ψ=Gb):om X R st g:=λω s σ H D I h=>by
 obtain⟨H0,F,ψ,o,u,e,p⟩:=h;rw[hn] at e;cases e
def oZ (i:Nat)(r:Gj)(ψ:En):Prop:=∀ j C p r' l,ψ[j]?=Ga (.dsk C p r' l)->j=i\/r'≠r
def US.putNo{p:Gj}(hR:r∈R)(u:US K R H0 F H ψ σ)(e:ψ[i]?=Ga (.dsk C p r kvs))(uq:oZ i r ψ) :
  US K R (upd H0 r (.dK ws')) F (upd H r (.dK ws')) (ψ.set i .no) σ:=by
 have⟨ws,h0⟩:=u.hr r hR;have hl:i<ψ.length:=(je.mp e).1;have hH:H r=Ga (.dK ws):=u.rs.h0 _ _ h0;have nf:∀ x v,H r≠Ga (.frz x v):=λx v z=>by rw[hH] at z;cases z
 have nf0:∀ x v,H0 r≠Ga (.frz x v):=λx v z=>by rw[h0] at z;cases z
 have s0:dA (upd H0 r (.dK ws')) (upd H r (.dK ws')):=by
  have:upd H0 r (.dK ws)=H0:=by
   funext b
   by_cases c:b=r
   .subst c;rw[dH,h0]
   .rw[dG c]
  exact dA.swp (o:=.dK ws) (by rw[this];exact u.rs.h0) trivial trivial
 have⟨v0,e1,e2,dx,ws1,h1,h2,rr⟩:=u.rs.sl i _ e;refine⟨⟨s0,u.rs.fh.put (u.fr r hR) nf,λj s ej=>?_,λj k b s t o1 o2 x1 x2 x3 x4=>?_⟩,u.fr,λq hq=>?_⟩
 .by_cases h:i=j
  .subst h;rw[jx hl] at ej;cases ej;exact⟨_,e1,trivial⟩
  .rw[jq h] at ej;have⟨w,z1,q2⟩:=u.rs.sl j s ej;refine⟨w,z1,?_⟩;have nr:∀ b:Gj,H0 b=Gb->b≠r:=λb z y=>by subst y;rw[h0] at z;cases z
   cases s with
   | no=>trivial
   | val d=>exact q2
   | own ds=>obtain⟨b,xs,e2,hb,fb,h0b,rr⟩:=q2;have n:=nr b h0b;exact⟨b,xs,e2,by rwa[dG n],fb,by rwa[dG n],rr⟩
   | dic ks=>obtain⟨b,as,ep,e2,hb,fb,h0b,rr⟩:=q2;have n:=nr b h0b;exact⟨b,as,ep,e2,by rwa[dG n],fb,by rwa[dG n],rr⟩
   | dks kvs=>obtain⟨b,ws,e2,hb,fb,h0b,rr⟩:=q2;have n:=nr b h0b;exact⟨b,ws,e2,by rwa[dG n],fb,by rwa[dG n],rr⟩
   | dsk C' p' r' l =>
    rcases uq j _ _ _ _ ej with z|z
    .exact absurd z (kW h)
    .obtain⟨e2,dx,ws2,h3,h4,rr⟩:=q2;have n3:p'≠r:=λz=>by subst z;rw[h0] at h3;cases h3
     exact⟨e2,dx,ws2,by rwa[dG n3],by rwa[dG z],rr⟩
   | tab P =>
    obtain⟨ps,q,g⟩:=q2;have n:P≠r:=λz=>by subst z;rw[h0] at q;cases q
    exact⟨ps,by rwa[dG n],g.updG nf0⟩
   | fn c=>obtain⟨g,e,q⟩:=q2;exact⟨g,e,c.mono _ _ _ _ _ (.refl _) (Fz.upd nf) q⟩
 .have f1:∀ (j:Nat) (s:Sl),ic s=true->(ψ.set i .no)[j]?=Ga s->ψ[j]?=Ga s:=λj s o h=>by
   by_cases hj:i=j
   .subst hj;rw[jx hl] at h;cases h;cases o
   .rw[jq hj] at h;exact h
  exact u.rs.ap j k b _ _ o1 o2 (f1 j _ o1 x1) (f1 k _ o2 x2) x3 x4
 .by_cases hq2:q=r
  .subst hq2;exact⟨_,dH⟩
  .rw[dG hq2];exact u.hr q hq
def RS.fill{s:Sl}(r':RS K H0 F H (ψ.set i .no) σ)(hl:i<ψ.length)(o:ic s=false)(q:∀ u,σ[i]?=Ga u->lL K H0 F H s u):RS K H0 F H (ψ.set i s) σ:=by
 have e0:(ψ.set i .no)[i]?=Ga .no:=jx hl;have f1:∀ (j:Nat) (t:Sl),ic t=true->(ψ.set i s)[j]?=Ga t->(ψ.set i .no)[j]?=Ga t:=λj t ot h=>by
  by_cases hj:i=j
  .subst hj;rw[jx hl] at h;cases h;rw[o] at ot;cases ot
  .rw[jq hj] at h ⊢;exact h
 refine⟨r'.h0,r'.fh,λj t ej=>?_,λj k b s t o1 o2 x1 x2 x3 x4=>r'.ap j k b _ _ o1 o2 (f1 j _ o1 x1) (f1 k _ o2 x2) x3 x4⟩;by_cases hj:i=j
 .subst hj;rw[jx hl] at ej;cases ej;have⟨u,e1,_⟩:=r'.sl i _ e0;exact⟨u,e1,q u e1⟩
 .rw[jq hj] at ej;exact r'.sl j t (by rwa[jq hj])
def US.put{p:Gj}(hR:r∈R)(u:US K R H0 F H ψ σ)(e:ψ[i]?=Ga (.dsk C p r kvs))(uq:oZ i r ψ)(g:dA (upd H r (.dK ws')) H')(f:dA F F')(fh:dA F' H')(n:eN F F' H)(q:fv K F' kvs' ws') :
  US K R (upd H0 r (.dK ws')) F' H' (ψ.set i (.dsk C p r kvs')) σ:=by
 have u1:=u.putNo hR (ws':=ws') e uq;have⟨ws,h0⟩:=u.hr r hR;have⟨v0,e1,e2,dx,ws1,h1,h2,rr⟩:=u.rs.sl i _ e;have npr:p≠r:=λz=>by rw[z,h0] at h1;cases h1
 have hH:H r=Ga (.dK ws):=u.rs.h0 _ _ h0;have n':eN F F' (upd H r (.dK ws')):=λb o x y=>by
  have z:=n b o x y;have nb:b≠r:=λw=>by subst w;rw[hH] at z;cases z
  rwa[dG nb]
 have r2:=u1.rs.grow g f fh n';have u2:=u1.to (n'.dn u1.rs.h0) r2;refine⟨r2.fill (je.mp e).1 rfl λw z=>?_,u2.fr,u2.hr⟩;rw[e1] at z;cases z;exact⟨e2,dx,ws',by rwa[dG npr],dH,q⟩
open Classical in
noncomputable def zB (R:List Gj)(i:Nat)(C:Gj)(f g:FV):FS:=λψ=>(g ψ).bind λv=>(f ψ).bind λk=>match ψ[i]?,k with
 | some (.dsk C' p r' kvs),.str n=>if C'=C/\r'∈R/\kvs.length<1000/\oZ i r' ψ then Ga (.nx (ψ.set i (.dsk C' p r' (iW kvs n v)))) else Gb
 | _,_=>Gb
def zG4 (i:Nat){f g:FV}{p3:Pos}(hu:X.A.units+100<cLine)(T:DkC X.K C)(hk:PV X ke f)(hval:PV X value g)(hN:X.N[i]?=Ga x:=by rfl)(hv:lK X.env.scope x:=by ac_rfl)
  (hd:Nd x:=by decide) (hcd:(x==("__classdict__":Str))=false:=by decide) (hba:attributeBase (.Name x p) "runs" X.env (eval (.Name x p) X.env)=eval (.Name x p) X.env:=by rfl)
  (hs:swapsWith value (Ga (.Subscript (.Attribute (.Name x p) "runs" p2) ke p3)) pos.line X.env=pure false:=by rfl) :
  PU X R (.Assign [.Subscript (.Attribute (.Name x p) "runs" p2) ke p3] value pos) (zB R i C f g):=by
 refine iR (Au (by omega) (zu (gz (pos:=p) hN hv hd hcd) hba) hk hval hs) λE σ H=>?_;rintro⟨H0,F,ψ,o,u,e,pp⟩;have⟨v,e0,e⟩:=dz e;have⟨k,e1,e2⟩:=dz e;clear e;split at e2;rotate_left
 .cases e2
 rename_i C' p' r' kvs n z;split at e2;rotate_left
 .cases e2
 rename_i c;cases e2;obtain⟨c1,c2,c3,c4⟩:=c;subst c1;refine⟨H0,F,ψ,v,u.rs,e0,λvv H1 F1 g1 f1 fh1 n1 rv=>?_⟩;have u1:=u.to (n1.dn u.rs.h0) (u.rs.grow g1 f1 fh1 n1);have⟨s1,dx,ws,h1,h2,rr⟩:=u1.rs.dsk z;refine⟨.ref p',s1,p',C',dx,_,.ref r',rfl,h1,T.cl,T.na,rfl,H0,F1,ψ,.str n,u1.rs,e1,λv2 H2 F2 g2 f2 fh2 n2 rv2=>?_⟩;cases rv2;have u2:=u1.to (n2.dn u1.rs.h0) (u1.rs.grow g2 f2 fh2 n2);have⟨s2,dx2,ws2,h3,h4,lv⟩:=u2.rs.dsk z;refine⟨r',_,rfl,xE.k9 (k:=Sum.inr n) h4 (by rw[lv.length];exact jf c3 (by rw[sizeLine_eq];decide)),?_⟩;have u3:=u2.put c2 z c4 (.refl _) (.refl _) (u2.rs.fh.put (u2.fr _ c2) λx v w=>by rw[h4] at w;cases w) (.refl _ _) (lv.put (k:=n) (rv.mono f2));exact pp σ _ F2 _ ⟨λb hb=>dG (λz=>hb (z▸c2)),u3.hr⟩ (f1.trans f2) ((n1.dn u.rs.h0).up (n2.dn u1.rs.h0)) u3
abbrev Eh:=En->Option (D×En)
abbrev xR:=En->Option (Bool×En)
def tDU (K:ja)(R:List Gj)(f:Eh):TE:=λσ H Q=>∃ H0 F ψ d env',US K R H0 F H ψ σ/\f ψ=Ga (d,env')/\∀ v H' F' H1,lW R H0 H1->dA F F'->eN F F' H0->US K R H1 F' H' env' σ->eU K F' d v->Q v H'
abbrev PK (X:Cx)(R:List Gj)(e:Expr)(f:Eh):Prop:=PE X e (tDU X.K R f)
def tTU (K:ja)(R:List Gj)(f:xR):TT:=λσ H Q=>∃ H0 F ψ b env',US K R H0 F H ψ σ/\f ψ=Ga (b,env')/\∀ H' F' H1,lW R H0 H1->dA F F'->eN F F' H0->US K R H1 F' H' env' σ->Q b H'
abbrev DB (X:Cx)(R:List Gj)(e:Expr)(f:xR):Prop:=PT X e (tTU X.K R f)
def rJ (f:Eh)(g:FV):xR:=λψ=>(f ψ).bind λp=>(g p.2).bind λy=>(gf p.1 y).bind λd=>(gI d).bind λb=>Ga (b,p.2)
def Ry{f:Eh}{g:FV}(hu:X.A.units+100<cLine)(ha:PK X R a f)(hb:PV X b g)(hm:behindInMarks .NotEq b=false:=by first|exact zD _|rfl|with_unfolding_all rfl):DB X R (.Compare a [.NotEq] [b] pos) (rJ f g):=by
 refine tJ (AY (Mu hu) ha hb hm) λσ H Q=>?_;rintro⟨H0,F,ψ,b,env',u,e,q⟩;have⟨⟨x,env1⟩,e1,e⟩:=dz e;have⟨y,e2,e⟩:=dz e;have⟨d,e3,e⟩:=dz e;have⟨t,e4,e⟩:=dz e;cases e;cases zr e4;refine⟨H0,F,ψ,x,env1,u,e1,λv H1 F1 K1 c1 f1 n1 u1 rv=>?_⟩;refine⟨K1,F1,env1,y,u1.rs,e2,λv2 H2 F2 g2 f2 fh2 n2 rv2=>?_⟩;refine⟨F2,x,y,_,fh2,rv.mono f2,rv2,e3,λk ek=>?_⟩;cases ek;exact⟨_,rfl,q H2 F2 K1 c1 (f1.trans f2) (n1.up ((n2.dn u1.rs.h0).chg c1)) (u1.to (n2.dn u1.rs.h0) (u1.rs.grow g2 f2 fh2 n2))⟩
def zm (f:xR)(g k:FS):FS:=λψ=>(f ψ).bind λp=>if p.1=true then g p.2 else k p.2
def zG5{a b:List Stmt}{f:xR}{k:FS}(hc:DB X R c f)(ha:om X R a g)(hb:om X R b k):PU X R (.If c a b pos) (zm f g k):=by
 refine iR (xf hc ha hb) λE σ H=>?_;rintro⟨H0,F,ψ,o,u,e,p⟩;have⟨⟨t,env1⟩,e1,e⟩:=dz e;refine⟨H0,F,ψ,t,env1,u,e1,λH' F' H1 c1 f1 n1 u1=>?_⟩;cases t with
 | true=>exact mP ⟨H1,F',env1,o,u1,e,p.mono c1 f1 n1⟩
 | false=>exact mZ ⟨H1,F',env1,o,u1,e,p.mono c1 f1 n1⟩
def Lu{f:FL}(hp:PassesOwn (model X.prog X.w) X.A X.env X.xe)(hc:X.calm=true)(hi:rY X tg iter f)(hg:sQ X tg t)(hb:om X R body g)
  (hs:∀ x,foldedSetIterable iter X.env x=pure x:=by intro _;rfl):PU X R (.For tg iter body [] pos) (λψ=>(f ψ).bind λds=>gB t g ds ψ):=by
 refine iR (zo hp hc hi hg hb hs) λE σ H=>?_;rintro⟨H0,F,ψ,o,u,e,p⟩;have⟨ds,e1,e⟩:=dz e;refine⟨H0,F,ψ,ds,u.rs,e1,λJ H1 F1 g1 f1 fh1 n1 Y=>?_⟩;have p1:=p.mono (.refl u.hr) f1 (n1.dn u.rs.h0);have u1:=u.to (n1.dn u.rs.h0) (u.rs.grow g1 f1 fh1 n1);refine⟨λi m σ H=>i+m=ds.length/\∃ H2 F2 ψ,US X.K R H2 F2 H ψ σ/\lW R H0 H2/\dA F1 F2/\eN F1 F2 H0/\gB t g (ds.drop i) ψ=Ga o,⟨ds.length,by omega,H0,F1,ψ,u1,.refl u.hr,.refl _,.refl _ _,e⟩,?_⟩;rintro i m σ' H' ⟨hm,H2,F2,env2,u2,c2,f2,n2,e2⟩;have p2:=p1.mono c2 f2 n2;have⟨yd,yg⟩:=Y F2 f2 H' u2.rs.fh i;by_cases hlt:i<ds.length
 .obtain⟨go,yy⟩:=yg ds[i] (by simp[hlt]);rw[uj hlt] at e2;unfold gB at e2;have⟨e3,x1,x2⟩:=dz e2;have⟨o1,x3,x4⟩:=dz x2;refine .inr ⟨go,λσ3 H3=>i+1+(m-1)=ds.length/\∃ H5 F3 ψ,US X.K R H5 F3 H3 ψ σ3/\lW R H0 H5/\dA F1 F3/\eN F1 F3 H0/\gB t g (ds.drop (i+1)) ψ=Ga o,λσ3 H3 h3=>⟨m-1,by omega,h3⟩,λx Hx yl=>?_⟩;have⟨gx,F4,f4,fh4,n4,rx⟩:=yy x Hx yl;have n40:=n4.dn u2.rs.h0;have u4:=u2.to n40 (u2.rs.grow gx f4 fh4 n4);refine⟨H2,F4,env2,ds[i],e3,u4.rs,rx,x1,λσ5 r5=>⟨H2,F4,e3,o1,u4.to (.refl _ _) r5,x3,?_⟩⟩;have p4:=p2.mono (.refl u2.hr) f4 n40;have nn:=n2.up (n40.chg c2);cases o1 with
  | nx e5=>exact λσ6 H6 F6 H7 c6 f6 n6 u6=>⟨by omega,H7,F6,e5,u6,c2.trans c6,f2.trans (f4.trans f6),nn.up (n6.chg c2),x4⟩
  | ct e5=>exact λσ6 H6 F6 H7 c6 f6 n6 u6=>⟨by omega,H7,F6,e5,u6,c2.trans c6,f2.trans (f4.trans f6),nn.up (n6.chg c2),x4⟩
  | bk e5=>cases x4;exact p4
  | rt d=>cases x4;exact p4
  | ro d=>cases x4;exact p4
  | rc a d=>cases x4;exact p4
 .rw[uy (by omega)] at e2;cases e2;exact .inl ⟨yd (by omega),p2 σ' H' F2 H2 (.refl u2.hr) (.refl _) (.refl _ _) u2⟩
def CO (K:ja)(C:Gj)(fm:Sl->List D->Option (D×List (Str×D))):Sp:=λvs H Q _=>∃ (F:Hp) (p dx r:Gj) (ws:List (fJ×V)) (kvs kvs':List (Str×D)) (us:List V) (ds:List D) (d:D),vs=.ref p::us/\H p=Ga (.ins C dx [("runs",.ref r)])/\H r=Ga (.dK ws)/\F r=Gb/\fv K F kvs ws/\dA F H/\dM K F ds us/\fm (.dsk C p r kvs) ds=Ga (d,kvs') /\
 ∀ v H' F' ws',dA (upd H r (.dK ws')) H'->fv K F' kvs' ws'->dA F F'->dA F' H'->eN F F' H->eU K F' d v->Q v H'
open Classical in
noncomputable def BO (C p r:Gj)(o:gY):Option (D×List (Str×D)):=match o with
 | .rc d ψ=>match (ψ[0]?:Option Sl) with
  | some (.dsk C' p' r' kvs')=>if C'=C/\p'=p/\r'=r then Ga (d,kvs') else Gb
  | _=>Gb
 | _=>Gb
open Classical in
noncomputable def BV (np n:Nat)(g:Gj->FS):Sl->List D->Option (D×List (Str×D)):=λs ds=>match s with
 | .dsk C p r kvs=>if ds.length+1=np then(g r (startD n (.dsk C p r kvs) ds)).bind (BO C p r) else Gb
 | _=>Gb
variable {g:Gj->FS}
def okQ (F:le K x qual st f fd)(S:dD N ps (defScope st))(hpn:ps.length<=N.length)
  (hb:∀ (r:Gj) {cdv:Gg} {A:Around} {outer:List Env} {s:Gh} {H:Hp} {E:XK},eP k (A.deeper (envOfC qual (defScope st) s.heap.objs.size f cdv))->om (fN dS P w K mg base N qual (defScope st) f cdv A outer s H E).nox [r] (defBody st) (g r)) :
  dJ P w K mg base dS (k+1) f fd ps (CO K C (BV ps.length N.length g)):=by
 have hrd:∀ {C p r:Gj} {kvs kvs':List (Str×D)} {ds:List D} {d:D},BV ps.length N.length g (.dsk C p r kvs) ds=Ga (d,kvs')->ds.length+1=ps.length/\∃ ψ,g r (startD N.length (.dsk C p r kvs) ds)=Ga (.rc d ψ)/\ψ[0]?=Ga (.dsk C p r kvs'):=λ{C p r kvs kvs' ds d} h=>by
  unfold BV at h;dsimp only at h;split at h;rotate_left
  .cases h
  rename_i c;have⟨o,e1,e2⟩:=dz h;unfold BO at e2;split at e2;rotate_left
  .cases e2
  rename_i d' ψ;split at e2;rotate_left
  .cases e2
  rename_i C' p' r' l z;split at e2;rotate_left
  .cases e2
  rename_i cc;obtain⟨c1,c2,c3⟩:=cc;subst c1 c2 c3;cases e2;exact⟨c,ψ,e1,z⟩
 refine F.ok S (λvs H Q E h=>?_) (λcdv A outer s H vs Q E hr h=>?_)
 .obtain⟨F0,p,dx,r,ws,kvs,kvs',us,ds,d,rfl,_,_,_,_,_,rr,e,_⟩:=h;have⟨c,_⟩:=hrd e;rwa[jr,<- rr.length]
 .obtain⟨F0,p,dx,r,ws,kvs,kvs',us,ds,d,rfl,h1,h2,fr,rk,g0,rr,e,q⟩:=h;have⟨c,ψ,e1,e3⟩:=hrd e;refine⟨_,hb r hr,H,F0,_,_,⟨RS.startD (by rwa[<- rr.length,c]) g0 rr h1 h2 rk,λq hq=>by cases jD.mp hq;exact fr,λq hq=>by cases jD.mp hq;exact⟨ws,h2⟩⟩,e1,λv σ' H' F' H1 c1 f1 n1 u1 rv=>?_⟩;have⟨v0,y1,y2,dx',ws',h3,h4,rk'⟩:=u1.rs.sl 0 _ e3;have eH:upd H r (.dK ws')=H1:=by
   funext b
   by_cases hb:b=r
   .subst hb;rw[dH,h4]
   .rw[dG hb,c1.1 b (λz=>hb (jD.mp z))]
  exact q v H' F' ws' (by rw[eH];exact u1.rs.h0) rk' f1 u1.rs.fh n1 rv
open Classical in
noncomputable def iE (R:List Gj)(i:Nat)(C:Gj)(fm:Sl->List D->Option (D×List (Str×D)))(ga:FL):Eh:=λψ=>match ψ[i]? with
 | some (.dsk C' p r' kvs)=>if C'=C/\r'∈R/\oZ i r' ψ then(ga ψ).bind λds=>(fm (.dsk C' p r' kvs) ds).bind λq=>Ga (q.1,ψ.set i (.dsk C' p r' q.2)) else Gb
 | _=>Gb
def zzW(h:iE R i C fm ga ψ=Ga (d,env')):∃ p r kvs kvs' ds,ψ[i]?=Ga (.dsk C p r kvs)/\r∈R/\oZ i r ψ/\ga ψ=Ga ds/\fm (.dsk C p r kvs) ds=Ga (d,kvs')/\env'=ψ.set i (.dsk C p r kvs'):=by
 unfold iE at h;split at h;rotate_left
 .cases h
 rename_i C' p r' kvs z;split at h;rotate_left
 .cases h
 rename_i c;obtain⟨c1,c2,c3⟩:=c;subst c1;have⟨ds,e1,h⟩:=dz h;have⟨⟨d',l⟩,e2,h⟩:=dz h;cases h;exact⟨p,r',kvs,l,ds,z,c2,c3,e1,e2,rfl⟩
def zDG{p:Gj}{Q:VK}(u:US X.K R H0 F H ψ σ)(z:ψ[i]?=Ga (.dsk C p r kvs))(hR:r∈R)(c:oZ i r ψ)
  (g1:dA H H1) (f1:dA F F1) (fh1:dA F1 H1) (n1:eN F F1 H) (rv:dM X.K F1 ds vs) (e2:fm (.dsk C p r kvs) ds=Ga (d,kvs'))
  (q:∀ v H' F' H1,lW R H0 H1->dA F F'->eN F F' H0->US X.K R H1 F' H' (ψ.set i (.dsk C p r kvs')) σ->eU X.K F' d v->Q v H'):CO X.K C fm (.ref p::vs) H1 Q E:=by
 have u1:=u.to (n1.dn u.rs.h0) (u.rs.grow g1 f1 fh1 n1);have⟨s1,dx,ws,h1,h2,rr⟩:=u1.rs.dsk z;refine⟨F1,p,dx,r,ws,kvs,kvs',vs,ds,d,rfl,h1,h2,u1.fr r hR,rr,fh1,rv,e2,λv H2 F2 ws' g2 rk f2 fh2 n2 rv2=>?_⟩;have u3:=u1.put hR z c g2 f2 fh2 n2 rk;exact q v H2 F2 _ ⟨λb hb=>dG (λz=>hb (z▸hR)),u3.hr⟩ (f1.trans f2) ((n1.dn u.rs.h0).up (n2.dn u1.rs.h0)) u3 rv2
def Ob(hl:([("runs",V.ref 0)]:List (Str×V)).lookup m=Gb)(h:PE X e0 (tu C m (CO X.K C fm) [] E (xN i) (tL X.K ga))):PK X R e0 (iE R i C fm ga):=by
 refine fG h λσ H Q=>?_;rintro⟨H0,F,ψ,d,env',u,e,q⟩;obtain⟨p',r',kvs,kvs',ds,z,cR,cc,e1,e2,rfl⟩:=zzW e;have⟨s1,dx,ws,h1,h2,rr⟩:=u.rs.dsk z;refine⟨.ref p',s1,p',dx,_,rfl,h1,CL hl _,H0,F,ψ,ds,u.rs,e1,λvs H1 F1 g1 f1 fh1 n1 rv=>?_⟩;show CO X.K C fm (.ref p'::(vs++[])) H1 Q _;rw[jJ];exact zDG u z cR cc g1 f1 fh1 n1 rv e2 q
def IV (C:Gj):Sp:=λvs H Q _=>∃ p dx,vs=[.ref p]/\H p=Ga (.ins C dx [])/\∀ r,H r=Gb->Q .non (upd (upd H r (.dK [])) p (.ins C dx [("runs",.ref r)]))
def okI {p1 p3 p4:Pos}(F:le K x qual st f fd)(S:dD ["self"] ["self"] (defScope st))(T:DkC K C)(hbd:defBody st=[.Assign [.Attribute (.Name "self" p1) "runs" p2] (.Dict [] [] p3) p4])
  (hs:∀ X:Cx,swapsWith (.Dict [] [] p3) (Ga (.Attribute (.Name "self" p1) "runs" p2)) p4.line X.env=pure false) (hv:lK (defScope st) "self") :
  dJ P w K mg base dS (k+1) f fd ["self"] (IV C):=by
 refine F.ok S (λvs H Q E h=>by obtain⟨p,dx,rfl,_⟩:=h;rfl) (λcdv A outer s H vs Q E hr h=>?_);obtain⟨p,dx,rfl,h1,q⟩:=h;rw[hbd];refine⟨_,xC (LG (gz (i:=0) rfl hv) Am (hs _)),λr hr=>?_⟩;have n:p≠r:=fP h1 hr;exact⟨.ref p,rfl,p,C,dx,[],rfl,by rwa[dG n],T.cl,T.na,by decide,q r hr⟩
def sy:Sl->Prop
 | .val _=>True
 | .no=>True
 | .dsk _ _ _ _=>True
 | .tab _=>True
 | _=>False
def wL (r:Gj)(ψ:En):Prop:=∀ (j:Nat) C p r' l,ψ[j]?=Ga (.dsk C p r' l)->r'≠r
open Classical in
noncomputable def mL (i:Nat)(C:Gj)(k:Gj->FS):FS:=λψ=>if h:∃ d,(∀ s∈ψ,sy s)/\∀ p r,wL r ψ->k r (ψ.set i (.dsk C p r []))=Ga (.rt d) then Ga (.rt h.choose) else Gb
def Qj (i:Nat)(M:Mk X.K C f)(Fi:Fq X dS k f fd ["self"] (IV C))(hr:eP (k+1) X.A)(hm:X.mg y=Ga (.ref C))(hb:fS X.K fd ["self"] [])(hrest:∀ r,om X (r::R) rest (g r))(hN:X.N.Nodup)(hg:Gl X y:=by rfl)(hi:X.N[i]?=Ga x:=by rfl)(hx:rE X.env.scope x:=by ac_rfl)
  (hs:swapsWith (.Call (.Name y p) [] [] p2) (Ga (.Name x pos')) pos.line X.env=pure false:=by rfl) (hf:Sd X x:=by ac_rfl) (hdb:Nd y:=by decide) :
  om X R (.Assign [.Name x pos'] (.Call (.Name y p) [] [] p2) pos::rest) (mL i C g):=by
 have hq:lc X (.Assign [.Name x pos'] (.Call (.Name y p) [] [] p2) pos::rest) (λE σ H=>∃ H0 F ψ o,US X.K R H0 F H ψ σ/\mL i C g ψ=Ga o/\i<σ.length/\sT X.K R H0 F E o):=by
  intro ω s σ H D I hw;obtain⟨H0,F,ψ,o,us,e,hl,pp⟩:=hw;have rs:=us.rs;unfold mL at e;split at e;rotate_left
  .cases e
  rename_i hc;cases e;have⟨hpl,hk⟩:=hc.choose_spec;generalize hc.choose=d at hk pp;have main:∀ (a dx b:Gj) (H2:Hp),H a=Gb->H dx=Gb->dx≠a->b≠a->b≠dx->H b=Gb->H2=upd (upd (upd (upd H dx (.own a)) a (.ins C dx [])) b (.dK [])) a (.ins C dx [("runs",.ref b)])->tU X.K (b::R) (g b) D (σ.set i (Ga (.ref a))) H2:=by
   intro a dx b H2 ha hdx n1 n2 n3 hb2 eH;have hbH:H2 b=Ga (.dK []):=by rw[eH,dG n2,dH]
   have haH:H2 a=Ga (.ins C dx [("runs",.ref b)]):=by rw[eH,dH]
   have sm:dA H H2:=by
    rw[eH];have m1:dA H (upd H dx (.own a)):=dA.new hdx;have m2:dA (upd H dx (.own a)) (upd (upd H dx (.own a)) a (.ins C dx [])):=dA.new (by rwa[dG (kW n1)]);have m3:dA (upd (upd H dx (.own a)) a (.ins C dx [])) (upd (upd (upd H dx (.own a)) a (.ins C dx [])) b (.dK [])):=dA.new (by rwa[dG n2,dG n3]);exact((m1.trans m2).trans m3).put ha (λo u z=>by rw[dG (kW n2),dH] at z;cases z)
   have hRH:∀ q∈R,∃ ws,H2 q=Ga (.dK ws):=λq hq=>by
    have⟨ws,z⟩:=us.hr q hq;exact⟨ws,sm _ _ (rs.h0 _ _ z)⟩
   have bR:b∉R:=λz=>by
    have⟨ws,y⟩:=us.hr b z;have:=rs.h0 _ _ y;rw[hb2] at this;cases this
   have aw:wL b ψ:=λj C' p' r' l z y=>by
    subst y;have⟨_,dx',ws',_,h4,_⟩:=rs.dsk z;rw[hb2] at h4;cases h4
   refine⟨H2,F,ψ.set i (.dsk C a b []),.rt d,⟨⟨.refl _,rs.fh.trans sm,λj s ej=>?_,λj k c s t o1 o2 x1 x2=>?_⟩,λq hq=>?_,λq hq=>?_⟩,hk a b aw,?_⟩
   .by_cases h:i=j
    .subst h;refine⟨_,jx hl,?_⟩;by_cases hle:i<ψ.length
     .rw[jx hle] at ej;cases ej;exact⟨rfl,dx,[],haH,hbH,.nil⟩
     .rw[kR (by simpa using hle)] at ej;cases ej
    .rw[jq h] at ej ⊢;have⟨u,e1,q⟩:=rs.sl j s ej;refine⟨u,e1,?_⟩;have pls:=hpl s (jW ej);cases s<;>first
      | (exact pls.elim)
      | trivial
      | exact q
      | (obtain⟨ps,h,g⟩:=q
         have⟨qs,h2,g2⟩:=(rs.h0.trans sm) _ _ h;exact⟨qs,h2,g2 g⟩)
      | (obtain⟨z1,dx',ws',z2,z3,z4⟩:=q
         exact⟨z1,dx',ws',sm _ _ (rs.h0 _ _ z2),sm _ _ (rs.h0 _ _ z3),z4⟩)
   .exfalso;by_cases h:i=j
    .subst h;by_cases hle:i<ψ.length
     .rw[jx hle] at x1;cases x1;cases o1
     .rw[kR (by simpa using hle)] at x1;cases x1
    .rw[jq h] at x1;have:=hpl s (jW x1);cases s<;>first|(exact this.elim)|cases o1
   .rcases jz.mp hq with rfl|hq
    .exact rs.fh.free hb2
    .exact us.fr q hq
   .rcases jz.mp hq with rfl|hq
    .exact⟨[],hbH⟩
    .exact hRH q hq
   .intro v H' F' H1 c1 g1 f1 fh1 n rv;have s2:dA H0 H2:=rs.h0.trans sm;have out:∀ c,c∉R->c≠b->H1 c=H2 c:=λc hc hb=>c1.1 c (λz=>(jz.mp z).elim hb hc);have hK:∀ c o,c∉R->H0 c=Ga o->c≠b:=λc o _ hc=>fP hc (rs.h0.free hb2);refine pp v H' F' (λc=>if c∈R then H1 c else H0 c) ⟨λc hc=>Gf hc,λq hq=>?_⟩ (λc o hc=>?_) f1 fh1 (λc o hc hn=>s2.free (n c o hc hn)) rv
    .obtain⟨ws,z⟩:=c1.2 q (jd _ hq);exact⟨ws,(Ge hq).trans z⟩
    have gd:∀ l,fA (λc=>if c∈R then H1 c else H0 c) l->fA H1 l:=λl z=>⟨z.1,λpos cv e=>by
     have⟨c2,x,vs,v,e1,e2,e3⟩:=z.2 pos cv e;refine⟨c2,x,vs,v,e1,?_,e3⟩;by_cases h2:c2∈R
     .exact(Ge h2).symm.trans e2
     .have e2':H0 c2=Ga (.frz x (.own c2)):=(Gf h2).symm.trans e2;rw[out c2 h2 (hK c2 _ h2 e2')];exact s2 _ _ e2'⟩
    by_cases hcR:c∈R
    .have e1:H1 c=Ga o:=(Ge hcR).symm.trans hc;have⟨ws,z⟩:=c1.2 c (jd _ hcR);rw[e1] at z;cases z;exact g1 c _ e1
    .have e0:H0 c=Ga o:=(Gf hcR).symm.trans hc;have gr:Gr (λc=>if c∈R then H1 c else H0 c) o H1 (H1 c):=by
      rw[out c hcR (hK c _ hcR e0)];have q:=s2 c o e0;cases o<;>first
       | exact q
       | (obtain⟨qs,y1,y2⟩:=q
          refine⟨qs,y1,λz=>?_⟩;have z1:=y2 ⟨z.1,λpos cv e=>by
           have⟨c2,x,vs,v,e1,e2,e3⟩:=z.2 pos cv e;refine⟨c2,x,vs,v,e1,?_,e3⟩;by_cases h2:c2∈R
           .have e2':H1 c2=Ga (.frz x (.own c2)):=(Ge h2).symm.trans e2;have⟨ws,y⟩:=c1.2 c2 (jd _ h2);rw[e2'] at y;cases y
           .exact(Gf h2).symm.trans e2⟩
          exact⟨z1.1,λpos cv e=>by
           have⟨c2,x,vs,v,e1,e2,e3⟩:=z1.2 pos cv e;refine⟨c2,x,vs,v,e1,?_,e3⟩;rw[c1.1 c2 (λw=>by
            rcases jz.mp w with rfl|w
            .rw[hbH] at e2;cases e2
            .obtain⟨ws,y⟩:=hRH c2 w;rw[y] at e2;cases e2)]
           exact e2⟩)
     cases o<;>first
      | exact g1 c _ gr
      | (obtain⟨qs,y1,y2⟩:=gr
         have⟨rs2,z1,z2⟩:=g1 c _ y1;exact⟨rs2,z1,λw=>z2 (y2 w)⟩)
  have h1:PS X (.Assign [.Name x pos'] (.Call (.Name y p) [] [] p2) pos) (λE σ' H'=>σ'=σ/\H'=H/\∀ a dx b H2,H a=Gb->H dx=Gb->dx≠a->b≠a->b≠dx->H b=Gb->H2=upd (upd (upd (upd H dx (.own a)) a (.ins C dx [])) b (.dK [])) a (.ins C dx [("runs",.ref b)])->E.nx (σ.set i (Ga (.ref a))) H2):=by
   intro pins2 s2 σ2 H2 D2 I2 hw;obtain⟨e1,e2,hw⟩:=hw;subst e1 e2;refine pG hN hi hx (EG M Fi hr hg hm hb .nil iC hdb) hs hf pins2 s2 _ _ D2 I2 ?_;intro a dx ha hdx n1;refine⟨a,dx,rfl,dH,λb hb=>⟨rfl,?_⟩⟩;have n2:b≠a:=λz=>by subst z;rw[dH] at hb;cases hb
   rw[dG n2] at hb;have n3:b≠dx:=λz=>by subst z;rw[dH] at hb;cases hb
   rw[dG n3] at hb;exact hw a dx b _ ha hdx n1 n2 n3 hb rfl
  have h2:lc X rest (λE σ' H'=>∃ b,tU X.K (b::R) (g b) E σ' H'):=λω s σ' H' D I hw=>by
   obtain⟨b,hw⟩:=hw;exact hrest b ω s σ' H' D I hw
  exact oq h1 h2 ω s σ H D I ⟨rfl,rfl,λa dx b H2 ha hdx n1 n2 n3 hb2 eH=>⟨b,main a dx b H2 ha hdx n1 n2 n3 hb2 eH⟩⟩
 intro ω s σ H D I hw;obtain⟨H0,F,ψ,o,us,e,pp⟩:=hw;exact hq ω s σ H D I ⟨H0,F,ψ,o,us,e,by rw[I.len];exact(je.mp hi).1,pp⟩
variable {g:FS}{k:Str}{ψ:Env}{E:Gg->Gh->Prop}{fm:dZ->(D->Option D)->List D->Option D}
def zG6 {st:List Stmt}(h:om X [] st g)(hg:∀ ψ o,g ψ=Ga o->∃ d,o=.rt d):fT X st g:=by
 refine yp h λE σ H=>?_;rintro⟨H0,F,ψ,o,r,e,p⟩;obtain⟨d,rfl⟩:=hg ψ o e;refine⟨H0,F,ψ,.rt d,⟨r,(λq hq=>by cases hq),(λq hq=>by cases hq)⟩,e,λv H' F' H1 c g1 f1 fh1 n1 rv=>?_⟩;have:H1=H0:=funext λb=>c.1 b (by intro z;cases z);subst this;exact p v H' F' g1 f1 fh1 n1 rv
structure Gm (K:ja)(C:Gj)(x qual:Str)(st:Stmt)(ps:List Str)(f:Gj)(fd:Gi):Prop where
 F:le K x qual st f fd
 m:zP K C x f
 b:fS K fd ps []
def Fl (i:Nat):FS:=λψ=>Ga (.nx (ψ.set i (.dks [])))
def mU{st:List Stmt}:fT X st gw:=λω s σ H D I h=>by
 obtain⟨H0,F,ψ,o,u,e,p⟩:=h;cases e
structure MthW (K:ja)(C:Gj)(x qual:Str)(st:Stmt)(cd:Gg)(a:Gj)(fd:Gi):Prop where
 e:∃ (od an:Option Gj) (sl:Array (Option Gg)) (oc kV dc pm ct:Gg),K.lookup a=Ga ⟨oc,od,.func fd,sl⟩/\fd=kG x qual (defArgs st) (defBody st) (defScope st) .none kV dc pm an cd ct/\uR K cd qual=true
 at_:uf K (.ref C) x=Ga (Ga (.ref a))
 fn:qH K (.ref a)=true
 kp:jR K (.ref a)=true
def zuM(w:MthW K C x qual st cd f fd)
  (hb:∀ (kV doc pm:Gg) (an:Option Gj) (cdv ct:Gg) (us:List Gg),us.length=ps.length->bindArgs (kG x qual (defArgs st) (defBody st) (defScope st) .none kV doc pm an cdv ct) ⟨us,[]⟩=pure (ps.zip us):=by first|(exact λ_ _ _ _ _ _ us hl=>(match us,hl with|[_],_=>rfl))|(exact λ_ _ _ _ _ _ us hl=>(match us,hl with|[_,_],_=>rfl))):Gm K C x qual st ps f fd:=by
 obtain⟨od,an,sl,oc,kV,dc,pm,ct,e1,rfl,e3⟩:=w.e;have F:=Ex (st:=st) e1 e3 w.kp;exact⟨F,⟨w.at_,w.fn,w.kp⟩,F.binds hb⟩
def zn (f g:xR):xR:=λψ=>(f ψ).bind λp=>if p.1=true then Ga (true,p.2) else g p.2
def zFB{f g:xR}(ha:DB X R a f)(hb:DB X R b g):DB X R (.BoolOp .Or [a,b] pos) (zn f g):=by
 refine tJ (PW.pt (FZ ha (DE hb))) λσ H Q=>?_;rintro⟨H0,F,ψ,t,env',u,e,q⟩;have⟨⟨c,env1⟩,e1,e⟩:=dz e;refine⟨H0,F,ψ,c,env1,u,e1,λH1 F1 K1 c1 f1 n1 u1=>?_⟩;cases c with
 | true=>cases e;exact mP (q H1 F1 K1 c1 f1 n1 u1)
 | false=>exact mZ ⟨K1,F1,env1,t,env',u1,e,λH2 F2 K2 c2 f2 n2 u2=>q H2 F2 K2 (c1.trans c2) (f1.trans f2) (n1.up (n2.chg c1)) u2⟩
structure GE (K:ja)(w:World)(e:DictEntry)(k:Str)(d:D):Prop where
 h:∃ (t:Tok) (v:V),e.key=.str k t/\e.hash=Jb w.params k/\eL v e.val/\∀ F,eU K F d v
def geN_{t u:Tok}{i:Int}:GE K w ⟨Jb w.params k,.str k t,.int i u⟩ k (.int i):=⟨t,.int i,rfl,rfl,⟨u,rfl⟩,λ_=>.int i⟩
def zkE{t:Tok}{b:Gj}(lk:K.lookup b=Ga ⟨.type "tuple",dc,.seq its n,sl⟩)(hz:its.size<=sizeLine)(hv:eC xs its.toList)(hr:∀ F,dM K F ds xs):GE K w ⟨Jb w.params k,.str k t,.ref b⟩ k (.tuple ds) :=
 ⟨t,.ref b,rfl,rfl,rfl,λF=>.tup (.inr ⟨_,its,n,lk,rfl,rfl,hz,hv⟩) (hr F)⟩
inductive AN (K:ja)(w:World):List DictEntry->List (Str×D)->Prop where
 | nil:AN K w [] []
 | cons {e:DictEntry} {k:Str} {d:D} {es:List DictEntry} {l:List (Str×D)} (h:GE K w e k d) (t:AN K w es l):AN K w (e::es) ((k,d)::l)
def AN.all {P:Program}{K:ja}{w:World}:∀ {es:List DictEntry} {l:List (Str×D)},AN K w es l->∃ (ws:List (fJ×V)) (vs:List (fJ×Gg)),KV ws vs/\Pairs (gZ P w) es vs/\(∀ e∈es,∃ k,(gZ P w).is k e.key=true/\e.hash=(gZ P w).hash k)/\vs.map (·.1)=l.map (λp=>(Sum.inr p.1:fJ))/\∀ F,fv K F l ws
 | _,_,.nil=>⟨[],[],.nil,.nil,λ_ h=>by simp at h,rfl,λ_=>.nil⟩
 | e::es,(k,d)::l,.cons h t=>by
  have⟨ws,vs,h1,h2,h3,h4,h5⟩:=t.all (P:=P);have⟨tk,v,a1,a2,a3,a4⟩:=h.h;have hk:(gZ P w).is (Sum.inr k) e.key=true:=by rw[a1];exact yn k tk
  refine⟨(Sum.inr k,v)::ws,(Sum.inr k,e.val)::vs,.cons ⟨rfl,a3⟩ h1,.cons hk rfl h2,λx hx=>?_,by rw[kh,kh,h4],λF=>.cons (a4 F) (h5 F)⟩;rcases jz.mp hx with rfl|hx
  .exact⟨Sum.inr k,hk,a2⟩
  .exact h3 x hx
variable {a:Gj}{k:FX}
def zFC{tab:List (Str×D)}{es:Array DictEntry}(m:mg x=Ga (.ref a))(hs:(a==sysModules)=false)(lk:K.lookup a=Ga ⟨.type "dict",Gb,.dict es ep,#[]⟩)(ge:AN K w es.toList tab)(nd:(tab.map (·.1)).Nodup):GDk P w K mg x tab:=by
 have⟨ws,vs,h1,h2,h3,h4,h5⟩:=ge.all (P:=P);refine⟨a,ws,m,hs,λh X=>⟨vs,h1,_,es,ep,X a _ lk,⟨rfl,rfl,rfl⟩,rfl,λe he=>h3 e (va.mpr he),h2,?_⟩,h5⟩;rw[h4];have:(tab.map (·.1)).map (Sum.inr:Str->fJ)=tab.map λp=>(Sum.inr p.1:fJ):=by rw[uz];rfl
 rw[<- this];exact List.Pairwise.map Sum.inr (λa b hab h=>hab (Sum.inr.inj h)) nd
variable {x:Gj}
def Tl (hf:ψ.frame=Ga L)(ht:iU h0 H x cls (rawInt L) s.heap)(h:Q () s):wpAny M A (noteFrame (.ref x) ψ) Q E s:=by
 obtain⟨n0,nH,oe,vs,T,oT,ts,he,hc,hd,h1,hT,eT,dT,h3,m0,mH⟩:=ht;unfold noteFrame;simp only[hf];refine dv (wpAny_field he hd h1 ?_);rw[Ge (show(jH T !=jC)=true by simp)];refine dv (wpAny_field eT dT h3 ?_);rw[Ge (show(rawInt L==rawInt L)=true by simp)];exact dw h
def Su {fl:Gg}(hf:ψ.frame=Ga L)(ht:iU h0 H x cls fl s.heap)(h:∀ h',iU h0 H x cls (rawInt L) h'->(∀ fs,Kx fs h0 H s.heap h')->E (.ref x) { s with heap:=h' }):cameBackBy M A ψ E (.ref x) s:=by
 unfold cameBackBy;obtain⟨n0,nH,oe,vs,T,oT,ts,he,hc,hd,h1,hT,eT,dT,h3,m0,mH⟩:=ht;have hs3:3<ts.size:=(kj.mp h3).1;refine dv (wpAny_field he hd h1 ?_);rw[Gf (show ¬((jH T==jC)=true) by simp)]
 try refine dv (dw ?_)
 unfold setFlight;refine dv (wpAny_field he hd h1 ?_);rw[Ge (show(jH T !=jC)=true by simp),hf];exact wpAny_setField eT dT hs3 (h _ ⟨n0,nH,oe,vs,T,_,_,(jN _ _ hT).trans he,hc,hd,h1,hT,jI _ eT (kA (j8 dT _)),j8 dT _,by simp[hs3],m0,mH⟩ (λfs=>Kx.upd eT dT m0 mH (by decide)))
def Md (X:Cx)(E:XK)(e:Gg)(s':Gh):Prop:=∃ (ω:List (Gj×Obj)) (σ:St) (H:Hp) (s:Gh) (x C:Gj) (H':Hp) (fl:Gg),e=.ref x/\dE X ω σ H s/\XS X H s x C fl H' s'/\(fl=.none\/fl=rawInt X.env.locals)/\E (.ref C) Gb H'
abbrev Cx.lp (X:Cx)(E:XK):Cx:={ X with xe:=Md X E }
variable {E:XK}{ψ:En}
def zDH (I:dE X ω σ H s):dE (Cx.lp X E) ω σ H s :=
 ⟨⟨I.ok.mod,I.ok.kind,I.ok.glob,I.ok.blt,I.ok.above,I.ok.inj,I.ok.has,I.ok.cab,I.ok.hd,I.ok.frames,I.ok.stk,I.ok.exf,I.ok.bs,I.ok.bsz,I.ok.noex,I.ok.exfs,I.ok.funs,I.ok.frf⟩,I.os,I.bare,I.base,I.loc,I.cell,I.free,I.freeC,I.pin,I.hok,I.len⟩
def BB (I:dE (Cx.lp X E) ω σ H s):dE X ω σ H s :=
 ⟨⟨I.ok.mod,I.ok.kind,I.ok.glob,I.ok.blt,I.ok.above,I.ok.inj,I.ok.has,I.ok.cab,I.ok.hd,I.ok.frames,I.ok.stk,I.ok.exf,I.ok.bs,I.ok.bsz,I.ok.noex,I.ok.exfs,I.ok.funs,I.ok.frf⟩,I.os,I.bare,I.base,I.loc,I.cell,I.free,I.freeC,I.pin,I.hok,I.len⟩
def NF:gU (fM X.prog X.w) (Cx.lp X E) E:=by
 intro ω σ H s e s' I h;obtain⟨x,C,H',rfl,os,bare,u,hok,t,hE⟩:=h;exact⟨ω,σ,H,s,x,C,H',_,rfl,BB I,⟨os,bare,u,hok,t⟩,.inl rfl,hE⟩
def Xr (hst:X.stack=X.env::X.outer/\X.env.frame=Ga X.env.locals):PassesOwn (model X.prog X.w) X.A X.env (Cx.lp X E).xe:=by
 rintro e s' ⟨ω,σ,H,s,x,C,H',fl,rfl,I,W,hfl,hE⟩;have J:=W.inv I;have back:∀ {fl2:Gg} {s2:Gh},XS X H s x C fl2 H' s2->cameBackBy (model X.prog X.w) X.A X.env (Cx.lp X E).xe (.ref x) s2:=λ{fl2 s2} W2 =>
  Su hst.2 W2.ex λh3 t3 k3=>⟨ω,σ,H,s,x,C,H',_,rfl,I,W2.kx I (k3 _) t3,.inr rfl,hE⟩
 rcases hfl with rfl|rfl
 .have st:=J.stack;have hA:=I.ok.frames;rw[hst.1] at st hA;refine Fx (h0:=s.heap) (H:=H') hA st hst.2 W.ex W.lt (λb q=>?_) λh1 t1 k1 _=>?_
  .cases z:H' b with
   | none=>exact absurd z q
   | some o=>exact J.hok.lt z
  .rw[<- hst.1] at k1;exact back (W.kx I k1 t1)
 .exact Tl hst.2 W.ex (back W)
def Mn {e:Gg}(h:Md (fN (fM P w) P w K mg base N qual scope f cd A outer s₀ H₀ E) E e s'):(fN (fM P w) P w K mg base N qual scope f cd A outer s₀ H₀ E).xe e s':=by
 obtain⟨ω,σ,H,s,x,C,H',fl,rfl,I,W,hfl,hE⟩:=h;have J:=W.inv I;have t0:=Ky I rfl W.ex;rcases hfl with rfl|rfl
 .exact RW (h0:=s₀.heap) (H:=H') J.ok.frames J.stack rfl t0 (λb o q=>jf (jg q) J.sz) (λb q=>by
   cases z:H' b with
   | none=>exact absurd z q
   | some o=>exact J.hok.lt z) λh' t' k' _=>GD J k' t' hE
 .show wpAny _ _ (leaving _ _) _ _ _;unfold leaving;refine dv (Tl rfl t0 ?_);exact xg t0 λh2 t2 k2 _=>GD J (k2 _) t2 hE
def Nj(h:mK (Cx.lp (fN (fM P w) P w K mg base N qual scope f cd A outer s₀ H₀ E) E) E st k):mK (fN (fM P w) P w K mg base N qual scope f cd A outer s₀ H₀ E) E st k:=λω s σ H D I q =>
 wpAny_mono (h ω s σ H D (zDH I) q) (λfl s1 z=>by
  cases fl with
  | next=>obtain⟨σ',H',J,z⟩:=z;exact⟨σ',H',BB J,z⟩
  | brk=>obtain⟨σ',H',J,z⟩:=z;exact⟨σ',H',BB J,z⟩
  | cont=>obtain⟨σ',H',J,z⟩:=z;exact⟨σ',H',BB J,z⟩
  | ret u=>obtain⟨v,σ',H',J,z⟩:=z;exact⟨v,σ',H',BB J,z⟩) λe s1 z=>Mn z
def rV (t:FT)(g:FS)(k:FX):List D->FX
 | [],_=>Gb
 | d::r,ψ=>(t d ψ).bind λe1=>match k e1 with
  | some c=>Ga c
  | none=>(g e1).bind λo=>match o with
   | .nx e=>rV t g k r e
   | .ct e=>rV t g k r e
   | _=>Gb
def Yn{f:FL}(hp:PassesOwn (model X.prog X.w) X.A X.env X.xe)(hc:X.calm=true)(hi:rY X tg iter f)(hg:sQ X tg t)(hb:fT X body g)(hx:my X E body k)
  (hs:∀ x,foldedSetIterable iter X.env x=pure x:=by intro _;rfl):mK X E (.For tg iter body [] pos) (λψ=>(f ψ).bind λds=>rV t g k ds ψ):=by
 refine iR (zo hp hc hi hg (Tg hb hx) hs) λD σ H=>?_;rintro⟨H0,F,ψ,c,r,e,w⟩;have⟨ds,e1,e⟩:=dz e;refine⟨H0,F,ψ,ds,r,e1,λJ H1 F1 g1 f1 fh1 n1 Y=>?_⟩;have r1:=r.grow g1 f1 fh1 n1;refine⟨λi m σ H=>i+m=ds.length/\∃ F2 ψ,RS X.K H0 F2 H ψ σ/\dA F1 F2/\rV t g k (ds.drop i) ψ=Ga c,⟨ds.length,by omega,F1,ψ,r1,.refl _,e⟩,?_⟩;rintro i m σ' H' ⟨hm,F2,env2,r2,f2,e2⟩;have⟨yd,yg⟩:=Y F2 f2 H' r2.fh i;by_cases hlt:i<ds.length
 .obtain⟨go,yy⟩:=yg ds[i] (by simp[hlt]);rw[uj hlt] at e2;unfold rV at e2;have⟨e3,x1,x2⟩:=dz e2;refine .inr ⟨go,λσ3 H3=>i+1+(m-1)=ds.length/\∃ F3 ψ,RS X.K H0 F3 H3 ψ σ3/\dA F1 F3/\rV t g k (ds.drop (i+1)) ψ=Ga c,λσ3 H3 h3=>⟨m-1,by omega,h3⟩,λx Hx yl=>?_⟩;have⟨gx,F4,f4,fh4,n4,rx⟩:=yy x Hx yl;have r4:=r2.grow gx f4 fh4 n4;refine⟨H0,F4,env2,ds[i],e3,r4,rx,x1,λσ5 r5=>?_⟩;split at x2
  .rename_i c' z;cases x2;exact .inr ⟨H0,F4,e3,_,r5,z,w⟩
  .obtain⟨o1,x3,x4⟩:=dz x2;refine .inl ⟨H0,F4,e3,o1,r5,x3,?_⟩;cases o1 with
   | nx e5=>exact λσ6 H6 F6 f6 n6 r6=>⟨by omega,F6,e5,r6,f2.trans (f4.trans f6),x4⟩
   | ct e5=>exact λσ6 H6 F6 f6 n6 r6=>⟨by omega,F6,e5,r6,f2.trans (f4.trans f6),x4⟩
   | bk e5=>cases x4
   | rt d=>cases x4
   | ro d=>cases x4
   | rc a d=>cases x4
 .rw[uy (by omega)] at e2;cases e2
def tXA (K:ja)(mg:Str->Option Gg)(E:XK)(k:FX):TA:=λσ H _=>Di K mg E k σ H
abbrev GL (X:Cx)(E:XK)(es:List Expr)(k:FX):Prop:=PA X es (tXA X.K X.mg E k)
def zFD:PA X es (λ_ _ _=>False):=λ_ _ _ _ _ _ _ h=>h.elim
def zG8 (h:me X E e k)(hs:Sa X e es:=by rfl):GL X E (e::es) k:=λpos ω s σ H Q I q=>eY h zFD hs pos ω s σ H Q I q
variable {f:FV}{g:FL}{body:Expr}
def zG9 (h:PV X e f)(hr:GL X E es k)(hs:Sa X e es:=by rfl):GL X E (e::es) (yu f k):=λpos ω s σ H Q I q=>by
 obtain⟨H0,F,ψ,c,r,z,w⟩:=q;have⟨d,e1,e2⟩:=dz z;exact eY h hr hs pos ω s σ H Q I ⟨H0,F,ψ,d,r,e1,λv H' F' g f1 fh n rv=>⟨H0,F',ψ,c,r.grow g f1 fh n,e2,w⟩⟩
def zBs{x:Str}(F:Fq X dS n fa fd ps sp)(hr:eP n X.A)(hm:X.mg x=Ga (.ref fa))(hk:jR X.K (.ref fa)=true)(hb:fS X.K fd ps [])(ha:GL X E (e::es) k)(hg:Gl X x:=by rfl)
  (hdb:Nd x:=by decide) (he:Sa X e es:=by rfl) (hpl:Sc X pos es:=by rfl):me X E (.Call (.Name x p) (e::es) [] pos) k :=
 fG (iV F hr hg hm hk hb .nil iC ha hdb he hpl) λ_ _ _ q=>q
def SN(h:me X E e k)(hm:X.mg "str"=Gb)(hg:Gl X "str":=by rfl)(hs:Sb X e:=by rfl):me X E (.Call (.Name "str" p) [e] [] pos) k :=
 fG (Bt sv hg hm boot_str h (hs:=hs)) λ_ _ _ q=>q
def zFE(h:me X E e k)(hm:X.mg "len"=Gb)(hg:Gl X "len":=by rfl)(hs:Sb X e:=by rfl):me X E (.Call (.Name "len" p) [e] [] pos) k :=
 fG (xQ og hg hm qY h (hs:=hs)) λ_ _ _ q=>q
def Wk {i:Expr}(h:me X E e k)(hs:swapsWith e (Ga (.Subscript o i pos')) pos.line X.env=pure false:=by rfl):mK X E (.Assign [.Subscript o i pos'] e pos) k:=λω s σ H D I q =>
 wpAny_Assign_Subscript (wpAny_mono (h ω s σ H (λ_ _=>False) I q) (λ_ _ ⟨_,_,_,_,z⟩=>z.elim) λ_ _ z=>z) hs
def wq (K:ja)(mg:Str->Option Gg)(C:Gj)(fx:Sl->List D->Option Str):Sp:=λvs H _ E=>∃ (F:Hp) (p dx r:Gj) (ws:List (fJ×V)) (kvs:List (Str×D)) (us:List V) (ds:List D) (c:Str),vs=.ref p::us/\H p=Ga (.ins C dx [("runs",.ref r)])/\H r=Ga (.dK ws)/\fv K F kvs ws/\dA F H/\dM K F ds us/\fx (.dsk C p r kvs) ds=Ga c/\Xw mg E c H
def yL (np n:Nat)(k:FX):Sl->List D->Option Str:=λs ds=>if ds.length+1=np then k (startD n s ds) else Gb
section
variable {P:Program}{w:World}{K:ja}{mg:Str->Option Gg}{base:Heap}{x qual:Str}{st:Stmt}{f C:Gj}{fd:Gi}{N ps:List Str}{k:Nat}{kx:FX}
def Xs {CX:mz}(F:le K x qual st f fd)(S:dD N ps (defScope st))(hpn:ps.length<=N.length)
  (hb:He CX P w K mg base N qual st f k λX E=>my X E (defBody st) kx) :
  dJ P w K mg base CX (k+1) f fd ps (wq K mg C (yL ps.length N.length kx)):=by
 obtain⟨oc,od,kV,doc,pm,an,cdv,ct,osl,rfl,lk,hcd⟩:=F.ex;refine rl lk hcd S (λvs H Q E h=>?_) λA outer s H vs Q E hr h=>?_
 .obtain⟨F0,p,dx,r,ws,kvs,us,ds,c,rfl,_,_,_,_,rr,e,_⟩:=h;rw[jr,<- rr.length];exact(pj e).1
 .obtain⟨F0,p,dx,r,ws,kvs,us,ds,c,rfl,h1,h2,rk,g0,rr,e,w⟩:=h;exact⟨_,hb hr,H,F0,_,c,RS.startD (by rwa[<- rr.length,(pj e).1]) g0 rr h1 h2 rk,(pj e).2,w⟩
end
open Classical in
noncomputable def iM (i:Nat)(C:Gj)(fx:Sl->List D->Option Str)(ga:FL):FX:=λψ=>match ψ[i]? with
 | some (.dsk C' p r kvs)=>if C'=C then(ga ψ).bind (fx (.dsk C' p r kvs)) else Gb
 | _=>Gb
def UK{c:Str}(e:iM i C fx ga ψ=Ga c):∃ p r kvs ds,ψ[i]?=Ga (.dsk C p r kvs)/\ga ψ=Ga ds/\fx (.dsk C p r kvs) ds=Ga c:=by
 unfold iM at e;split at e;rotate_left
 .cases e
 rename_i C' p' r' kvs z;split at e;rotate_left
 .cases e
 rename_i ec;subst ec;have⟨ds,e1,e2⟩:=dz e;exact⟨p',r',kvs,ds,z,e1,e2⟩
def TW(hl:([("runs",V.ref 0)]:List (Str×V)).lookup m=Gb)(h:PE X e0 (tu C m (wq X.K X.mg C fx) [] E (xN i) (tL X.K ga))):me X E e0 (iM i C fx ga):=by
 refine fG h λσ H Q=>?_;rintro⟨H0,F,ψ,cc,r,e,w⟩;have⟨p',r',kvs,ds,z,e1,e2⟩:=UK e;have⟨s1,dx,ws,h1,h2,rr⟩:=r.dsk z;exact⟨.ref p',s1,p',dx,_,rfl,h1,CL hl _,H0,F,ψ,ds,r,e1,λvs H1 F1 g1 f1 fh1 n1 rv=>⟨F1,p',dx,r',ws,kvs,vs,ds,cc,by rw[jJ],g1 _ _ h1,g1 _ _ h2,rr.mono f1,fh1,rv,e2,w.dn (r.h0.trans g1)⟩⟩
def XQ:entryFor table "proto.unchain"=Ga Builtin.«proto.unchain»:=entryFor_of_fast nofun
variable {E:Gg->Gh->Prop}{f:Gj}{k:Nat}{fx:dZ->(D->Option D)->List D->Option Str}
def YU{Q:α->Gh->Prop}(hh:A.handled=Ga (.ref hx))(ne:hx≠x)(eh:s.heap.get? hx=Ga oh)(dh:oh.data=.fields vh)(h2:vh[2]?=Ga .none)(ex:s.heap.get? x=Ga ox)(dx:ox.data=.fields vx)(sz:2<vx.size)
  (h:E (.ref x) { s with heap:=s.heap.update x (kf (·.setIfInBounds 2 (.ref hx))) }):wpAny (model prog w) A (raiseNew (.ref x):Sem α) Q E s:=by
 unfold raiseNew;refine dv (wpAny_handled ?_);rw[hh];dsimp only;rw[Ge (show(jH hx !=jH x)=true by simp[ne])];refine dv (wpAny_holding (wpAny_runValue (codeAny_builtin XQ ?_)));unfold Builtin.«proto.unchain»;dsimp only;refine dv (wpAny_field eh dh h2 ?_);rw[Ge (show(jC==jC)=true by decide)];refine dw ?_;refine dv ?_;unfold updateField;refine dv (wpAny_load ex ?_);rw[dx];dsimp only;rw[Ge sz];exact wpAny_update ex (wpAny_throw h)
section
variable {prog:Program}{w:World}{A:Around}{E:Gg->Gh->Prop}{ψ:Env}{hx:Gj}
variable {nm q:Str}{C N:Gj}{bs bm:List Gg}{hdct:Bool}{sn:List Str}{sub:List Gg}{ab:Bool}{col:Option Bool}{dd:Option Gj}{k0 k1 k2 k3 k5:Option Gg}{newId:String}
variable {Q:Gg->Gh->Prop}{e:Gj}{vs:Array Gg}
def ZR{msg:String}(hbase:bm.contains (.type "BaseException")=true)(hC:s.heap.get? C=Ga (excClassObj nm q C N bs bm hdct sn sub ab col dd k0 k1 k2 k3 k5 newId))
  (he:s.heap.get? e=Ga { cls:=.ref C,data:=.fields vs }) (h:Q (.ref e) s):wpAny (model prog w) A (excFromValue (.ref e) msg) Q E s:=by
 have hcB:(jH C::bm).contains (.type "BaseException")=true:=by rw[List.contains_cons,hbase,Bool.or_true]
 obtain⟨hp,g,d,tk,os⟩:=s;unfold excFromValue
 repeat (first|exact h|with_reducible refine wpAny_loadPart_at he ?_|with_reducible refine wpAny_loadPart_at hC ?_|(with_reducible refine wpAny_isSubtype_exc hC ?_;rw[hcB])|wp_step)
def Zr{Q:Bool->Gh->Prop}(he:s.heap.get? e=Ga { cls:=.ref C,data:=.fields vs })(h:Q false s):wpAny (model prog w) A (isType (.ref e)) Q E s:=by
 obtain⟨hp,g,d,tk,os⟩:=s;unfold isType
 repeat (first|exact h|with_reducible refine wpAny_loadPart_at he ?_|wp_step)
def zBt(hC:s.heap.get? C=Ga (excClassObj nm q C N bs bm hdct sn sub ab col dd k0 k1 k2 k3 k5 newId))(he:s.heap.get? e=Ga { cls:=.ref C,data:=.fields vs })(h:Q (.ref e) s):wpAny (model prog w) A (raisedInstance (.ref e)) Q E s:=by
 obtain⟨hp,g,d,tk,os⟩:=s;unfold raisedInstance
 repeat (first|exact h|with_reducible refine wpAny_loadPart_at he ?_|with_reducible refine wpAny_loadPart_at hC ?_|wp_step)
def zpH{x c:Sem Gg}{Q:Flow->Gh->Prop}(hbase:bm.contains (.type "BaseException")=true)(hh:A.handled=Ga (.ref hx))(hc:∀ (s:Gh) (Q:Gg->Gh->Prop),Q .none s->wpAny (model prog w) A c Q E s)
  (h:wpAny (model prog w) A x (λv s₁=>∃ e t oh vh,v=.ref e/\s₁.heap.get? C=Ga (excClassObj nm q C N bs bm hdct sn sub ab col dd k0 k1 k2 k3 k5 newId) /\
   s₁.heap.get? e=Ga { cls:=.ref C,data:=.fields #[.ref t,.none,.none,.none,.bool false,.none] }/\hx≠e/\C≠e/\s₁.heap.get? hx=Ga oh/\oh.data=.fields vh/\vh[2]?=Ga .none/\∀ h',(∀ b,b≠e->h'.get? b=s₁.heap.get? b)->h'.get? e=Ga { cls:=.ref C,data:=.fields #[.ref t,.none,.ref hx,.none,.bool true,.none] }->h'.objs.size=s₁.heap.objs.size->E (.ref e) { s₁ with heap:=h' }) E s) :
  wpAny (model prog w) A (raiseStmt ψ (Ga x) (Ga c)) Q E s:=by
 unfold raiseStmt;refine dv (wpAny_mono h (λv s₁ h₁=>?_) λ_ _ x=>x);obtain⟨e,t,oh,vh,rfl,hC,he,n1,n2,eh,dh,h2,hE⟩:=h₁;dsimp only;refine dv (wpAny_holding (hc _ _ ?_));refine dv (dw ?_);refine dv (wpAny_holding (ZR hbase hC he ?_));dsimp only;rw[Ge (show(jC==jC)=true by decide)];refine dv (dw ?_);have ot:∀ {h:Heap} {f:Obj->Obj} {b:Gj},b≠e->(h.update e f).get? b=h.get? b:=λnb=>jN _ _ (kW nb);have e3:(s₁.heap.update e (kf (·.setIfInBounds 3 jC))).get? e=Ga { cls:=.ref C,data:=.fields #[.ref t,.none,.none,.none,.bool false,.none] }:=(jI _ he rfl).trans rfl;generalize hh3:s₁.heap.update e (kf (·.setIfInBounds 3 jC))=H3 at e3;have e4:(H3.update e (kf (·.setIfInBounds 4 (ur true)))).get? e=Ga { cls:=.ref C,data:=.fields #[.ref t,.none,.none,.none,.bool true,.none] }:=(jI _ e3 rfl).trans rfl;generalize hh4:H3.update e (kf (·.setIfInBounds 4 (ur true)))=H4 at e4;have e5:(H4.update e (kf (·.setIfInBounds 2 (jH hx)))).get? e=Ga { cls:=.ref C,data:=.fields #[.ref t,.none,.ref hx,.none,.bool true,.none] }:=(jI _ e4 rfl).trans rfl;have o4:∀ b,b≠e->H4.get? b=s₁.heap.get? b:=λb nb=>by rw[<- hh4,ot nb,<- hh3,ot nb]
 have z4:H4.objs.size=s₁.heap.objs.size:=by rw[<- hh4,<- hh3];simp[vC]
 refine dv (wpAny_setField he rfl (show 3<6 by decide) ?_);rw[hh3];refine dv (wpAny_setField (s:={ s₁ with heap:=H3 }) e3 rfl (show 4<6 by decide) ?_);show wpAny _ _ _ _ _ { s₁ with heap:=H3.update e (kf (·.setIfInBounds 4 (ur true))) };rw[hh4];have hC4:H4.get? C=Ga (excClassObj nm q C N bs bm hdct sn sub ab col dd k0 k1 k2 k3 k5 newId):=(o4 C n2).trans hC;refine dv (Zr (s:={ s₁ with heap:=H4 }) e4 ?_);rw[Gf (by decide)];refine dv (zBt (s:={ s₁ with heap:=H4 }) hC4 e4 ?_);unfold setFlight;refine dv (dv (wpAny_field (s:={ s₁ with heap:=H4 }) (x:=.none) e4 rfl rfl ?_));rw[Gf (show ¬((jC !=jC)=true) by decide)];refine dw ?_;exact YU (s:={ s₁ with heap:=H4 }) hh n1 ((o4 hx n1).trans eh) dh h2 e4 rfl (show 2<6 by decide) (hE _ (λb nb=>(ot nb).trans (o4 b nb)) e5 (by simp[vC];exact z4))
end
section
variable {prog:Program}{w:World}{A:Around}{E:Gg->Gh->Prop}{ψ:Env}{hx:Gj}{s:Gh}
variable {nm q:Str}{C N:Gj}{bs bm bmB:List Gg}{hdct:Bool}{sn:List Str}{sub:List Gg}{ab:Bool}{col:Option Bool}{dd:Option Gj}{k0 k1 k2 k3 k5:Option Gg}{B newId initId:String}
abbrev Ui (C t hx:Gj):Obj:={ cls:=.ref C,data:=.fields #[.ref t,.none,.ref hx,.none,.bool true,.none] }
def zw1 (F:ExcBaseFacts B newId initId bmB){mN:Str->Option Gg}{x:Str}{np cpos npos:Pos}{j}{args:List Expr}{Q:Flow->Gh->Prop}
  (hbase:bm.contains (.type "BaseException")=true) (hh:A.handled=Ga (.ref hx)) (hplain:(backTo cpos (starEach args ψ)).any (·.1)=false) (hni:mN "__init__"=Gb)
  (h:wpAny (model prog w) A (eval (.Name x np) ψ) (λf s₁=>f=.ref C/\wpAny (model prog w) A (evalArgs (.ref C) true (backTo cpos (starEach args ψ)) [])
   (λa s₂=>a.kw=[]/\a.pos.length<=sizeLine/\s₂.heap.get? C=Ga (excClassObj nm q C N bs bm hdct sn sub ab col dd k0 k1 k2 k3 k5 newId)/\s₂.heap.Ns N mN/\OwnTail s₂.heap bmB bm/\(∃ oh vh,s₂.heap.get? hx=Ga oh/\oh.data=.fields vh/\vh[2]?=Ga .none) /\
    ∀ h' e t,s₂.heap.get? e=Gb->(∀ b o,s₂.heap.get? b=Ga o->h'.get? b=Ga o)->h'.get? e=Ga (Ui C t hx)->E (.ref e) { s₂ with heap:=h' }) E s₁) E s) :
  wpAny (model prog w) A (exec (.Raise (Ga (.Call (.Name x np) args [] cpos)) (Ga (.Constant .none j npos)) pos) ψ) Q E s:=by
 rw[arm_exec_Raise];refine dv (wpAny_standAt ?_);simp only[evalOpt,Option.map];refine zpH (C:=C) (nm:=nm) (q:=q) (N:=N) (bs:=bs) (bm:=bm) (hdct:=hdct) (sn:=sn) (sub:=sub) (ab:=ab) (col:=col) (dd:=dd) (k0:=k0) (k1:=k1) (k2:=k2) (k3:=k3) (k5:=k5) (newId:=newId) hbase hh (λs Q hq=>?_) (dv (wpAny_mono (wpAny_Call_ofName (wpAny_mono h (λf s₁ h₁=>?_) λ_ _ x=>x)) (λv s₃ h₃=>dv (wpAny_standAt (dw h₃))) λ_ _ x=>x))
 .refine dv ?_
  first
   | exact dv (wpAny_standAt (dw (dv (wpAny_standAt (dw hq)))))
   | exact dw (dv (wpAny_standAt (dw hq)))
 obtain⟨rfl,h₁⟩:=h₁;unfold callWith;refine dv (wpAny_holding (wpAny_mono h₁ (λa s₂ h₂=>dv (wpAny_standAt ?_)) λ_ _ x=>x));obtain⟨apos,akw⟩:=a;obtain⟨hkw,hlen,hC,hn,T,⟨oh,vh,eh,dh,h2⟩,h₂⟩:=h₂;obtain rfl:akw=[]:=hkw;obtain⟨hp,g,d,tk,os⟩:=s₂;simp only[hplain];refine dv (wpAny_keeperOf_exc hC ?_);refine dv (wpAny_call_exc_subT (hrest:=hlen) F T hC hn hni λh' e hm=>dv (wpAny_holding (wpAny_point (dw ?_))));have⟨t,ht,_,_⟩:=hm.there;have ne:∀ b o,hp.get? b=Ga o->b≠e:=λb o z y=>by subst y;rw[hm.new] at z;cases z
 exact⟨e,t,oh,vh,rfl,hm.keeps _ _ hC,ht,ne _ _ eh,ne _ _ hC,hm.keeps _ _ eh,dh,h2,λh6 o6 e6 _=>h₂ h6 e t hm.new (λb o z=>(o6 b (ne b o z)).trans (hm.keeps _ _ z)) e6⟩
end
def DR (x:Gj)(h:Heap):Prop:=∃ o vs,h.get? x=Ga o/\o.data=.fields vs/\vs[2]?=Ga .none
def DR.kx(n:DR x h)(k:Kx fs h0 H h h'):DR x h':=by
 obtain⟨o,vs,e,d,z⟩:=n;have⟨o',vs',e',d',z'⟩:=k.2 x o vs e d;exact⟨o',vs',e',d',z'.trans z⟩
def zl (P:Program)(w:World):mz:=λouter H s E e s'=>fM P w outer H s E e s'/\∀ x,e=.ref x->DR x s'.heap
def Yu (F:dJ P w K mg base (zl P w) k f fd ps sp):dJ P w K mg base (fM P w) k f fd ps sp :=
 ⟨F.len,λA outer s H args us vs Q E hr he hb hv hs=>codeAny_mono (F.run A outer s H args us vs Q E hr he hb hv hs) λr s' q=>by
  cases r with
  | error e=>exact q.1
  | ok fl=>cases fl<;>exact q⟩
variable {E:XK}{x:Str}
def Pj{np cpos spos:Pos}(T:rm K mg cn C)(hg:(defScope st).names.lookup cn=Ga .globalImplicit:=by rfl)(hdb:Nd cn:=by decide) :
  mK (fN (zl P w) P w K mg base N qual (defScope st) f cd A outer s₀ H₀ E) E (.Raise (Ga (.Call (.Name cn np) [.Constant (.str msg) j spos] [] cpos)) Gb pos) (lI cn):=by
 intro ω s σ H D I h;obtain⟨H0,F,ψ,c,r,e,C',hm,hE⟩:=h;cases e;have O:=T.f.own mg base I.ok.mod.kin T.m;obtain rfl:C'=C:=by
  have q:=hm.symm.trans O.bound;cases q;rfl
 have⟨tl,N',nm,q,bs,hdct,sn,sub,ab,col,dd,k0,k1,k2,k3,k5,mN,hC,hN,hni,T⟩:=O.obj;refine wpAny_Raise_call_subT (C:=C') (nm:=nm) (q:=q) (N:=N') (bs:=bs) (bm:=tl) (hdct:=hdct) (sn:=sn) (sub:=sub) (ab:=ab) (col:=col) (dd:=dd) (k0:=k0) (k1:=k1) (k2:=k2) (k3:=k3) (k5:=k5) (newId:=_)
  uh (mN:=mN) (T.hasType uh.hasBase) (I.ok.hd rfl) rfl hni (gK I hg O.bound ⟨rfl,?_⟩ hdb)
 refine uC (wpAny_mono ((eY sJ fY) cpos ω s σ H (λvs H1=>vs.length=1/\H1=H) I ⟨rfl,rfl⟩) (λus s2 h2=>?_) λ_ _ y=>y);obtain⟨vs,H1,I2,rv,hl,rfl⟩:=h2;have kb:∀ b o,base.get? b=Ga o->s2.heap.get? b=Ga o:=I2.bk;refine⟨rfl,by rw[<- rv.length,hl];decide,kb _ _ hC,hN.keeps kb,T.keeps kb,λh' e M=>?_⟩;have⟨t,ht,_,_⟩:=M.there;have J:dE (fN (zl P w) P w K mg base N qual (defScope st) f cd A outer s₀ H₀ E) ω σ H1 { s2 with heap:=h' }:=I2.call' (ch:=[]) rfl (Un.kept M.keeps) (I2.hok.kept M.keeps) I2.bare λb z=>absurd z (by simp);refine Pk (h0:=s₀.heap) (H:=H1) J.ok.frames J.stack rfl ht rfl rfl rfl rfl (Fu I2 rfl M.new) (IA I2 M.new) (λb o q=>jf (jg q) J.sz) (λb q=>by
  cases z:H1 b with
  | none=>exact absurd z q
  | some o=>exact J.hok.lt z) λh2 t' k' _=>?_
 have⟨u,hok⟩:=Rc J rfl k';refine⟨⟨e,C',H1,rfl,J.os,J.bare,u,hok,t',hE H1 r.h0⟩,λx ex=>?_⟩;cases ex;exact DR.kx ⟨_,_,ht,rfl,rfl⟩ k'
def Yp {A':Around}(hst:X.stack=X.env::X.outer/\X.env.frame=Ga X.env.locals)(hA:A'.frames=Ga X.stack)(I:dE X ω σ H s){e t:Gj}(new:s.heap.get? e=Gb)(keep:∀ b o,s.heap.get? b=Ga o->h'.get? b=Ga o)
  (he:h'.get? e=Ga (Ui C t hx)) (hE:E (.ref C) Gb H):notedBy (model X.prog X.w) A' X.env (cameBackBy (model X.prog X.w) X.A X.env (Md X E)) (.ref e) { s with heap:=h' }:=by
 have J:dE X ω σ H { s with heap:=h' }:=I.call' (ch:=[]) rfl (Un.kept keep) (I.hok.kept keep) I.bare λb z=>absurd z (by simp);have stk:=J.stack;rw[hst.1] at stk hA;refine Um (h0:=s.heap) (H:=H) hA stk hst.2 he rfl rfl rfl rfl new (IA I new) (λb o q=>jg (keep b o q)) (λb q=>by
  cases z:H b with
  | none=>exact absurd z q
  | some o=>exact J.hok.lt z) λh1 t1 k1 _=>?_
 rw[<- hst.1] at k1;have W:XS X H s e C (rawInt X.env.locals) H { s with heap:=h1 }:=by
  refine⟨rfl,I.bare,Pv (Un.kept keep) k1,λa o ea=>?_,t1⟩;have tr:∀ b u,H b≠Gb->h'.get? b=Ga u->h1.get? b=Ga u:=λb u hb e1=>by
   have⟨sl,e2,q⟩:=k1.1 b u e1 (.inr (.inl hb));rw[zI (q λz=>hb (J.stkFree b z))] at e2;exact e2
  exact(J.hok a o ea).stay (λb u hb e1=>tr b u (by
   rcases hb with rfl|hb
   .exact zi ea
   .exact zi hb) e1) (λb z=>z) λb xs z=>z
 exact Su hst.2 W.ex λh3 t3 k3=>⟨ω,σ,H,s,e,C,H,_,rfl,I,W.kx I (k3 _) t3,.inr rfl,hE⟩
def LP (k:FX)(c0 cn:Str):FX:=λψ=>(k ψ).bind λc=>if c=c0 then Ga cn else Gb
def zFH{C2:Gj}{fx:List D->Option Str}{cp np cpos spos npos rpos:Pos}{jj}
  (hst:X.stack=X.env::X.outer/\X.env.frame=Ga X.env.locals) (F:Fq X (zl X.prog X.w) n fa fd ps (lA X.K X.mg fx)) (hr:eP n X.A) (hm:X.mg y=Ga (.ref fa)) (hk:jR X.K (.ref fa)=true) (hb:fS X.K fd ps [])
  (ha:PL X.nox (e::es) g) (hB:X.mg B=Ga (.ref Ba)) (hbB:u5 X.K (.ref Ba) (.type "BaseException")=Ga true) (hkit:kJ X.K (.ref Ba) (.ref Ba)=Ga true) (T:rm X.K X.mg cn C2)
  (hg:Gl X y:=by rfl) (hg1:Gl X B:=by rfl) (hg2:Gl X cn:=by rfl) (hdb:Nd y:=by decide) (hdb1:Nd B:=by decide) (hdb2:Nd cn:=by decide)
  (he:Sa X e es:=by rfl) (hpl:Sc X cp es:=by rfl) :
  mK (Cx.lp X E) E (.Try [.Return (Ga (.Call (.Name y p) (e::es) [] cp)) rp] [.ExceptHandler (Ga (.Name B Bp)) Gb [.Raise (Ga (.Call (.Name cn np) [.Constant (.str msg) j spos] [] cpos)) (Ga (.Constant .none jj npos)) rpos] hp] [] [] pos) (LP (iz g fx) B cn):=by
 intro ω s σ H D I h;have I:=BB I;obtain⟨H0,F0,ψ,c,r,ec,w⟩:=h;have⟨c1,ec1,ec2⟩:=dz ec;split at ec2;rotate_left
 .cases ec2
 rename_i cc;subst cc;cases ec2;have⟨ds,e1,e2⟩:=dz ec1;obtain⟨C2',hm2,hE⟩:=w;have O2:=T.f.own X.mg X.base I.ok.mod.kin T.m;obtain rfl:C2'=C2:=by
  have q:=hm2.symm.trans O2.bound;cases q;rfl
 refine wpAny_Try_except (wpAny_execs_cons (wpAny_Return_some ?_));show wX X (eval _ X.env) _ _ s;refine wpAny_Call_Name_kw (gK I hg hm ?_ hdb);refine uB (h₀:=X.base) I.ok.mod.kin hk (wpAny_mono (ha.pa cp ω s σ H (λvs H1=>∃ F1,dM X.K F1 ds vs/\dA F1 H1/\dA H H1) (I.wish _) ⟨H0,F0,ψ,ds,r,e1,λvs H1 F1 g1 f1 fh1 n1 rv=>⟨F1,rv,fh1,g1⟩⟩) (λus s1 z=>?_) λe s z=>False.elim z) he hpl;obtain⟨vs,H1,I1,rv,F1,rr,fh1,g1⟩:=z;have I1:=I1.unwish;refine⟨I1.kIn,?_⟩;have sp:lA X.K X.mg fx vs H1 (λ_ _=>False) (λcl _ H'=>cl=.ref Ba/\dA H1 H'):=⟨F1,ds,_,fh1,rr,e2,Ba,hB,λH' q=>⟨rfl,q⟩⟩;have hl:(us++[]).length=ps.length:=by rw[jJ,<- rv.length];exact F.len _ _ _ _ sp
 refine wpAny_call (codeAny_mono (F.run X.A X.stack s1 H1 ⟨us,[]⟩ (us++[]) vs (λ_ _=>False) _ hr I1.env0 (hb s1 us I1.kIn hl) (by rwa[jJ]) sp) λr1 s' hq=>?_);cases r1 with
 | ok fl =>
  cases fl with
  | ret u=>have⟨_,_,_,_,z⟩:=I1.after hq;exact z.elim
  | next=>exact False.elim hq
  | brk=>exact False.elim hq
  | cont=>exact False.elim hq
 | error e =>
  obtain⟨⟨x,C',H',rfl,os,bare,u,hok,t,hE1,same⟩,nn⟩:=hq;cases hE1;have nx:=nn x rfl;have W1:XS X H1 s1 x Ba .none H' s':=⟨os,bare,u,hok,t⟩;have J:=W1.inv I1;have stk:=J.stack;have hA:=I1.ok.frames;rw[hst.1] at stk hA;refine Fx (h0:=s1.heap) (H:=H') hA stk hst.2 W1.ex W1.lt (λb q=>?_) λh1 t1 k1 _=>?_
  .cases z:H' b with
   | none=>exact absurd z q
   | some o=>exact J.hok.lt z
  rw[<- hst.1] at k1;have Wa:=W1.kx I1 k1 t1;have nx:=nx.kx k1;refine xg t1 λh2 t2 k2 _=>?_;have W2:=Wa.kx I1 (k2 _) t2;have nx:=nx.kx (k2 []);have J2:=W2.inv I1;refine wpAny_handleBy_cons (codeAny_handlers_test ?_) (by intro q;cases q);refine gK (X:=Cx.inX X (.ref x)) (Ah J2 _) hg1 hB ?_ hdb1;have⟨ox,hx1,hx2,hx3,hx4,hx5,hx6⟩:=W2.frz;refine Mx J2.kIn ⟨hx1,hx2,hx4,by rw[hx3];trivial⟩ hkit hbB ?_;rw[Ge rfl];refine codeAny_handlers_suite ?_;refine xg W2.ex λh3 t3 k3 _=>?_;have W3:=W2.kx I1 (k3 _) t3;have nx:=nx.kx (k3 []);have⟨oe,y1,y2,y3,y4,y5,y6,y7⟩:=W3.frz;have J4:dE X ω σ (upd H' x (.frz oe (.own x))) { s' with heap:=h3 }:=I1.call' (ch:=[]) W3.os y6 y7 W3.bare λb z=>absurd z (by simp);have g4:dA H0 (upd H' x (.frz oe (.own x))):=((r.h0.trans g1).trans same).trans (dA.new y5);obtain⟨oe',ve,z1,z2,z3⟩:=nx;obtain rfl:oe'=oe:=jM (z1.symm.trans y1);have⟨tl,N',nm,q,bs,hdct,sn,sub,ab,col,dd,k0,k1',k2',k3',k5,mN,hC,hN,hni,TT⟩:=O2.obj;refine wpAny_execs_cons (zw1 (C:=C2') (nm:=nm) (q:=q) (N:=N') (bs:=bs) (bm:=tl) (hdct:=hdct) (sn:=sn) (sub:=sub) (ab:=ab) (col:=col) (dd:=dd) (k0:=k0) (k1:=k1') (k2:=k2') (k3:=k3') (k5:=k5) (hx:=x)
   uh (mN:=mN) (TT.hasType uh.hasBase) rfl rfl hni (gK (X:=Cx.inX X (.ref x)) (Ah J4 _) hg2 O2.bound ⟨rfl,?_⟩ hdb2))
  refine uC (wpAny_mono ((eY (X:=(Cx.inX X (.ref x)).nox) sJ fY) cpos ω _ σ _ (λvs H1=>vs.length=1/\H1=upd H' x (.frz oe' (.own x))) ((Ah J4 _).wish _) ⟨rfl,rfl⟩) (λus s2 h2=>?_) λ_ _ y=>False.elim y);obtain⟨vs2,H5,I5,rv5,hl5,rfl⟩:=h2;have I5:=IQ I.ok I5.unwish;have kb:∀ b o,X.base.get? b=Ga o->s2.heap.get? b=Ga o:=I5.bk;have ex5:s2.heap.get? x=Ga oe':=(I5.hok x _ dH).1;refine⟨rfl,by rw[<- rv5.length,hl5];decide,kb _ _ hC,hN.keeps kb,TT.keeps kb,⟨oe',ve,ex5,z2,z3⟩,λh' e t new keep he'=>?_⟩;exact Yp (A':=X.A.mark (Ga (.ref x))) hst (show X.A.frames=Ga X.stack from I.ok.frames) I5 new keep he' (hE _ g4)
def Bv (K:ja)(n:Nat)(P:Gj)(c:(D->Option D)->dZ)(fb:FV):Sp:=λvs H Q _=>vs.length=n/\∃ (F:Hp) (ds:List D) (qs:Array Gg),dM K F ds vs/\dA F H/\H P=Ga (.tbl qs)/\fA H qs.toList /\
 ∀ g H' F',dA H H'->dA F F'->dA F' H'->eN F F' H->(c λd=>fb (.val d::ds.map .val)).C g F' H'->Q (.ref g) H'
def zBu(h:vs[i]?=Ga v):(L2.start N vs)[i]?=Ga (Ga v):=by
 unfold L2.start;rw[kn (by rw[jk];exact(je.mp h).1),jE,h];rfl
section
variable {P:Program}{w:World}{K:ja}{mg:Str->Option Gg}{base:Heap}{x qual:Str}{st:Stmt}{f c0 Pt:Gj}{ps:List Str}{k kl:Nat}{params:Arguments}{body:Expr}{scope:Scope}{lpos rp:Pos}{xl:Str}{fb:FV}{kV doc pm ct oc:Gg}{an od:Option Gj}{osl:Array (Option Gg)}
def okL (lk:K.lookup f=Ga ⟨oc,od,.func (kG x qual (defArgs st) (defBody st) (defScope st) .none kV doc pm an (.ref c0) ct),osl⟩)(hcd:uR K (.ref c0) qual=true)(S:dD ps ps (defScope st))(SL:sZ xl ps scope)
  (hbd:defBody st=[.Return (Ga (.Lambda params body scope lpos)) rp])
  (L:∀ (A:Around) (outer:List Env) (s:Gh) (H:Hp) (E:XK),zC (fN dS P w K mg base ps qual (defScope st) f (.ref c0) A outer s H E) c0 Pt)
  (outs:∀ y∈scope.names,y.2=.free->(defScope st).names.lookup y.1=Ga .cell) (hfr:∀ y∈ps,(y,jZ)∈scope.names)
  (hbind:∀ (name qual:Str) (cl:List (Str×Gj)) (pm:Gg) (c:Gj) (ctv u:Gg),bindArgs (vI name qual params body scope cl pm (.ref c) ctv) ⟨[u],[]⟩=pure [(xl,u)])
  (hbody:∀ (qual:Str) (f:Gj) (cd:Gg) (cl:List (Str×Gj)) (A:Around) (outer:List Env) (s:Gh) (H:Hp),eP kl (A.deeper (uW qual scope s.heap.objs.size f cd cl))->PV (tm P w K mg base (xl::ps) qual scope f cd cl A outer s H) body fb)
  (hdef:∀ ψ:Env,defaultsOf params ψ=([],[]):=by intro _;rfl) :
  dJ P w K mg base dS (k+1) f (kG x qual (defArgs st) (defBody st) (defScope st) .none kV doc pm an (.ref c0) ct) ps (Bv K ps.length Pt (gJ P w K mg base (kl+1)) fb):=by
 refine⟨λvs H Q E h=>h.1,λA outer s H args us vs Q E hr e0 hb r hsp=>?_⟩;obtain⟨hl,F,ds,qs,rr,g0,hP,gd,hq⟩:=hsp;have KX:K.In s.heap:=e0.mod.kin.keeps λb o e=>(e0.bs b o e).1;have lim:s.heap.NoLimit:=e0.mod.nolimit.keeps λb o e=>(e0.bs b o e).1;have hkind:∀ y∈ps.zip us,(defScope st).names.lookup y.1=Ga .local\/((defScope st).names.lookup y.1=Ga .cell/\((cellsFrom (s.heap.objs.size+1) (defScope st).names []).lookup y.1).isSome=true):=λ⟨n,v⟩ hy=>by
  rcases S.par n (v3 hy).1 with q|q
  .exact .inl q
  .exact .inr ⟨q,vF _ _ _ (.inl q)⟩
 refine codeAny_call_function hr.depth (KX _ _ lk) rfl S.co S.gen rfl (Jj KX hcd) (hb _ _ _ _ ?_);refine wpAny_newFunctionEnv_cells S.kind hkind λψ he s1 x=>?_;subst he;refine⟨lim.keeps x.toInCall.keep,codeAny_func ?_⟩;have I:dE (fN dS P w K mg base ps qual (defScope st) f (.ref c0) A outer s H E) [] (L2.start ps vs) H s1:=yv S hr.hd e0 hl r x;show wpAny _ _ (execs (defBody st) _) _ _ s1;rw[hbd];refine wpAny_execs_cons (wpAny_Return_some (wpAny_mono (zEE (fr:=ps) (L A outer s H E) (λy hy hf=>.inl (outs y hy hf)) hfr (hdef _) [] s1 (L2.start ps vs) H (λv H'=>∃ a cl,v=.ref a/\AB params body scope cl H a H'/\(∀ y a,cl.lookup y=Ga a->(fN dS P w K mg base ps qual (defScope st) f (.ref c0) A outer s H E).env.cells.lookup y=Ga a)/\∀ y∈ps,∃ a,cl.lookup y=Ga a) I
  ⟨qs,hP,gd,λa cl H' M m1 m2=>⟨a,cl,rfl,M,m1,m2⟩⟩) (λu s' z=>?_) λe s' z=>z))
 obtain⟨v,H2,J,rv,a,cl,rfl,M,m1,m2⟩:=z;have⟨name,qual',pm',c,ctv,o,vs',v',x1,x2,x3,x4⟩:=M.ex;have hcs:∀ c',c'∈(cl.filterMap λq=>cl.lookup q.1)->∃ y,cl.lookup y=Ga c':=λc' hc=>by
  have⟨q,_,hq⟩:=vy.mp hc;exact⟨q.1,hq⟩
 have hsc:∀ y c',cl.lookup y=Ga c'->c'∈(cl.filterMap λq=>cl.lookup q.1):=λy c' hy=>vy.mpr ⟨(y,c'),kO hy,hy⟩;generalize (cl.filterMap λq=>cl.lookup q.1)=cs at hcs hsc;have hc:∀ c'∈cs,∃ o v,s'.heap.get? c'=Ga o/\o.data=.cell v:=λc' hc=>by
  have⟨y,hy⟩:=hcs c' hc;have⟨v,o,h1,h2⟩:=J.cell y c' (m1 y c' hy);exact⟨o,v,h1,h2⟩
 have nH:∀ c'∈cs,H2 c'=Gb:=λc' hc=>by
  have⟨y,hy⟩:=hcs c' hc;exact J.freeC y c' (m1 y c' hy)
 have above:∀ c'∈cs,s.heap.objs.size<=c':=λc' hc=>by
  have⟨y,hy⟩:=hcs c' hc;exact J.ok.cab y c' rfl (m1 y c' hy)
 have fa:F a=Gb:=g0.free M.new;generalize hob:(HO.ext (mM a (vq name qual' params body scope cl pm' c ctv)))=ob at x1;have s1':dA F (upd F a ob):=dA.new fa;have s2:dA (upd F a ob) H2:=(g0.trans M.same).upL x1 (by rw[<- hob];trivial);have nF:∀ c'∈cs,(upd F a ob) c'=Gb:=λc' hc=>s2.free (nH c' hc);have sH:dA (upd F a ob) (iZ s'.heap (upd F a ob) cs):=dA.of (yO nF);have cP:tz K (iZ s'.heap (upd F a ob) cs) ps ds cl cs:=by
  refine⟨λj y dj h1 h2=>?_,hsc,m2,zwK hc,λx y c' h1 h2=>J.ok.inj x y c' (m1 x c' h1) (m1 y c' h2),by rw[rr.length,hl],hcs⟩;have⟨c',hc'⟩:=m2 y (jW h1);have⟨v2,e5,rv2⟩:=rr.get h2;have⟨m,hm1,hm2⟩:=J.loc;have kd:=outs _ (hfr y (jW h1)) rfl;have⟨u2,ru2,lk2⟩:=hm2 j y v2 h1 (zBu e5) (.inr (.inl kd));rcases lk2 with ⟨k1,_⟩|⟨_,c2,k2,o2,k3,k4⟩
  .have k1:(defScope st).names.lookup y=Ga .local:=k1;rw[kd] at k1;cases k1
  .have:c2=c':=by have:=m1 y c' hc';rw[k2] at this;cases this;rfl
   subst this;exact⟨c2,o2,u2,v2,hc',hsc y c2 hc',by rw[DH (hsc y c2 hc'),k3];rfl,k4,ru2,rv2.mono (s1'.trans sH)⟩
 have hC:(Fc K params body scope ps ds).C a (iZ s'.heap (upd F a ob) cs) (iZ s'.heap H2 cs):=⟨name,qual',cl,pm',c,ctv,cs,o,vs',v',yO nF _ _ (by rw[dH,hob]),yO nH _ _ x2,x3,x4,cP⟩;have hC2:=zA0 (zwJ (P:=P) (w:=w) (mg:=mg) (base:=base) (k:=kl) SL hbind hbody) hC;have sub:=yO (h:=s'.heap) nH;refine⟨.ref a,iZ s'.heap H2 cs,J.os,J.bare,⟨J.base.keep,J.base.slot,λb o e n hx=>?_,J.base.there,λb xs e=>sub _ _ (J.base.tups b xs e),λb o u e=>sub _ _ (J.base.frzs b o u e),λb ps e=>?_⟩,zA1 hc nH J.hok,rv,hq a _ (iZ s'.heap (upd F a ob) cs) (M.same.trans (dA.of sub)) (s1'.trans sH) (zyH hc nH s2) (λb o h n=>?_) hC2⟩
 .rw[Aw λz=>absurd (jf (jg e) (above b z)) (ka _)];exact J.base.free b o e n hx
 .obtain⟨m,z⟩:=J.base.tbls b ps e;exact⟨m,sub _ _ z⟩
 .by_cases hb2:b∈cs
  .exact e0.hok.fresh (above b hb2)
  .rw[Aw hb2] at h;by_cases hb3:b=a
   .subst hb3;exact M.new
   .rw[dG hb3,n] at h;cases h
end
abbrev lr (cs:List D)(fb:FV):D->Option D:=λd=>fb (.val d::cs.map .val)
open Classical in
noncomputable def xn (it:Nat)(P:Gj)(mk:(D->Option D)->dZ)(fb:FV)(fm:dZ->(D->Option D)->List D->Option D)(ga g:FL):FV:=λψ =>
 if ψ[it]?=Ga (.tab P) then(ga ψ).bind λcs=>(g ψ).bind (fm (mk (lr cs fb)) (lr cs fb)) else Gb
open Classical in
noncomputable def sL (it:Nat)(P:Gj)(mk:(D->Option D)->dZ)(fb:FV)(fx:dZ->(D->Option D)->List D->Option Str)(ga g:FL):FX:=λψ =>
 if ψ[it]?=Ga (.tab P) then(ga ψ).bind λcs=>(g ψ).bind (fx (mk (lr cs fb)) (lr cs fb)) else Gb
def TX {F0:Hp}{cs as:List D}(it:Nat)(FR:Fq X dS kr fr fdr psr (Bv X.K psr.length Pt (gJ X.prog X.w X.K X.mg X.base (kl+1)) fb))(hn:(e1::es1).length=psr.length)(hrR:eP kr X.A)(hmR:X.mg z=Ga (.ref fr))(hkR:jR X.K (.ref fr)=true)(hbR:fS X.K fdr psr [])(haR:PL X (e1::es1) ga)(ha:PL X es g)
  (hgR:Gl X z) (hdbR:Nd z) (heR:Sa X e1 es1) (hplR:Sc X pc es1)
  (he:starEach (.Call (.Name z pz) (e1::es1) [] pc::es) X.env=(false,eval (.Call (.Name z pz) (e1::es1) [] pc) X.env)::starEach es X.env)
  (I:dE X ω σ H s) (r:RS X.K H0 F0 H ψ σ) (hi:ψ[it]?=Ga (.tab Pt)) (e2:ga ψ=Ga cs) (e3:g ψ=Ga as) (pos:Pos) (Q:List V->Hp->Prop)
  (q:∀ a us H2 F2,dA H H2->dA F0 F2->dA F2 H2->eN F0 F2 H->(gJ X.prog X.w X.K X.mg X.base (kl+1) (lr cs fb)).C a F2 H2->dM X.K F2 as us->Q (.ref a::us) H2) :
  wX X (spliced (backTo pos (starEach (.Call (.Name z pz) (e1::es1) [] pc::es) X.env))) (AP X ω σ Q) X.xe s:=by
 refine eY (iV FR hrR hgR hmR hkR hbR .nil (iC (X:=X)) haR.pa hdbR heR hplR) ha.pa he pos ω s σ H Q I ?_;refine⟨H0,F0,ψ,cs,r,e2,λvs H1 F1 g1 f1 fh1 n1 rv=>?_⟩;have⟨_,_,ht⟩:=r.sl it _ hi;obtain⟨ps0,ht,g0⟩:∃ ps,H0 Pt=Ga (.tbl ps)/\fA H0 ps.toList:=ht;have⟨qs,hP,hgd⟩:=(r.h0.trans g1) Pt _ ht;have hl:(vs++([]:List V)).length=psr.length:=by rw[jJ,<- rv.length,haR.len ψ cs e2,hn]
 refine⟨hl,F1,cs,qs,by rwa[jJ],fh1,hP,hgd g0,λa H2 F2 g2 f2 fh2 n2 hC=>?_⟩;have r2:=(r.grow g1 f1 fh1 n1).grow g2 f2 fh2 n2;exact⟨H0,F2,ψ,as,r2,e3,λus H3 F3 g3 f3 fh3 n3 rvs=>q a us H3 F3 ((g1.trans g2).trans g3) ((f1.trans f2).trans f3) fh3 ((n1.trans n2 g1).trans n3 (g1.trans g2)) ((gJ X.prog X.w X.K X.mg X.base (kl+1) (lr cs fb)).mono a F2 F3 H2 H3 f3 g3.fz hC) rvs⟩
def zDK (it:Nat)(FR:Fq X dS kr fr fdr psr (Bv X.K psr.length Pt (gJ X.prog X.w X.K X.mg X.base (kl+1)) fb))(hrR:eP kr X.A)(hmR:X.mg z=Ga (.ref fr))(hkR:jR X.K (.ref fr)=true)(hbR:fS X.K fdr psr [])(haR:PL X (e1::es1) ga)
  (F:∀ φ,Fq X dS k f fd ps (yR X.K 0 (gJ X.prog X.w X.K X.mg X.base (kl+1) φ) (fm (gJ X.prog X.w X.K X.mg X.base (kl+1) φ) φ))) (hr:eP k X.A) (hm:X.mg x=Ga (.ref f)) (hk:jR X.K (.ref f)=true) (hb:fS X.K fd ps []) (ha:PL X es g) (hn:(e1::es1).length=psr.length:=by rfl)
  (hgR:Gl X z:=by rfl) (hdbR:Nd z:=by decide) (heR:Sa X e1 es1:=by rfl) (hplR:Sc X pc es1:=by rfl)
  (hg:Gl X x:=by rfl) (hdb:Nd x:=by decide) (he:starEach (.Call (.Name z pz) (e1::es1) [] pc::es) X.env=(false,eval (.Call (.Name z pz) (e1::es1) [] pc) X.env)::starEach es X.env:=by rfl) (hpl:Sc X pos es:=by rfl) :
  PV X (.Call (.Name x p) (.Call (.Name z pz) (e1::es1) [] pc::es) [] pos) (xn it Pt (gJ X.prog X.w X.K X.mg X.base (kl+1)) fb fm ga g):=by
 intro ω s σ H Q I h;obtain⟨H0,F0,ψ,d,r,e,q⟩:=h;unfold xn at e;split at e;rotate_left
 .cases e
 rename_i hi;have⟨cs,e2,e⟩:=dz e;have⟨as,e3,e4⟩:=dz e;refine wpAny_Call_Name_kw (gK I hg hm ?_ hdb);refine uB (h₀:=X.base) I.ok.mod.kin hk (eV (TX it FR hn hrR hmR hkR hbR haR ha hgR hdbR heR hplR he I r hi e2 e3 pos (λvs H2=>yR X.K 0 (gJ X.prog X.w X.K X.mg X.base (kl+1) (lr cs fb)) (fm (gJ X.prog X.w X.K X.mg X.base (kl+1) (lr cs fb)) (lr cs fb)) (vs++[]) H2 Q E0) λa us H2 F2 g2 f2 fh2 n2 hC rv=>?_) λus s1 ⟨vs,H2,I2,rv,q2⟩=>⟨I2.kIn,wK (F _) hr hb .nil iC I2 rv q2⟩) he hpl;refine⟨F2,a,us,as,d,by rw[jJ];rfl,hC,fh2,rv,e4,λv H3 F3 g3 f3 fh3 n3 rv3=>q v H3 F3 (g2.trans g3) (f2.trans f3) fh3 (n2.trans n3 g2) rv3⟩
def zBv (it:Nat)(FR:Fq X dS kr fr fdr psr (Bv X.K psr.length Pt (gJ X.prog X.w X.K X.mg X.base (kl+1)) fb))(hrR:eP kr X.A)(hmR:X.mg z=Ga (.ref fr))(hkR:jR X.K (.ref fr)=true)(hbR:fS X.K fdr psr [])(haR:PL X (e1::es1) ga)
  (F:∀ φ,Fq X (fM X.prog X.w) k f fd ps (xL X.K X.mg (gJ X.prog X.w X.K X.mg X.base (kl+1) φ) (fx (gJ X.prog X.w X.K X.mg X.base (kl+1) φ) φ))) (hPs:gU (fM X.prog X.w) X E) (hr:eP k X.A) (hm:X.mg x=Ga (.ref f)) (hk:jR X.K (.ref f)=true) (hb:fS X.K fd ps []) (ha:PL X es g) (hn:(e1::es1).length=psr.length:=by rfl)
  (hgR:Gl X z:=by rfl) (hdbR:Nd z:=by decide) (heR:Sa X e1 es1:=by rfl) (hplR:Sc X pc es1:=by rfl)
  (hg:Gl X x:=by rfl) (hdb:Nd x:=by decide) (he:starEach (.Call (.Name z pz) (e1::es1) [] pc::es) X.env=(false,eval (.Call (.Name z pz) (e1::es1) [] pc) X.env)::starEach es X.env:=by rfl) (hpl:Sc X pos es:=by rfl) :
  me X E (.Call (.Name x p) (.Call (.Name z pz) (e1::es1) [] pc::es) [] pos) (sL it Pt (gJ X.prog X.w X.K X.mg X.base (kl+1)) fb fx ga g):=by
 intro ω s σ H Q I h;obtain⟨H0,F0,ψ,cn,r,e,w⟩:=h;unfold sL at e;split at e;rotate_left
 .cases e
 rename_i hi;have⟨cs,e2,e⟩:=dz e;have⟨as,e3,e4⟩:=dz e;refine wpAny_Call_Name_kw (gK I hg hm ?_ hdb);refine uB (h₀:=X.base) I.ok.mod.kin hk (eV (TX it FR hn hrR hmR hkR hbR haR ha hgR hdbR heR hplR he I r hi e2 e3 pos (λvs H2=>xL X.K X.mg (gJ X.prog X.w X.K X.mg X.base (kl+1) (lr cs fb)) (fx (gJ X.prog X.w X.K X.mg X.base (kl+1) (lr cs fb)) (lr cs fb)) (vs++[]) H2 Q E) λa us H2 F2 g2 f2 fh2 n2 hC rv=>?_) λus s1 ⟨vs,H2,I2,rv,q2⟩=>⟨I2.kIn,wK (F _) hr hb .nil hPs I2 rv q2⟩) he hpl;refine⟨F2,a,us,as,cn,by rw[jJ],hC,fh2,rv,e4,w.dn (r.h0.trans g2)⟩
section
variable {X:Cx}{E:XK}{k:Nat}{f:Gj}{fd:Gi}{ps:List Str}{x:Str}{p pos:Pos}{es:List Expr}{g:FL}{c:dZ}
def zBw (i:Nat){py:Pos}{fx:List D->Option Str}(F:Fq X (fM X.prog X.w) k f fd ps (xL X.K X.mg c fx))(hP:gU (fM X.prog X.w) X E)(hr:eP k X.A)(hm:X.mg x=Ga (.ref f))(hk:jR X.K (.ref f)=true)(hb:fS X.K fd ps [])(ha:PL X es g)
  (hN:X.N[i]?=Ga y:=by rfl) (hv:lK X.env.scope y:=by ac_rfl) (hd:Nd y:=by decide) (hcd:(y==("__classdict__":Str))=false:=by decide)
  (hg:Gl X x:=by rfl) (hdb:Nd x:=by decide) (he:starEach (.Name y py::es) X.env=(false,eval (.Name y py) X.env)::starEach es X.env:=by rfl) (hpl:Sc X pos es:=by rfl) :
  me X E (.Call (.Name x p) (.Name y py::es) [] pos) (GZ i c g fx):=by
 refine fG (iV F hr hg hm hk hb .nil hP (eY (gz hN hv hd hcd) ha.pa he) hdb he hpl) λσ H Q=>?_;clear F;rintro⟨H0,F,ψ,cn,r,e,w⟩;unfold GZ at e;split at e;rotate_left
 .cases e
 rename_i hi;have⟨ds,e1,e2⟩:=dz e;have⟨u,z1,a,z2,hC⟩:=r.sl i _ hi;subst z2;exact⟨.ref a,z1,H0,F,ψ,ds,r,e1,λus H1 F1 g1 f1 fh1 n1 rv=>⟨F1,a,us,ds,cn,by rw[jJ],c.mono a F F1 H H1 f1 g1.fz hC,fh1,rv,e2,w.dn (r.h0.trans g1)⟩⟩
structure GTp (K:ja)(mg:Str->Option Gg)(x:Str)(ds:List D):Prop where
 e:∃ a,mg x=Ga (.ref a)/\∀ F,eU K F (.tuple ds) (.ref a)
def Sf(G:GTp X.K X.mg x ds)(hg:Gl X x:=by rfl)(hdb:Nd x:=by decide):PV X (.Name x p) (λ_=>Ga (.tuple ds)):=by
 intro ω s σ H Q I h;obtain⟨H0,F,ψ,d,r,e,q⟩:=h;cases e;have⟨a,m,rep⟩:=G.e;exact gK I hg m ⟨.ref a,H,I,rfl,q _ H F (.refl _) (.refl _) r.fh (.refl _ _) (rep F)⟩ hdb
end
def Al (H:Hp)(Pt:Gj):Prop:=∃ ps,H Pt=Ga (.tbl ps)/\fA H ps.toList
def Al.mono(t:Al H Pt)(s:dA H H'):Al H' Pt:=by
 obtain⟨ps,h,g⟩:=t;have⟨qs,h2,g2⟩:=s Pt _ h;exact⟨qs,h2,g2 g⟩
def RS.tbH(r:RS K H0 F H ψ σ)(h:ψ[it]?=Ga (.tab Pt)):Al H Pt:=by
 have⟨_,_,ht⟩:=r.sl it _ h;exact Al.mono ht r.h0
def wT (Pt:Gj)(sp:Sp):Sp:=λvs H Q E=>Al H Pt/\sp vs H Q E
def KC (n:Nat)(Pt:Gj)(ψ:En):En:=ψ.set (n-1) (.tab Pt)
def RS.tab(r:RS K H F H ψ (L2.start N vs))(hN:0<N.length)(ht:Al H Pt):RS K H F H (KC N.length Pt ψ) (L2.start N vs):=by
 refine r.putN (u:=((L2.start N vs)[N.length-1]?).getD Gb) ?_ ht rfl;have hl:N.length-1<(L2.start N vs).length:=by
  unfold L2.start;rw[jA,jk,uc];omega
 rw[jn hl];rfl
def rT(n:Nat)(Pt:Gj)(g:En->α):En->α:=λψ=>g (KC n Pt ψ)
open Classical in
noncomputable def gi(it:Nat)(Pt:Gj)(g:En->Option α):En->Option α:=λψ=>if ψ[it]?=Ga (.tab Pt) then g ψ else Gb
def yj{g:En->Option α}{a:α}(h:gi it Pt g ψ=Ga a):ψ[it]?=Ga (.tab Pt)/\g ψ=Ga a:=by
 unfold gi at h;split at h
 .exact⟨by assumption,h⟩
 .cases h
variable {g:FS}{fm:Sl->List D->Option D}
def Ch(hN0:0<N.length)(F:le K x qual st f fd)(S:dD N ps (defScope st))(hpn:ps.length<=N.length)
  (hb:He dS P w K mg base N qual st f k λX _=>fT X.nox (defBody st) g) :
  dJ P w K mg base dS (k+1) f fd ps (wT Pt (pf K C (wk ps.length N.length (rT N.length Pt g)))):=by
 refine F.ok S (λvs H Q E h=>?_) (λcdv A outer s H vs Q E hr h=>?_)
 .obtain⟨ht,F0,p,dx,r,ws,kvs,us,ds,d,rfl,_,_,_,_,rr,e,_⟩:=h;have⟨c,_⟩:=Gw e;rwa[jr,<- rr.length]
 .obtain⟨ht,F0,p,dx,r,ws,kvs,us,ds,d,rfl,h1,h2,rk,g0,rr,e,q⟩:=h;have⟨c,e1⟩:=Gw e;refine⟨_,hb hr,H,F0,_,.rt d,(RS.startD (by rwa[<- rr.length,c]) g0 rr h1 h2 rk).tab hN0 ht,e1,λv H' F' g f fh n rv=>q v H' F' g f fh n rv⟩
section
variable {P:Program}{w:World}{K:ja}{mg:Str->Option Gg}{base:Heap}{x qual:Str}{st:Stmt}{f C:Gj}{fd:Gi}{N ps:List Str}{k:Nat}{kx:FX}
variable {CX:mz}
def NM(hN0:0<N.length)(F:le K x qual st f fd)(S:dD N ps (defScope st))(hpn:ps.length<=N.length)
  (hb:He CX P w K mg base N qual st f k λX E=>my X E (defBody st) kx) :
  dJ P w K mg base CX (k+1) f fd ps (wT Pt (wq K mg C (yL ps.length N.length (rT N.length Pt kx)))):=by
 obtain⟨oc,od,kV,doc,pm,an,cdv,ct,osl,rfl,lk,hcd⟩:=F.ex;refine rl lk hcd S (λvs H Q E h=>?_) λA outer s H vs Q E hr h=>?_
 .obtain⟨ht,F0,p,dx,r,ws,kvs,us,ds,c,rfl,_,_,_,_,rr,e,_⟩:=h;rw[jr,<- rr.length];exact(pj e).1
 .obtain⟨ht,F0,p,dx,r,ws,kvs,us,ds,c,rfl,h1,h2,rk,g0,rr,e,w⟩:=h;exact⟨_,hb hr,H,F0,_,c,(RS.startD (by rwa[<- rr.length,(pj e).1]) g0 rr h1 h2 rk).tab hN0 ht,(pj e).2,w⟩
def Xl(hN0:0<N.length)(F:le K x qual st f fd)(S:dD N ps (defScope st))
  (hb:He CX P w K mg base N qual st f k λX E=>my X E (defBody st) kx) :
  dJ P w K mg base CX (k+1) f fd ps (wT Pt (lA K mg (lq ps.length N.length (rT N.length Pt kx)))):=by
 obtain⟨oc,od,kV,doc,pm,an,cdv,ct,osl,rfl,lk,hcd⟩:=F.ex;refine rl lk hcd S (λvs H Q E h=>?_) λA outer s H vs Q E hr h=>?_
 .obtain⟨ht,F0,ds,c,_,r,e,_⟩:=h;rw[<- r.length];exact(pj e).1
 .obtain⟨ht,F0,ds,c,g0,r,e,w⟩:=h;exact⟨_,hb hr,H,F0,_,c,(RS.start g0 r).tab hN0 ht,(pj e).2,w⟩
end
def Ra (it:Nat)(hl:([("runs",V.ref 0)]:List (Str×V)).lookup m=Gb)(h:PE X e0 (tu C m (wT Pt (pf X.K C fm)) [] E (xN i) (tL X.K ga))):PV X e0 (gi it Pt (eW i C fm ga)):=by
 refine fG h λσ H Q=>?_;rintro⟨H0,F,ψ,d,r,e,q⟩;have hi:=(yj e).1;replace e:=(yj e).2;unfold eW at e;split at e;rotate_left
 .cases e
 rename_i C' p' r' kvs z;split at e;rotate_left
 .cases e
 rename_i ec;subst ec;have⟨ds,e1,e2⟩:=dz e;have⟨s1,dx,ws,h1,h2,rr⟩:=r.dsk z;refine⟨.ref p',s1,p',dx,_,rfl,h1,CL hl _,H0,F,ψ,ds,r,e1,λvs H1 F1 g1 f1 fh1 n1 rv=>?_⟩;refine⟨r.tbH hi |>.mono g1,F1,p',dx,r',ws,kvs,vs,ds,d,by rw[jJ],g1 _ _ h1,g1 _ _ h2,rr.mono f1,fh1,rv,e2,λv H2 F2 g2 f2 fh2 n2 rv2=>?_⟩;exact q v H2 F2 (g1.trans g2) (f1.trans f2) fh2 (n1.trans n2 g1) rv2
def Yb (it i:Nat){pl:Sem Bool}{fx:Sl->List D->Option Str}(hxe:∀ e s,¬X.xe e s)(c:rW X.K C)(hm:zP X.K C m f)(hl:([("runs",V.ref 0)]:List (Str×V)).lookup m=Gb)(F:Fq X (fM X.prog X.w) k f fd ps (wT Pt (wq X.K X.mg C fx)))(hr:eP k X.A)(hb:fS X.K fd ps [])(ha:PL X (e::es) ga)
  (hN:X.N[i]?=Ga x:=by rfl) (hv:lK X.env.scope x:=by ac_rfl) (hd:Nd x:=by decide)
  (hcd:(x==("__classdict__":Str))=false:=by decide)
  (hst:Sa X e es:=by rfl) (hpl:Sc X pos es:=by rfl)
  (ht:eval (.Call (.Attribute (.Name x p) m apos) (e::es) [] pos) X.env=(do
   let ov <- eval (.Name x p) X.env
   standAt apos.atName
   let (f,first) <- holding [ov] (getMethod ov m pl)
   callWith pos f first (backTo pos (starEach (e::es) X.env)) (backToKw pos (keywordEach [] X.env))):=by rfl) :
  PM X (.Call (.Attribute (.Name x p) m apos) (e::es) [] pos) (gi it Pt (iM i C fx ga)):=by
 intro ω s σ H H0 F0 ψ cc Ξ Q I r e w;have⟨p',r',kvs,ds,z,e1,e2⟩:=UK (yj e).2;have⟨s1,dx,ws,h1,h2,rr⟩:=r.dsk z;refine qS (pl:=pl) (wpAny_mono (gz hN hv hd hcd ω s σ H (λx H1=>x=.ref p'/\H1=H) I ⟨.ref p',s1,rfl,rfl⟩) (λu s1 q=>?_) λe s z=>(hxe e s z).elim) ht;obtain⟨x',H1,I1,rx,rfl,rfl⟩:=q;obtain rfl:u=jH p':=rx;refine wu I1 h1 c hm (CL hl _) ?_;refine uB (first:=[.ref p']) (h₀:=X.base) I.ok.mod.kin hm.kp (wpAny_mono (ha.pa pos ω s1 σ H1 (λvs H2=>∃ F1,dM X.K F1 ds vs/\dA F0 F1/\dA F1 H2/\dA H1 H2) I1 ⟨H0,F0,ψ,ds,r,e1,λvs H1 F1 g1 f1 fh1 n1 rv=>⟨F1,rv,f1,fh1,g1⟩⟩) (λus s2 q=>?_) λe s z=>(hxe e s z).elim) hst hpl;obtain⟨vs,H2,I2,rv,F1,rr1,f1,fh1,g1⟩:=q;refine⟨I2.kIn,?_⟩;obtain⟨⟨C',hC⟩,w2⟩:=w;have sp:wT Pt (wq X.K X.mg C fx) (.ref p'::vs) H2 (λ_ _=>False) (λcl _ H'=>cl=.ref C'/\dA H2 H'):=⟨r.tbH (yj e).1 |>.mono g1,F1,p',dx,r',ws,kvs,vs,ds,cc,rfl,g1 _ _ h1,g1 _ _ h2,rr.mono f1,fh1,rr1,e2,C',hC,λH' q=>⟨rfl,q⟩⟩;have rv':eC (V.ref p'::vs) (jH p'::us):=.cons rfl rv;have hln:((jH p'::us)++[]).length=ps.length:=by rw[jJ,<- rv'.length];exact F.len _ _ _ _ sp
 refine wpAny_call (codeAny_mono (F.run X.A X.stack s2 H2 ⟨.ref p'::us,[]⟩ ((.ref p'::us)++[]) (.ref p'::vs) (λ_ _=>False) _ hr I2.env0 (hb s2 (.ref p'::us) I2.kIn hln) (by rwa[jJ]) sp) λr s' hq=>?_);cases r with
 | error e =>
  obtain⟨x,C2,H',rfl,os,bare,u,hok,t,hE,same⟩:=hq;cases hE;exact w2 _ s2 H2 x H' s' hC I2 ⟨os,bare,u,hok,t⟩ (g1.trans same)
 | ok fl =>
  cases fl with
  | ret u=>have⟨_,_,_,_,z⟩:=I2.after hq;exact z.elim
  | next=>exact False.elim hq
  | brk=>exact False.elim hq
  | cont=>exact False.elim hq
def zBx (it:Nat){g:FL}{fx:List D->Option Str}(F:Fq X (fM X.prog X.w) k f fd ps (wT Pt (lA X.K X.mg fx)))(hP:gU (fM X.prog X.w) X E)(hr:eP k X.A)(hm:X.mg x=Ga (.ref f))(hk:jR X.K (.ref f)=true)(hb:fS X.K fd ps [])(ha:PL X (e::es) g)(hg:Gl X x:=by rfl)
  (hdb:Nd x:=by decide) (he:Sa X e es:=by rfl) (hpl:Sc X pos es:=by rfl) :
  me X E (.Call (.Name x p) (e::es) [] pos) (gi it Pt (iz g fx)):=by
 refine fG (iV F hr hg hm hk hb .nil hP ha.pa hdb he hpl) λσ H Q=>?_;rintro⟨H0,F,ψ,c,r,e,w⟩;have hi:=(yj e).1;replace e:=(yj e).2;have⟨ds,e1,e2⟩:=dz e;exact⟨H0,F,ψ,ds,r,e1,λvs H1 F1 g1 f1 fh1 n1 rv=>⟨r.tbH hi |>.mono g1,F1,ds,c,fh1,by rwa[jJ],e2,w.dn (r.h0.trans g1)⟩⟩
def Xj (F:le K x qual st f fd)(hc:fd.code=.ref c0)(S:dD ps ps (defScope st))(SL:sZ xl ps scope)
  (hbd:defBody st=[.Return (Ga (.Lambda params body scope lpos)) rp])
  (L:∀ (A:Around) (outer:List Env) (s:Gh) (H:Hp) (E:XK),zC (fN dS P w K mg base ps qual (defScope st) f (.ref c0) A outer s H E) c0 Pt)
  (outs:∀ y∈scope.names,y.2=.free->(defScope st).names.lookup y.1=Ga .cell) (hfr:∀ y∈ps,(y,jZ)∈scope.names)
  (hbind:∀ (name qual:Str) (cl:List (Str×Gj)) (pm:Gg) (c:Gj) (ctv u:Gg),bindArgs (vI name qual params body scope cl pm (.ref c) ctv) ⟨[u],[]⟩=pure [(xl,u)])
  (hbody:∀ (qual:Str) (f:Gj) (cd:Gg) (cl:List (Str×Gj)) (A:Around) (outer:List Env) (s:Gh) (H:Hp),eP kl (A.deeper (uW qual scope s.heap.objs.size f cd cl))->PV (tm P w K mg base (xl::ps) qual scope f cd cl A outer s H) body fb)
  (hdef:∀ ψ:Env,defaultsOf params ψ=([],[]):=by intro _;rfl) :
  dJ P w K mg base dS (k+1) f fd ps (Bv K ps.length Pt (gJ P w K mg base (kl+1)) fb):=by
 obtain⟨oc,od,kV,doc,pm,an,cdv,ct,osl,rfl,lk,hcd⟩:=F.ex;have e:cdv=.ref c0:=hc;subst e;exact okL lk hcd S SL hbd L outs hfr hbind hbody hdef
def zFJ(m:mg x=Ga (.ref a))(lk:K.lookup a=Ga ⟨.type "tuple",dc,.seq its n,sl⟩)(hz:its.size<=sizeLine)(hv:eC xs its.toList)(hr:∀ F,dM K F ds xs):GTp K mg x ds :=
 ⟨a,m,λF=>.tup (.inr ⟨_,its,n,lk,rfl,rfl,hz,hv⟩) (hr F)⟩
def KO (f:FL)(t:FT)(g:FS)(k:FX):FX:=λψ=>(f ψ).bind λds=>rV t g k ds ψ
def Mz:FV:=λ_=>Gb
def Yj:PV X e Mz:=λω s σ H Q I h=>by
 obtain⟨H0,F,ψ,d,r,e,q⟩:=h;cases e
def zDM{k:Gj->FS}(ψ:En)(o:gY)(h:mL i C k ψ=Ga o):∃ d,o=.rt d:=by
 unfold mL at h;split at h
 .cases h;exact⟨_,rfl⟩
 .cases h
variable {body:List Stmt}
def zFK (hxe:∀ e s,¬X.xe e s)(hst:X.stack=X.env::X.outer/\X.env.frame=Ga X.env.locals)(hb:fT X body g)(hB:X.mg B=Ga (.ref Ba))(hbB:u5 X.K (.ref Ba) (.type "BaseException")=Ga true)(hg:Gl X B:=by rfl)
  (hdb:Nd B:=by decide):im X (.Try body [.ExceptHandler (Ga (.Name B Bp)) Gb (b₀::suite) hp] [] [] pos) g :=
 zFs (k:=ib) (cs:=[]) (gs:=λ_=>g) hxe hst hb (λ_ _ _ _ _ _ _ _ _ _ _ _ e _=>by cases e) hB hbB (λc h=>by cases h) (λc h=>by cases h) hg hdb
def Dq (it i:Nat)(F:Fq X dS k f fd ps (wT Pt (pf X.K C fm)))(hr:eP k X.A)(hm:X.mg y=Ga (.ref f))(hk:jR X.K (.ref f)=true)(hb:fS X.K fd ps [])(ha:PL X es ga)(hg:Gl X y:=by rfl)
  (hN:X.N[i]?=Ga x:=by rfl) (hv:lK X.env.scope x:=by ac_rfl) (hd:Nd x:=by decide)
  (hcd:(x==("__classdict__":Str))=false:=by decide)
  (hdb:Nd y:=by decide) (hst:starEach (.Name x p::es) X.env=(false,eval (.Name x p) X.env)::starEach es X.env:=by rfl) (hpl:Sc X pos es:=by rfl) :
  PV X (.Call (.Name y p2) (.Name x p::es) [] pos) (gi it Pt (eW i C fm ga)):=by
 refine fG (iV F hr hg hm hk hb .nil iC (eY (gz hN hv hd hcd) ha.pa hst) hdb hst hpl) λσ H Q=>?_;clear F;rintro⟨H0,F,ψ,d,r,e,q⟩;have hi:=(yj e).1;replace e:=(yj e).2;unfold eW at e;split at e;rotate_left
 .cases e
 rename_i C' p' r' kvs z;split at e;rotate_left
 .cases e
 rename_i ec;subst ec;have⟨ds,e1,e2⟩:=dz e;have⟨s1,dx,ws,h1,h2,rr⟩:=r.dsk z;refine⟨.ref p',s1,H0,F,ψ,ds,r,e1,λvs H1 F1 g1 f1 fh1 n1 rv=>?_⟩;show wT Pt (pf X.K C' fm) ((.ref p'::vs)++[]) H1 Q _;rw[jJ];refine⟨r.tbH hi |>.mono g1,F1,p',dx,r',ws,kvs,vs,ds,d,rfl,g1 _ _ h1,g1 _ _ h2,rr.mono f1,fh1,rv,e2,λv H2 F2 g2 f2 fh2 n2 rv2=>?_⟩;exact q v H2 F2 (g1.trans g2) (f1.trans f2) fh2 (n1.trans n2 g1) rv2
end T3
set_option maxHeartbeats 4000000
namespace T3
open PySem PySem.Spec PyProof.Rows L2
def fO {N P:List Str}{sc:Scope}(h:sc.kind=.function/\sc.isCoroutine=false/\sc.isGenerator=false/\N.Nodup/\N.take P.length=P/\(∀ x∈P,sc.names.lookup x=Ga .local\/sc.names.lookup x=Ga .cell)/\∀ y∈sc.names,y.2≠.free:=by nofun):dD N P sc:=⟨h.1,h.2.1,h.2.2.1,h.2.2.2.1,h.2.2.2.2.1,h.2.2.2.2.2.1,h.2.2.2.2.2.2⟩
variable {x:Str}{K:ja}{P:Program}{base:Heap}{f:Gj}{fd:Gi}{fm:List D->Option D}{k j:Nat}{mg:Str->Option Gg}{ps:List Str}{w:World}{X:Cx}{e:Expr}{es:List Expr}{g:FL}{p pos:Pos}{st:Stmt}
def cO {N P N':List Str}{osc osc' scope:Scope}{fr:List Str}{ix:List Nat}(_:dD N P osc)(h:scope.kind=.function/\(∀ y∈scope.names,y.2≠.cell)/\(∀ y∈scope.names,y.2=.local->scope.names.lookup y.1=Ga .local)/\scope.names.lookup x=Ga .local/\(∀ y∈scope.names,y.2=.free->osc.names.lookup y.1=Ga .cell\/osc.names.lookup y.1=Ga .free)/\(∀ y∈fr,scope.names.lookup y=Ga .free)/\fr.length=ix.length/\(∀ p∈ix.zip fr,N[p.1]?=Ga p.2)/\ix.Nodup:=by nofun)(e1:N=N':=by rfl)(e2:osc=osc':=by rfl):mV N' osc' scope x fr ix:=by
 subst e1 e2;obtain⟨h1,h2,h3,h4,h5,h6,h7,h8,h9⟩:=h;exact⟨h1,h2,h3,h4,h5,h6,h7,λj i y a b=>h8 (i,y) (jW (List.getElem?_zip_eq_some.mpr ⟨a,b⟩)),h9⟩
def cV{fm':List D->Option D}(h:dJ P w K mg base dS k f fd ps (fj K fm'))(e:fm'=fm):dJ P w K mg base dS k f fd ps (fj K fm):=e▸h
def cW{fm fm':List D->Option (List D)}(h:dJ P w K mg base dS k f fd ps (yw K fm'))(e:fm'=fm):dJ P w K mg base dS k f fd ps (yw K fm):=e▸h
def vc(F:dJ X.prog X.w X.K X.mg X.base dS k f fd ps (fj X.K fm))(W:Fn X.K X.mg x st ps f fd)(hr:eP j X.A)(ha:PL X (e::es) g)(hk:k<=j:=by decide)(hg:Gl X x:=by rfl)
  (hdb:(x==("__debug__":Str))=false:=by decide) (he:starEach (e::es) X.env=(false,eval e X.env)::starEach es X.env:=by rfl) (hpl:(backTo pos (starEach es X.env)).any (·.1)=false:=by rfl) :
  PV X (.Call (.Name x p) (e::es) [] pos) (λψ=>(g ψ).bind fm):=Uu F (hr.mono hk) W.m W.F.kp W.b ha hg hdb he hpl
end T3
noncomputable section
namespace Law
noncomputable section
open PySem PySem.Spec PyProof.Rows L2 T3
abbrev Oo:Stmt:=top 1
abbrev SS:Stmt:=top 2
abbrev Rz:Stmt:=top 3
abbrev TL:Stmt:=top 4
abbrev QT:Stmt:=top 5
abbrev VA:Stmt:=top 19
abbrev UV:Stmt:=top 20
abbrev Tn:Stmt:=top 21
abbrev QC:Stmt:=top 22
abbrev Ot:Stmt:=top 23
abbrev Vy:Stmt:=top 24
abbrev Si:Stmt:=top 25
abbrev Sk:Stmt:=top 26
abbrev OQ:Stmt:=top 29
abbrev Sj:Stmt:=top 30
abbrev Sh:Stmt:=top 31
abbrev Ut:Stmt:=top 32
abbrev Th:Stmt:=top 33
abbrev Vi:Stmt:=top 35
abbrev QD:Stmt:=top 36
abbrev OX:Stmt:=top 37
abbrev Qh:Stmt:=top 38
abbrev TD:Stmt:=top 39
abbrev Rg:Stmt:=top 40
abbrev OJ:Stmt:=top 41
abbrev PR:Stmt:=top 42
abbrev SY:Stmt:=top 43
abbrev VL:Stmt:=top 44
abbrev Qr:Stmt:=top 45
abbrev Oi:Stmt:=top 46
abbrev PQ:Stmt:=top 47
abbrev UM:Stmt:=top 54
abbrev Qk:Stmt:=top 53
abbrev QG:Stmt:=top 56
abbrev VO:Stmt:=top 57
abbrev QM:Stmt:=top 58
abbrev Tf:Stmt:=top 59
abbrev Td:Stmt:=top 60
abbrev OC:Stmt:=top 61
abbrev Rm:Stmt:=top 63
abbrev Qb:Stmt:=top 71
abbrev UR:Stmt:=top 73
abbrev Vg:Stmt:=top 74
abbrev Vp:Stmt:=top 75
abbrev Ua:Stmt:=top 77
abbrev VQ:Stmt:=top 78
abbrev Uz:Stmt:=top 79
abbrev UQ:Stmt:=top 80
abbrev QE:Stmt:=top 90
abbrev RA:Stmt:=top 94
abbrev OL:Stmt:=top 95
abbrev Sq:Stmt:=top 96
abbrev OS:Stmt:=top 97
abbrev OA:Stmt:=top 98
abbrev Wh:Stmt:=top 99
abbrev Tt:Stmt:=top 100
abbrev RQ:Stmt:=top 107
abbrev QN:Stmt:=top 108
abbrev UW:Stmt:=top 109
abbrev OH:Stmt:=top 110
abbrev Op:Stmt:=top 111
abbrev Qc:Stmt:=top 112
abbrev RK:Stmt:=top 113
abbrev Wo:Stmt:=top 114
abbrev RM:Stmt:=top 117
abbrev OU:Stmt:=top 119
abbrev Pu:Stmt:=top 121
abbrev TU:Stmt:=top 125
abbrev Vl:Stmt:=top 127
abbrev Vk:Stmt:=top 128
abbrev RT:Stmt:=top 129
abbrev RI:Stmt:=top 130
abbrev Te:Stmt:=top 131
abbrev TZ:Stmt:=top 132
abbrev SA:Stmt:=top 133
abbrev RY:Stmt:=top 134
abbrev IX:Stmt:=inClass (top 135) 0
abbrev Ir:Stmt:=inClass (top 135) 2
abbrev AE:Stmt:=inClass (top 135) 1
abbrev Uc:Stmt:=top 137
abbrev Hi:Stmt:=top 138
abbrev CJ:Stmt:=top 139
abbrev CQ:Stmt:=top 140
abbrev Eo:Stmt:=top 141
abbrev CK:Stmt:=top 142
abbrev CY:Stmt:=top 143
abbrev VC:Stmt:=top 144
abbrev Od:Stmt:=top 145
noncomputable def hV:List (Str×D):=[("run",.tuple [.str "name",.str "text"]),("show",.tuple [.str "name"]),("waste",.tuple [.str "name"]),("close",.tuple [.str "name",.str "bound"]),("know",.tuple [.str "name",.str "hand",.str "rounds"]),("choose",.tuple [.str "name",.str "rule",.str "bound",.str "rounds"]),("alike",.tuple [.str "name",.str "other",.str "rounds"]),("chain",.tuple [.str "name",.str "bound",.str "rounds",.str "number"]),("break",.tuple [.str "name",.str "rule",.str "bound",.str "rounds"])]
def MR:List (Str×D):=[("hand",.int 4),("bound",.int 3),("rounds",.int 4)]
set_option genInjectivity false in
structure QK where
 a59:Gj
 d59:Gi
 a71:Gj
 d71:Gi
 a55:Gj
 d55:Gi
 a67:Gj
 d67:Gi
 a54:Gj
 d54:Gi
 a45:Gj
 d45:Gi
 a15:Gj
 d15:Gi
 a53:Gj
 d53:Gi
 a66:Gj
 d66:Gi
 a39:Gj
 d39:Gi
 a74:Gj
 d74:Gi
 a27:Gj
 d27:Gi
 a68:Gj
 d68:Gi
 a13:Gj
 d13:Gi
 a79:Gj
 d79:Gi
 a31:Gj
 d31:Gi
 a80:Gj
 d80:Gi
 a81:Gj
 d81:Gi
 a17:Gj
 d17:Gi
 a_q7:Gj
 d7:Gi
 a62:Gj
 d62:Gi
 a50:Gj
 d50:Gi
 a34:Gj
 d34:Gi
 a58:Gj
 d58:Gi
 a52:Gj
 d52:Gi
 a38:Gj
 d38:Gi
 a78:Gj
 d78:Gi
 a_q10:Gj
 d10:Gi
 a56:Gj
 d56:Gi
 a24:Gj
 d24:Gi
 a47:Gj
 d47:Gi
 a77:Gj
 d77:Gi
 a_q0:Gj
 d_q0:Gi
 a41:Gj
 d41:Gi
 a_q6:Gj
 d6:Gi
 a36:Gj
 d36:Gi
 a61:Gj
 d61:Gi
 a_q4:Gj
 d4:Gi
 a69:Gj
 d69:Gi
 a_q1:Gj
 d_q1:Gi
 a76:Gj
 d76:Gi
 a23:Gj
 d23:Gi
 a_q3:Gj
 d_q3:Gi
 a57:Gj
 d57:Gi
 a42:Gj
 d42:Gi
 a21:Gj
 d21:Gi
 a35:Gj
 d35:Gi
 a64:Gj
 d64:Gi
 a75:Gj
 d75:Gi
 a37:Gj
 d37:Gi
 a48:Gj
 d48:Gi
 a_q8:Gj
 d8:Gi
 a12:Gj
 d12:Gi
 a_q5:Gj
 d5:Gi
 a32:Gj
 d32:Gi
 a51:Gj
 d51:Gi
 a70:Gj
 d70:Gi
 a33:Gj
 d33:Gi
 a44:Gj
 d44:Gi
 a18:Gj
 d18:Gi
 a26:Gj
 d26:Gi
 a46:Gj
 d46:Gi
 a60:Gj
 d60:Gi
 a49:Gj
 d49:Gi
 a_q2:Gj
 d_q2:Gi
 a19:Gj
 d19:Gi
 a83:Gj
 d83:Gi
 a40:Gj
 d40:Gi
 a63:Gj
 d63:Gi
 a43:Gj
 d43:Gi
 a82:Gj
 d82:Gi
 a73:Gj
 d73:Gi
 a28:Gj
 d28:Gi
 a20:Gj
 d20:Gi
 a_q9:Gj
 d9:Gi
 a72:Gj
 d72:Gi
 a_f_Desk_init:Gj
 d_f_Desk_init:Gi
 a_f_Desk_run_by:Gj
 d_f_Desk_run_by:Gi
 a_f_Desk_say:Gj
 d_f_Desk_say:Gi
 a16:Gj
 d16:Gi
 a30:Gj
 d30:Gi
 a65:Gj
 d65:Gi
 a22:Gj
 d22:Gi
 a11:Gj
 d11:Gi
 a14:Gj
 d14:Gi
 a25:Gj
 d25:Gi
 a29:Gj
 d29:Gi
 a84:Gj
 d84:Gi
 c0:Gj
 Pt:Gj
 x_NoText:Gj
 x_NoRow:Gj
 x_NoName:Gj
 x_NoBound:Gj
 x_Closed:Gj
 x_RoundError:Gj
 x_NoRun:Gj
 x_NoNumbers:Gj
 C:Gj
structure Txt (P:Program)(w:World)(K:ja)(mg:Str->Option Gg)(t:QK):Prop where
 dk:DkC K t.C
 mkD:Mk K t.C t.a_f_Desk_init
 mgC:mg "Desk"=Ga (.ref t.C)
 f_Desk_init:Gm K t.C "__init__" "Desk.__init__" IX ["self"] t.a_f_Desk_init t.d_f_Desk_init
 f_Desk_run_by:Gm K t.C "run_by" "Desk.run_by" Ir ["self","name"] t.a_f_Desk_run_by t.d_f_Desk_run_by
 f_Desk_say:Gm K t.C "say" "Desk.say" AE ["self","row"] t.a_f_Desk_say t.d_f_Desk_say
 g_FORMS:GDk P w K mg "FORMS" hV
 g_MOST:GDk P w K mg "MOST" MR
 g_RULES:GTp K mg "RULES" [.str "plain",.str "soon",.str "sure",.str "together"]
 m_number_by_desk:mg "number_by_desk"=Ga (.ref t.a40)
 q59:Fn K mg "is_whole" Oo ["thing"] t.a59 t.d59
 q71:Fn K mg "bit_of" SS ["hand"] t.a71 t.d71
 q55:Fn K mg "has_hand" Rz ["mask","hand"] t.a55 t.d55
 q67:Fn K mg "mask_of" TL ["hands"] t.a67 t.d67
 q54:Fn K mg "hands_in" QT ["mask"] t.a54 t.d54
 q45:Fn K mg "is_number" VA ["thing"] t.a45 t.d45
 q15:Fn K mg "are_numbers" UV ["thing"] t.a15 t.d15
 q53:Fn K mg "is_reach" Tn ["mask","hand","many"] t.a53 t.d53
 q66:Fn K mg "is_fall" QC ["thing","many"] t.a66 t.d66
 q39:Fn K mg "are_falls" Ot ["thing","many"] t.a39 t.d39
 q74:Fn K mg "is_run" Vy ["thing"] t.a74 t.d74
 q27:Fn K mg "many_hands" Si ["run"] t.a27 t.d27
 q68:Fn K mg "fall_of" Sk ["run","hand"] t.a68 t.d68
 q13:Fn K mg "with_number" OQ ["run","hand","number"] t.a13 t.d13
 q79:Fn K mg "is_up" Sj ["run","hand","rounds"] t.a79 t.d79
 q31:Fn K mg "who_is_up" Sh ["run","rounds"] t.a31 t.d31
 q80:Fn K mg "comes" Ut ["run","by","to","at"] t.a80 t.d80
 q81:Fn K mg "keeps" Th ["run","bound"] t.a81 t.d81
 q17:Fn K mg "view_behind" Vi ["run","views","hand","at"] t.a17 t.d17
 q7:Fn K mg "views_behind" QD ["run","views","at"] t.a_q7 t.d7
 q62:Fn K mg "views_of" OX ["run","rounds"] t.a62 t.d62
 q50:Fn K mg "own_part" Qh ["view"] t.a50 t.d50
 q34:Fn K mg "rounds_of" TD ["view"] t.a34 t.d34
 q58:Fn K mg "own_past" Rg ["view","rounds"] t.a58 t.d58
 q52:Fn K mg "parts_of" OJ ["views"] t.a52 t.d52
 q38:Fn K mg "layers_of" PR ["view"] t.a38 t.d38
 q78:Fn K mg "known" SY ["view"] t.a78 t.d78
 q10:Fn K mg "least_known" VL ["view"] t.a_q10 t.d10
 q56:Fn K mg "heard_of" Qr ["view"] t.a56 t.d56
 q24:Fn K mg "missing_in" Oi ["view"] t.a24 t.d24
 q47:Fn K mg "is_clean" PQ ["view"] t.a47 t.d47
 q77:Fn K mg "hushed" UM ["run","hand","at","rounds"] t.a77 t.d77
 q0:Fn K mg "changed_while_hushed" Qk ["run","other","hand","at","rounds"] t.a_q0 t.d_q0
 q41:Fn K mg "all_heard" QG ["fall","up"] t.a41 t.d41
 q6:Fn K mg "is_found_out" VO ["fall","up","rounds"] t.a_q6 t.d6
 q36:Fn K mg "found_out" QM ["run","rounds"] t.a36 t.d36
 q61:Fn K mg "waste_of" Tf ["run"] t.a61 t.d61
 q4:Fn K mg "closing_round" Td ["run","bound"] t.a_q4 t.d4
 q69:Fn K mg "is_open" OC ["run","bound","rounds"] t.a69 t.d69
 q1:Fn K mg "without_late_falls" Rm ["run","rounds"] t.a_q1 t.d_q1
 q76:Fn K mg "healed" Qb ["run","bound","rounds"] t.a76 t.d76
 q23:Fn K mg "renumbered" UR ["run","numbers","rounds"] t.a23 t.d23
 q3:Fn K mg "are_numbers_for" Vg ["run","thing"] t.a_q3 t.d_q3
 q57:Fn K mg "chain_of" Vp ["run","bound","rounds","numbers"] t.a57 t.d57
 q42:Fn K mg "choice_by" Ua ["rule","view"] t.a42 t.d42
 q21:Fn K mg "last_rounds" VQ ["run","hand","rounds"] t.a21 t.d21
 q35:Fn K mg "last_view" Uz ["run","hand","rounds"] t.a35 t.d35
 q64:Fn K mg "choices" UQ ["rule","run","rounds"] t.a64 t.d64
 q75:Fn K mg "broken" QE ["rule","run","bound","rounds"] t.a75 t.d75
 q37:Fn K mg "show_fall" RA ["fall"] t.a37 t.d37
 q48:Fn K mg "show_run" OL ["run"] t.a48 t.d48
 q8:Fn K mg "are_figures" Sq ["text"] t.a_q8 t.d8
 q12:Fn K mg "read_number" OS ["text"] t.a12 t.d12
 q5:Fn K mg "is_fall_text" OA ["word"] t.a_q5 t.d5
 q32:Fn K mg "read_fall" Wh ["word"] t.a32 t.d32
 q51:Fn K mg "read_run" Tt ["text"] t.a51 t.d51
 q70:Fn K mg "is_name" RQ ["word"] t.a70 t.d70
 q33:Fn K mg "read_name" QN ["word"] t.a33 t.d33
 q44:Fn K mg "read_rule" UW ["word"] t.a44 t.d44
 q18:Fn K mg "read_figure" OH ["word","most"] t.a18 t.d18
 q26:Fn K mg "read_whole" Op ["word"] t.a26 t.d26
 q46:Fn K mg "read_word" Qc ["kind","word"] t.a46 t.d46
 q60:Fn K mg "words_of" RK ["row"] t.a60 t.d60
 q49:Fn K mg "read_row" Wo ["row"] t.a49 t.d49
 q2:Fn K mg "is_behind_bound" RM ["view","bound"] t.a_q2 t.d_q2
 q19:Fn K mg "least_where" OU ["tells","view"] t.a19 t.d19
 q83:Fn K mg "soon" Pu ["view","bound"] t.a83 t.d83
 q40:Fn K mg "number_by" TU ["word","view","bound"] t.a40 t.d40
 q63:Fn K mg "rule_of" Vl ["asked"] t.a63 t.d63
 q43:Fn K mg "show_pair" Vk ["pair"] t.a43 t.d43
 q82:Fn K mg "know" RT ["run","hand","rounds"] t.a82 t.d82
 q73:Fn K mg "choose" RI ["rule","run","rounds"] t.a73 t.d73
 q28:Fn K mg "show_alike" Te ["run","other","rounds"] t.a28 t.d28
 q20:Fn K mg "count_chain" TZ ["run","bound","rounds","number"] t.a20 t.d20
 q9:Fn K mg "show_broken" SA ["rule","run","bound","rounds"] t.a_q9 t.d9
 q72:Fn K mg "answer" RY ["word","run","asked"] t.a72 t.d72
 q16:Fn K mg "_law_cell_at" Uc ["script","k"] t.a16 t.d16
 q30:Fn K mg "_law_kinds" Hi ["desk","row"] t.a30 t.d30
 q65:Fn K mg "_law_due" CJ ["word"] t.a65 t.d65
 q22:Fn K mg "_law_no_row" CQ ["cell","far"] t.a22 t.d22
 q11:Fn K mg "_law_no_text" Eo ["cell"] t.a11 t.d11
 q14:Fn K mg "_law_no_name" CK ["cell"] t.a14 t.d14
 q25:Fn K mg "_law_by_run" CY ["cell"] t.a25 t.d25
 q29:Fn K mg "_law_event" VC ["desk","cell"] t.a29 t.d29
 q84:Fn K mg "law" Od ["script"] t.a84 t.d84
 b_ValueError:mg "ValueError"=Gb
 b_all:mg "all"=Gb
 b_bool:mg "bool"=Gb
 b_int:mg "int"=Gb
 b_isinstance:mg "isinstance"=Gb
 b_len:mg "len"=Gb
 b_list:mg "list"=Gb
 b_max:mg "max"=Gb
 b_min:mg "min"=Gb
 b_range:mg "range"=Gb
 b_reversed:mg "reversed"=Gb
 b_set:mg "set"=Gb
 b_sorted:mg "sorted"=Gb
 b_str:mg "str"=Gb
 b_tuple:mg "tuple"=Gb
 lam_cd:t.d63.code=.ref t.c0
 lam_hd:JF K t.c0 t.Pt=true
 lam_bm:∃ bm o,mg "__builtins__"=Ga (.ref bm)/\bm≠builtinsNs/\bm≠mainGlobals/\K.lookup bm=Ga o/\o.cls=.type "module"/\o.dict=Ga builtinsNs/\o.data=.plain
 x_NoText:rm K mg "NoText" t.x_NoText
 x_NoRow:rm K mg "NoRow" t.x_NoRow
 x_NoName:rm K mg "NoName" t.x_NoName
 x_NoBound:rm K mg "NoBound" t.x_NoBound
 x_Closed:rm K mg "Closed" t.x_Closed
 x_RoundError:Fa K mg "RoundError" t.x_RoundError
 x_NoRun:Fa K mg "NoRun" t.x_NoRun
 x_NoNumbers:Fa K mg "NoNumbers" t.x_NoNumbers
 j_0:u5 K (.ref t.x_NoText) (.type "BaseException")=Ga true
 j_1:kJ K (.ref t.x_NoText) (.ref t.x_NoText)=Ga true
 j_2:u5 K (.ref t.x_RoundError) (.type "BaseException")=Ga true
 j_3:jy K (.ref t.x_NoText) (.ref t.x_NoRow)=Ga false
 j_4:jy K (.ref t.x_NoText) (.ref t.x_NoText)=Ga true
 j_5:jy K (.ref t.x_NoText) (.ref t.x_NoName)=Ga false
 j_6:jy K (.ref t.x_NoText) (.ref t.x_NoBound)=Ga false
 j_7:jy K (.ref t.x_NoText) (.ref t.x_Closed)=Ga false
 j_8:uD K (.ref t.x_NoText) [.ref t.x_NoRun,.ref t.x_NoNumbers]=Ga false
 j_9:jy K (.ref t.x_NoText) (.type "ValueError")=Ga true
 j_10:kJ K (.ref t.x_NoText) (.ref t.x_RoundError)=Ga true
 j_11:jy K (.ref t.x_NoRow) (.ref t.x_NoRow)=Ga true
 j_12:jy K (.ref t.x_NoRow) (.ref t.x_NoText)=Ga false
 j_13:jy K (.ref t.x_NoRow) (.ref t.x_NoName)=Ga false
 j_14:jy K (.ref t.x_NoRow) (.ref t.x_NoBound)=Ga false
 j_15:jy K (.ref t.x_NoRow) (.ref t.x_Closed)=Ga false
 j_16:uD K (.ref t.x_NoRow) [.ref t.x_NoRun,.ref t.x_NoNumbers]=Ga false
 j_17:jy K (.ref t.x_NoRow) (.type "ValueError")=Ga true
 j_18:kJ K (.ref t.x_NoRow) (.ref t.x_RoundError)=Ga true
 j_19:jy K (.ref t.x_NoName) (.ref t.x_NoRow)=Ga false
 j_20:jy K (.ref t.x_NoName) (.ref t.x_NoText)=Ga false
 j_21:jy K (.ref t.x_NoName) (.ref t.x_NoName)=Ga true
 j_22:jy K (.ref t.x_NoName) (.ref t.x_NoBound)=Ga false
 j_23:jy K (.ref t.x_NoName) (.ref t.x_Closed)=Ga false
 j_24:uD K (.ref t.x_NoName) [.ref t.x_NoRun,.ref t.x_NoNumbers]=Ga false
 j_25:jy K (.ref t.x_NoName) (.type "ValueError")=Ga true
 j_26:kJ K (.ref t.x_NoName) (.ref t.x_RoundError)=Ga true
 j_27:jy K (.ref t.x_NoBound) (.ref t.x_NoRow)=Ga false
 j_28:jy K (.ref t.x_NoBound) (.ref t.x_NoText)=Ga false
 j_29:jy K (.ref t.x_NoBound) (.ref t.x_NoName)=Ga false
 j_30:jy K (.ref t.x_NoBound) (.ref t.x_NoBound)=Ga true
 j_31:jy K (.ref t.x_NoBound) (.ref t.x_Closed)=Ga false
 j_32:uD K (.ref t.x_NoBound) [.ref t.x_NoRun,.ref t.x_NoNumbers]=Ga false
 j_33:jy K (.ref t.x_NoBound) (.type "ValueError")=Ga true
 j_34:kJ K (.ref t.x_NoBound) (.ref t.x_RoundError)=Ga true
 j_35:jy K (.ref t.x_Closed) (.ref t.x_NoRow)=Ga false
 j_36:jy K (.ref t.x_Closed) (.ref t.x_NoText)=Ga false
 j_37:jy K (.ref t.x_Closed) (.ref t.x_NoName)=Ga false
 j_38:jy K (.ref t.x_Closed) (.ref t.x_NoBound)=Ga false
 j_39:jy K (.ref t.x_Closed) (.ref t.x_Closed)=Ga true
 j_40:uD K (.ref t.x_Closed) [.ref t.x_NoRun,.ref t.x_NoNumbers]=Ga false
 j_41:jy K (.ref t.x_Closed) (.type "ValueError")=Ga true
 j_42:kJ K (.ref t.x_Closed) (.ref t.x_RoundError)=Ga true
 c_LAST_ROUND:∃ t,mg "LAST_ROUND"=Ga (.int 5 t)
 c_LEAST_HANDS:∃ t,mg "LEAST_HANDS"=Ga (.int 2 t)
 c_MOST_FIGURES:∃ t,mg "MOST_FIGURES"=Ga (.int 60 t)
 c_MOST_HANDS:∃ t,mg "MOST_HANDS"=Ga (.int 5 t)
 c_MOST_LETTERS:∃ t,mg "MOST_LETTERS"=Ga (.int 8 t)
 c_FIGURES:∃ t,mg "FIGURES"=Ga (.str "0123456789" t)
 c_LETTERS:∃ t,mg "LETTERS"=Ga (.str "abcdefghijklmnopqrstuvwxyz" t)
variable {P:Program}{w:World}{K:ja}{mg:Str->Option Gg}{base:Heap}{t:QK}
def Zg:dD ["thing"] ["thing"] (defScope Oo):=fO
abbrev db:=gv 0
def ztE:FS:=eX (we (un (lO "int") db) (EN (un (lO "bool") db)))
def Ag:List D->Option D:=eG 1 1 ztE
variable (T:Txt P w K mg t)
abbrev zOq{K:ja}{mg:Str->Option Gg}{x:Str}{s ps a d}(_:Fn K mg x s ps a d)(P w base CX n sp):=dJ P w K mg base CX n a d ps sp
def Ly:zOq T.q59 P w base dS 1 (fj K Ag) :=
 fu T.q59.F Zg λhr=>dP (eA (wz (yo (T:="int") (by decide) rfl T.b_isinstance rfl T.b_int boot_int (dy 0)) (rz (Nk (yo (T:="bool") (by decide) rfl T.b_isinstance rfl T.b_bool boot_bool (dy 0))))))
def GG:dD ["hand","bit","step"] ["hand"] (defScope SS):=fO
abbrev de:=gv 1
abbrev cM:=dU (.int 1)
abbrev cN:=dU (.int 2)
abbrev cS:=eX de
def zw2:FS:=eJ (fk 1 cM) (eJ (pS (ip fZ db) (pK 2) (fk 1 (dX Km de cN))) cS)
def Lg:List D->Option D:=eG 1 3 zw2
def MY:zOq T.q71 P w base dS 1 (fj K Lg) :=
 fu T.q71.F GG λhr=>dW (eR 1 dR GG.nd) (dW (rD PassesOwn.never rfl (lQ rfl T.b_range (dy 0)) (mJ 2 GG.nd) (dP (eR 1 (zGQ (dy 1) dR) GG.nd))) (dP (eA (dy 1))))
def zrJ:dD ["mask","hand"] ["mask","hand"] (defScope Rz):=fO
abbrev bV:=dC de (eI)
abbrev cQ:=dU (.int 0)
def ztF:FS:=eX (dX gf (dX KH db (er Lg bV)) cQ)
def DJ:List D->Option D:=eG 2 2 ztF
def FM:zOq T.q55 P w base dS 2 (fj K DJ) :=
 fu T.q55.F zrJ λhr=>dP (eA (Xb (ee hr) (YI (dy 0) (vc (MY T) T.q71 hr (dB (dy 1) dF))) dR))
def Hd:dD ["hands","mask","hand"] ["hands"] (defScope TL):=fO
abbrev df:=gv 2
abbrev bW:=dC df (eI)
abbrev bp:=er Lg bW
abbrev cT:=xt db
def zuN:FS:=eJ (fk 1 cQ) (eJ (pS cT (pK 2) (fk 1 (dX OE de bp))) cS)
def CB:List D->Option D:=eG 1 3 zuN
def HG:zOq T.q67 P w base dS 2 (fj K CB) :=
 fu T.q67.F Hd λhr=>dW (eR 1 dR Hd.nd) (dW (rD PassesOwn.never rfl (pA (dy 0)) (mJ 2 Hd.nd) (dP (eR 1 (zGR (dy 1) (vc (MY T) T.q71 hr (dB (dy 2) dF))) Hd.nd))) (dP (eA (dy 1))))
def Qu:dD ["mask"] ["mask"] (defScope QT):=fO
abbrev bX:=dC db (eI)
abbrev ba:=dC de bX
def ztG:FS:=Fg (fB (ip fZ (un HB db)) (iL (er DJ ba)) db [0])
def Ll:List D->Option (List D):=xG 1 1 ztG
def SM:zOq T.q54 P w base dS 3 (yw K Ll) :=
 MJ T.q54.F Qu λhr=>dP (Lb (iH rfl (cO Qu (fr:=["mask"])) (lQ rfl T.b_range (zEv (dy 0))) (xD (gL (vc (FM T) T.q55 hr (dB (dy 1) (dB (dy 0) dF)))) (dy 0))))
def zpI:dD ["thing"] ["thing"] (defScope VA):=fO
abbrev cB:=dL (.int 60)
abbrev cA:=dL (.int 10)
abbrev bZ:=dN db (eS)
def Kj:FS:=fX (FK (eD Ag bZ) (Me pH pH (ie zM (dY ir cA cB)) db (dY ir cA cB)))
def xT:List D->Option D:=eG 1 1 Kj
def zpJ:zOq T.q45 P w base dS 2 (fj K xT) :=
 fu T.q45.F zpI λhr=>dP (eA (wz (vc (Ly T) T.q59 hr (dB (dy 0) dF)) (rz (FN pT pT (il λ_ _ _=>.bl _) (il λ_ _ _=>.bl _) (FJ (DC dR dR)) (dy 0) (DC dR dR)))))
def Tu:dD ["thing"] ["thing"] (defScope UV):=fO
abbrev cG:=dL (.int 2)
abbrev bP:=fX (dL (.bool false))
abbrev cu:=ie lN db
def LO:FS:=eK (fH (mh (lJ (gW (ie (lO "tuple") db))) (lJ (KU mf mf cG cu (dL (.int 5))))) bP fF) (fX (sw oX (fB (MM db) (λ_=>Ga true) (eD xT bZ) [])))
def zU:List D->Option D:=eG 1 1 LO
def Ug:zOq T.q15 P w base dS 3 (fj K zU) :=
 fu T.q15.F Tu λhr=>dW (eO (iT.b9 (iy (gX (gL (yo (T:="tuple") (by decide) rfl T.b_isinstance rfl T.b_tuple boot_tuple (dy 0)))) (lP (gX (AZ ii ii (il λ_ _ _=>.bl _) (il λ_ _ _=>.bl _) (ya T.c_LEAST_HANDS) (oS rfl T.b_len (dy 0)) (ya T.c_MOST_HANDS)))))) (dP (eA (lH))) fy) (dP (eA (BD rfl rfl T.b_all (PO.sh (iH rfl (cO Tu (fr:=[])) (pA (dy 0)) (gA (vc (zpJ T) T.q45 hr (dB (dy 0) dF))))))))
def zrK:dD ["mask","hand","many"] ["mask","hand","many"] (defScope Tn):=fO
abbrev bc:=dC db bV
def ztH:FS:=eX (we (Ab mf pH cQ db bp) (EN (er DJ bc)))
def Ss:List D->Option D:=eG 3 3 ztH
def Zo:zOq T.q53 P w base dS 3 (fj K Ss) :=
 fu T.q53.F zrK λhr=>dP (eA (wz (FN ii pT (il λ_ _ _=>.bl _) (il λ_ _ _=>.bl _) dR (dy 0) (vc (MY T) T.q71 hr (dB (dy 2) dF))) (rz (Nk (vc (FM T) T.q55 hr (dB (dy 0) (dB (dy 1) dF)))))))
def Ou:dD ["thing","many"] ["thing","many"] (defScope QC):=fO
abbrev bE:=dX gy db cM
abbrev bD:=dX gy db cQ
abbrev bQ:=eX (dU (.bool false))
def zuO:FS:=eJ (fW (oj (iO (iL (un (lO "tuple") db))) (eM gf (un lN db) (dU (.int 3)))) bQ gb) (eJ (fW (iO (iL (oW oX (fB cT (λ_=>Ga true) (er Ag bX) [])))) bQ gb) (eJ (fW (oj (iO (zR mf pH cQ bD de)) (iO (zR mf mf cM bE (dU (.int 5))))) bQ gb) (eX (er Ss (dC (dX gy db cN) (dC bD bV))))))
def Tb:List D->Option D:=eG 2 2 zuO
def ztI:zOq T.q66 P w base dS 4 (fj K Tb) :=
 fu T.q66.F Ou λhr=>dW (eO (iT.b9 (iy (gX (gL (yo (T:="tuple") (by decide) rfl T.b_isinstance rfl T.b_tuple boot_tuple (dy 0)))) (lP (mR (ee hr) (oS rfl T.b_len (dy 0)) dR)))) (dP (eA (lH))) fy) (dW (eO (gX (gL (BD rfl rfl T.b_all (PO.sh (iH rfl (cO Ou (fr:=[])) (pA (dy 0)) (gA (vc (Ly T) T.q59 hr (dB (dy 0) dF)))))))) (dP (eA (lH))) fy) (dW (eO (iT.b9 (iy (gX (AZ ii pT (il λ_ _ _=>.bl _) (il λ_ _ _=>.bl _) dR (fC (dy 0) dR) (dy 1))) (lP (gX (AZ ii ii (il λ_ _ _=>.bl _) (il λ_ _ _=>.bl _) dR (fC (dy 0) dR) (ya T.c_LAST_ROUND)))))) (dP (eA (lH))) fy) (dP (eA (vc (Zo T) T.q53 hr (dB (fC (dy 0) dR) (dB (fC (dy 0) dR) (dB (dy 1) dF))))))))
def Gs:dD ["thing","many","hands"] ["thing","many"] (defScope Ot):=fO
def zrM:FS:=eJ (fW (oj (iO (iL (un (lO "tuple") db))) (iO (iL (oW oX (fB cT (λ_=>Ga true) (er Tb bc) [1]))))) bQ gb) (eJ (zq 2 (zk 2 (fB cT (λ_=>Ga true) bD []))) (eX (dX eF df (fw (Hh (Fv df))))))
def AL:List D->Option D:=eG 2 3 zrM
def Zp:zOq T.q39 P w base dS 5 (fj K AL) :=
 fu T.q39.F Gs λhr=>dW (eO (iT.b9 (iy (gX (gL (yo (T:="tuple") (by decide) rfl T.b_isinstance rfl T.b_tuple boot_tuple (dy 0)))) (lP (gX (gL (BD rfl rfl T.b_all (PO.sh (iH rfl (cO Gs (fr:=["many"])) (pA (dy 0)) (gA (vc (ztI T) T.q66 hr (dB (dy 0) (dB (dy 1) dF)))))))))))) (dP (eA (lH))) fy) (dW (yi 2 (yF 2 rfl (cO Gs (fr:=[])) (pA (dy 0)) (gA (fC (dy 0) dR)) Gs.nd)) (dP (eA (on (ee hr) (dy 2) (PO.v9 (zy4 rfl rfl T.b_sorted rfl T.b_set (PV.sh (dy 2))))))))
def zuP:dD ["thing"] ["thing"] (defScope Vy):=fO
abbrev cJ:=dL (.int 1)
abbrev cI:=dL (.int 0)
abbrev bq:=dY gy db cI
abbrev br:=dY gy db cJ
def MG:FS:=eK (fH (mh (lJ (gW (ie (lO "tuple") db))) (gR gf cu cG)) bP fF) (fX (FK (eD zU (dN bq eS)) (eD AL (dN br (dN (ie lN bq) eS)))))
def zJ:List D->Option D:=eG 1 1 MG
def Sm:zOq T.q74 P w base dS 6 (fj K zJ) :=
 fu T.q74.F zuP λhr=>dW (eO (iT.b9 (iy (gX (gL (yo (T:="tuple") (by decide) rfl T.b_isinstance rfl T.b_tuple boot_tuple (dy 0)))) (lP (mR (ee hr) (oS rfl T.b_len (dy 0)) dR)))) (dP (eA (lH))) fy) (dP (eA (wz (vc (Ug T) T.q15 hr (dB (fC (dy 0) dR) dF)) (rz (vc (Zp T) T.q39 hr (dB (fC (dy 0) dR) (dB (oS rfl T.b_len (fC (dy 0) dR)) dF)))))))
def zoM:dD ["run"] ["run"] (defScope Si):=fO
def YY:FS:=eX (un lN bD)
def mG:List D->Option D:=eG 1 1 YY
def tE:zOq T.q27 P w base dS 1 (fj K mG) :=
 fu T.q27.F zoM λhr=>dP (eA (oS rfl T.b_len (fC (dy 0) dR)))
def Om:dD ["run","hand","fall"] ["run","hand"] (defScope Sk):=fO
abbrev aY:=xt bE
abbrev cX:=dU .none
def zuQ:FS:=eJ (pS aY (pK 2) (fW (eM eF (dX gy df cQ) de) (eX df) gb)) (eX cX)
def TY:List D->Option D:=eG 2 3 zuQ
def Im:zOq T.q68 P w base dS 1 (fj K TY) :=
 fu T.q68.F Om λhr=>dW (rD PassesOwn.never rfl (pA (fC (dy 0) dR)) (mJ 2 Om.nd) (dP (eO (fE (ee hr) (fC (dy 2) dR) (dy 1)) (dP (eA (dy 2))) fy))) (dP (eA pI))
def Vj:dD ["run","hand","number","numbers"] ["run","hand","number"] (defScope OQ):=fO
abbrev di:=gv 3
abbrev bw:=dX eB de cM
def zoN:FS:=eJ (fk 3 bD) (eX (ls (dC (dX eB (dX eB (LR di (zK) (pX de)) (ls bW)) (LR di (pX bw) (zK))) (dC bE eI))))
def yX:List D->Option D:=eG 3 4 zoN
def zm1:zOq T.q13 P w base dS 1 (fj K yX) :=
 fu T.q13.F Vj λhr=>dW (eR 3 (fC (dy 0) dR) Vj.nd) (dP (eA (lX (dB (fK (fK (Gq (dy 3) oV (nz (dy 1))) (lX (dB (dy 2) dF))) (Gq (dy 3) (nz (fK (dy 1) dR)) oV)) (dB (fC (dy 0) dR) dF)))))
def Pg:dD ["run","hand","rounds","fall"] ["run","hand","rounds"] (defScope Sj):=fO
abbrev aE:=er TY bc
abbrev aq:=fk 3 aE
abbrev bF:=dX gy di cM
def zz2:FS:=eJ aq (eX (Sz (dX sA di cX) (dX AA bF df)))
def Ih:List D->Option D:=eG 3 4 zz2
def Wb:zOq T.q79 P w base dS 2 (fj K Ih) :=
 fu T.q79.F Pg λhr=>dW (eR 3 (vc (Im T) T.q68 hr (dB (dy 0) (dB (dy 1) dF))) Pg.nd) (dP (eA (ED (Xq (dy 3) pI) (rz (WL (fC (dy 3) dR) (dy 2))))))
def TM:dD ["run","rounds"] ["run","rounds"] (defScope Sh):=fO
def zrN:FS:=Fg (fB (ip fZ (er mG bX)) (iL (er Ih (dC df bc))) db [1,0])
def Ad:List D->Option (List D):=xG 2 2 zrN
def Ix:zOq T.q31 P w base dS 3 (yw K Ad) :=
 MJ T.q31.F TM λhr=>dP (Lb (iH rfl (cO TM (fr:=["rounds","run"])) (lQ rfl T.b_range (vc (tE T) T.q27 hr (dB (dy 0) dF))) (xD (gL (vc (Wb T) T.q79 hr (dB (dy 2) (dB (dy 0) (dB (dy 1) dF))))) (dy 0))))
def Uj:dD ["run","by","to","at","fall"] ["run","by","to","at"] (defScope Ut):=fO
abbrev dm:=gv 4
abbrev bd:=dC df (dC di eI)
abbrev au:=dC db bd
abbrev bG:=dX gy dm cM
def zz3:FS:=eJ (fW (oj (eM eF de df) (iO (iL (er Ih au)))) bQ gb) (eJ (fk 4 aE) (eJ (fW (oj (eM sA dm cX) (eM AA bG di)) (eX (dU (.bool true))) gb) (eX (we (dX eF bG di) (er DJ (dC (dX gy dm cN) bW))))))
def TK:List D->Option D:=eG 4 5 zz3
def zw3:zOq T.q80 P w base dS 3 (fj K TK) :=
 fu T.q80.F Uj λhr=>dW (eO (iT.b9 (iy (fE (ee hr) (dy 1) (dy 2)) (lP (gX (gL (vc (Wb T) T.q79 hr (dB (dy 0) (dB (dy 2) (dB (dy 3) dF))))))))) (dP (eA (lH))) fy) (dW (eR 4 (vc (Im T) T.q68 hr (dB (dy 0) (dB (dy 1) dF))) Uj.nd) (dW (eO (iT.b9 (iy (CA (dy 4) pI) (lP (EK (fC (dy 4) dR) (dy 3))))) (dP (eA (lH))) fy) (dP (eA (wz (on (ee hr) (fC (dy 4) dR) (dy 3)) (rz (vc (FM T) T.q55 hr (dB (fC (dy 4) dR) (dB (dy 2) dF)))))))))
def zw4:dD ["run","bound"] ["run","bound"] (defScope Th):=fO
def zz4:FS:=eJ (fW (iO (iL (er Ag bV))) bQ gb) (eX (we (Ab mf mf cQ de (dX xI (er mG bX) cN)) (dX mf (un lN bE) de)))
def Rp:List D->Option D:=eG 2 2 zz4
def Qo:zOq T.q81 P w base dS 2 (fj K Rp) :=
 fu T.q81.F zw4 λhr=>dW (eO (gX (gL (vc (Ly T) T.q59 hr (dB (dy 1) dF)))) (dP (eA (lH))) fy) (dP (eA (wz (FN ii ii (il λ_ _ _=>.bl _) (il λ_ _ _=>.bl _) dR (dy 1) (Ew (vc (tE T) T.q27 hr (dB (dy 0) dF)) dR)) (rz (WK (oS rfl T.b_len (fC (dy 0) dR)) (dy 1))))))
def Lz:dD ["run","views","hand","at","parts"] ["run","views","hand","at"] (defScope Vi):=fO
abbrev ax:=dC db (dC df bV)
abbrev aX:=dC (oW nN (Fv dm)) (eI)
abbrev bO:=ip fZ (un lN de)
def zoO:FS:=eJ (zq 4 (zk 4 (fB bO (λ_=>Ga true) (zE (oj (eM eF db df) (iL (er TK (dC di ax)))) (dX gy dm db) cX) [3,2,0,1]))) (eX (ls (dC df aX)))
def Wr:List D->Option D:=eG 4 5 zoO
def zm2:zOq T.q17 P w base dS 4 (fj K Wr) :=
 fu T.q17.F Lz λhr=>dW (yi 4 (yF 4 rfl (cO Lz (fr:=["at","hand","run","views"])) (lQ rfl T.b_range (oS rfl T.b_len (dy 1))) (gA (oC (iT.b9 (iy (fE (ee hr) (dy 0) (dy 2)) (lP (gL (vc (zw3 T) T.q80 hr (dB (dy 3) (dB (dy 0) (dB (dy 2) (dB (dy 1) dF))))))))) (fC (dy 4) (dy 0)) pI)) Lz.nd)) (dP (eA (lX (dB (dy 2) (dB (yC rfl T.b_tuple (PV.sh (dy 4))) dF)))))
def Kt:dD ["run","views","at","up"] ["run","views","at"] (defScope QD):=fO
def ZT:FS:=eJ (fk 3 (fw (sX Ad (dC db bW)))) (eX (fw (fB bO (λ_=>Ga true) (zE (eM AO db di) (er Wr (dC df (dC dm bc))) cX) [2,0,3,1])))
def Vu:List D->Option D:=eG 3 4 ZT
def zlP (T:Txt P w K mg t):dJ P w K mg base dS 5 t.a_q7 t.d7 ["run","views","at"] (fj K Vu) :=
 fu T.q7.F Kt λhr=>dW (eR 3 (PO.v9 (zh (Ix T) hr.mo T.q31.m T.q31.F.kp T.q31.b (dB (dy 0) (dB (dy 2) dF)))) Kt.nd) (dP (eA (PO.v9 (iH rfl (cO Kt (fr:=["at","run","up","views"])) (lQ rfl T.b_range (oS rfl T.b_len (dy 1))) (gA (oC (WQ (ee hr) (dy 0) (dy 3)) (vc (zm2 T) T.q17 hr (dB (dy 2) (dB (dy 4) (dB (dy 0) (dB (dy 1) dF))))) pI))))))
def El:dD ["run","rounds","views","at"] ["run","rounds"] (defScope OX):=fO
def Zi:FS:=eJ (zq 2 (zk 2 (fB (ip fZ (er mG bX)) (λ_=>Ga true) (ls (dC db (dC (dX gy (dX gy de cQ) db) eI))) [0]))) (eJ (pS (Ai BZ cM bw) (pK 3) (fk 2 (er Vu au))) (eX df))
def AK:List D->Option D:=eG 2 4 Zi
def PX:zOq T.q62 P w base dS 6 (fj K AK) :=
 fu T.q62.F El λhr=>dW (yi 2 (yF 2 rfl (cO El (fr:=["run"])) (lQ rfl T.b_range (vc (tE T) T.q27 hr (dB (dy 0) dF))) (gA (lX (dB (dy 0) (dB (fC (fC (dy 1) dR) (dy 0)) dF)))) El.nd)) (dW (rD PassesOwn.never rfl (Wv rfl T.b_range dR (fK (dy 1) dR)) (mJ 3 El.nd) (dP (eR 2 (vc (zlP T) T.q7 hr (dB (dy 0) (dB (dy 2) (dB (dy 3) dF)))) El.nd))) (dP (eA (dy 2))))
def zrO:dD ["view"] ["view"] (defScope Qh):=fO
def ztK:FS:=eX (dX gy bE bD)
def Pe:List D->Option D:=eG 1 1 ztK
def KA:zOq T.q50 P w base dS 1 (fj K Pe) :=
 fu T.q50.F zrO λhr=>dP (eA (fC (fC (dy 0) dR) (fC (dy 0) dR)))
def HE:dD ["view","rounds"] ["view"] (defScope TD):=fO
abbrev bu:=er Pe bX
abbrev aO:=fk 0 bu
def zrP:FS:=eJ (fk 1 cQ) (eJ (pB (iL (un (lO "tuple") bE)) (eJ aO (fk 1 bw)) 100) cS)
def oB:List D->Option D:=eG 1 2 zrP
def Dy:zOq T.q34 P w base dS 2 (fj K oB) :=
 fu T.q34.F HE λhr=>dW (eR 1 dR HE.nd) (dW (zCT 100 PassesOwn.never (gL (yo (T:="tuple") (by decide) rfl T.b_isinstance rfl T.b_tuple boot_tuple (fC (dy 0) dR))) (dW (eR 0 (vc (KA T) T.q50 hr (dB (dy 0) dF)) HE.nd) (dP (eR 1 (fK (dy 1) dR) HE.nd)))) (dP (eA (dy 1))))
def IU:dD ["view","rounds","step"] ["view","rounds"] (defScope Rg):=fO
def ztL:FS:=eJ (pS (ip fZ (dX xI (er oB bX) de)) (pK 2) aO) (eX db)
def rF:List D->Option D:=eG 2 3 ztL
def zrQ:zOq T.q58 P w base dS 3 (fj K rF) :=
 fu T.q58.F IU λhr=>dW (rD PassesOwn.never rfl (lQ rfl T.b_range (Ew (vc (Dy T) T.q34 hr (dB (dy 0) dF)) (dy 1))) (mJ 2 IU.nd) (dP (eR 0 (vc (KA T) T.q50 hr (dB (dy 0) dF)) IU.nd))) (dP (eA (dy 0)))
def Hv:dD ["views","parts","view","part"] ["views"] (defScope OJ):=fO
abbrev bH:=dX gy df cM
abbrev aZ:=xt bH
abbrev bI:=eM nM di cX
def LJ:FS:=eJ (Ml 1) (eJ (pS cT (pK 2) (pS aZ (pK 3) (fW bI (EO 1 di) gb))) (XJ 1 (eX (fw (ip sU de)))))
def tM:List D->Option D:=eG 1 4 LJ
def zrR:zOq T.q52 P w base dS 1 (fj K tM) :=
 fu T.q52.F Hv λhr=>dW (zAU 1 Hv.nd) (dW (rD PassesOwn.never rfl (pA (dy 0)) (mJ 2 Hv.nd) (dP (rD PassesOwn.never rfl (pA (fC (dy 2) dR)) (mJ 3 Hv.nd) (dP (eO (MF (dy 3) pI) (dP (zAW 1 (ee hr) (dy 3))) fy))))) (dP (VB 1 (eA (PO.v9 (zCY rfl rfl T.b_list (dy 1)))))))
def Ii:dD ["view","layers","step"] ["view"] (defScope PR):=fO
abbrev bS:=ie zM cJ
abbrev aV:=Fb (gl 1) bS
abbrev cY:=iK 2
def Kn:FS:=eK (zF 1 (dN (io bZ) eS)) (eK (nD (iY fZ (eD oB bZ)) cY (AS 1 (eD tM (dN aV eS)))) (fX (io (Rf (gl 1)))))
def xS:List D->Option D:=eG 1 3 Kn
def zpM:zOq T.q38 P w base dS 3 (fj K xS) :=
 fu T.q38.F Ii λhr=>dW (LY 1 (gD (dB (PO.v9 (gD (dB (dy 0) dF))) dF)) Ii.nd) (dW (rD PassesOwn.never rfl (lQ rfl T.b_range (vc (Dy T) T.q34 hr (dB (dy 0) dF))) (mJ 2 Ii.nd) (dP (PD 1 (vc (zrR T) T.q52 hr (dB (Sg (Kf 1) (FJ dR)) dF))))) (dP (eA (PO.v9 (OZ rfl rfl T.b_list rfl T.b_reversed (Kf 1))))))
def zw5:dD ["view"] ["view"] (defScope SY):=fO
def Mr:FS:=fX (io (QF (zw (dY gy (eD xS bZ) cI))))
def mE:List D->Option D:=eG 1 1 Mr
def Ql:zOq T.q78 P w base dS 4 (fj K mE) :=
 fu T.q78.F zw5 λhr=>dP (eA (PO.v9 (zAP rfl T.b_sorted (PV.sh (fC (vc (zpM T) T.q38 hr (dB (dy 0) dF)) dR)))))
def RN:dD ["view"] ["view"] (defScope VL):=fO
def Lw:FS:=fX (sw yM (fB (MM (eD mE bZ)) (λ_=>Ga true) br []))
def yS:List D->Option D:=eG 1 1 Lw
def zm4 (T:Txt P w K mg t):dJ P w K mg base dS 5 t.a_q10 t.d10 ["view"] (fj K yS) :=
 fu T.q10.F RN λhr=>dP (eA (zEC rfl rfl T.b_min (PO.sh (iH rfl (cO RN (fr:=[])) (pA (vc (Ql T) T.q78 hr (dB (dy 0) dF))) (gA (fC (dy 0) dR))))))
def LV:dD ["view","parts"] ["view"] (defScope Qr):=fO
abbrev aW:=fk 1 bE
def Yr:FS:=eJ aW (eX (er CB (dC (fw (fB bO (eM nM (dX gy de db) cX) db [1])) eI)))
def KM:List D->Option D:=eG 1 2 Yr
def VW:zOq T.q56 P w base dS 3 (fj K KM) :=
 fu T.q56.F LV λhr=>dW (eR 1 (fC (dy 0) dR) LV.nd) (dP (eA (vc (HG T) T.q67 hr (dB (PO.v9 (iH rfl (cO LV (fr:=["parts"])) (lQ rfl T.b_range (oS rfl T.b_len (dy 1))) (xD (MF (fC (dy 1) (dy 0)) pI) (dy 0)))) dF))))
def LC:dD ["view","parts"] ["view"] (defScope Oi):=fO
def YC:FS:=eJ aW (eX (er CB (dC (fw (fB bO (eM sA (dX gy de db) cX) db [1])) eI)))
def VH:List D->Option D:=eG 1 2 YC
def zoQ:zOq T.q24 P w base dS 3 (fj K VH) :=
 fu T.q24.F LC λhr=>dW (eR 1 (fC (dy 0) dR) LC.nd) (dP (eA (vc (HG T) T.q67 hr (dB (PO.v9 (iH rfl (cO LC (fr:=["parts"])) (lQ rfl T.b_range (oS rfl T.b_len (dy 1))) (xD (CA (fC (dy 1) (dy 0)) pI) (dy 0)))) dF))))
def UP:dD ["view","rounds"] ["view"] (defScope PQ):=fO
def ztN:FS:=eJ (fk 1 (er oB bX)) (eJ (fW (eM eF de cQ) bQ gb) (eJ (fW (eM eF de cM) (eX (dX eF (er VH bX) cQ)) gb) (eX (dX eF (er KM bX) (er KM (dC bu eI))))))
def Br:List D->Option D:=eG 1 2 ztN
def zrS:zOq T.q47 P w base dS 4 (fj K Br) :=
 fu T.q47.F UP λhr=>dW (eR 1 (vc (Dy T) T.q34 hr (dB (dy 0) dF)) UP.nd) (dW (eO (fE (ee hr) (dy 1) dR) (dP (eA (lH))) fy) (dW (eO (fE (ee hr) (dy 1) dR) (dP (eA (on (ee hr) (vc (zoQ T) T.q24 hr (dB (dy 0) dF)) dR))) fy) (dP (eA (on (ee hr) (vc (VW T) T.q56 hr (dB (dy 0) dF)) (vc (VW T) T.q56 hr (dB (vc (KA T) T.q50 hr (dB (dy 0) dF)) dF)))))))
def zuR:dD ["run","hand","at","rounds","other","others","path","last","fewer"] ["run","hand","at","rounds"] (defScope UM):=fO
def zw6:FS:=eJ (fW (eM AA df di) (Fg bX) gb) (gw)
def Ke:List D->Option (List D):=xG 4 9 zw6
def QP:zOq T.q77 P w base dS 1 (yw K Ke) :=
 MJ T.q77.F zuR λhr=>dW (eO (EK (dy 2) (dy 3)) (dP (Lb (gD (dB (dy 0) dF)))) fy) (mU)
def zf0:dD ["run","other","hand","at","rounds"] ["run","other","hand","at","rounds"] (defScope Qk):=fO
abbrev ay:=dC df (dC di (dC dm eI))
def zgG:FS:=eX (dX eB (fw (sX Ke (dC db ay))) (fw (MC (sX Ke (dC de ay)))))
def zb:List D->Option D:=eG 5 5 zgG
def zf1 (T:Txt P w K mg t):dJ P w K mg base dS 2 t.a_q0 t.d_q0 ["run","other","hand","at","rounds"] (fj K zb) :=
 fu T.q0.F zf0 λhr=>dP (eA (fK (PO.v9 (zh (QP T) hr.mo T.q77.m T.q77.F.kp T.q77.b (dB (dy 0) (dB (dy 2) (dB (dy 3) (dB (dy 4) dF)))))) (PO.v9 (OZ rfl rfl T.b_list rfl T.b_reversed (PO.sh (zh (QP T) hr.mo T.q77.m T.q77.F.kp T.q77.b (dB (dy 1) (dB (dy 2) (dB (dy 3) (dB (dy 4) dF))))))))))
def QX:dD ["fall","up"] ["fall","up"] (defScope QG):=fO
def zrT:FS:=eX (oW oX (fB (xt de) (λ_=>Ga true) (er DJ (dC (dX gy de cN) bX)) [0]))
def OO:List D->Option D:=eG 2 2 zrT
def zpO:zOq T.q41 P w base dS 3 (fj K OO) :=
 fu T.q41.F QX λhr=>dP (eA (BD rfl rfl T.b_all (PO.sh (iH rfl (cO QX (fr:=["fall"])) (pA (dy 1)) (gA (vc (FM T) T.q55 hr (dB (fC (dy 1) dR) (dB (dy 0) dF))))))))
def zlQ:dD ["fall","up","rounds"] ["fall","up","rounds"] (defScope VO):=fO
def Zq:FS:=eX (Sz (dX pH bE df) (we (dX eF bE df) (EN (er OO bc))))
def Ov:List D->Option D:=eG 3 3 Zq
def zlR (T:Txt P w K mg t):dJ P w K mg base dS 4 t.a_q6 t.d6 ["fall","up","rounds"] (fj K Ov) :=
 fu T.q6.F zlQ λhr=>dP (eA (ED (Lr (fC (dy 0) dR) (dy 2)) (rz (wz (on (ee hr) (fC (dy 0) dR) (dy 2)) (rz (Nk (vc (zpO T) T.q41 hr (dB (dy 0) (dB (dy 1) dF)))))))))
def Li:dD ["run","rounds","up"] ["run","rounds"] (defScope QM):=fO
def zrU:FS:=eJ (fk 2 (fw (sX Ad bc))) (eJ (fW (eM eF (un lN df) cQ) (eX cQ) gb) (eX (er CB (dC (fw (fB aY (iL (er Ov ax)) bD [1,2])) eI))))
def VS:List D->Option D:=eG 2 3 zrU
def Zb:zOq T.q36 P w base dS 5 (fj K VS) :=
 fu T.q36.F Li λhr=>dW (eR 2 (PO.v9 (zh (Ix T) hr.mo T.q31.m T.q31.F.kp T.q31.b (dB (dy 0) (dB (dy 1) dF)))) Li.nd) (dW (eO (fE (ee hr) (oS rfl T.b_len (dy 2)) dR) (dP (eA dR)) fy) (dP (eA (vc (HG T) T.q67 hr (dB (PO.v9 (iH rfl (cO Li (fr:=["rounds","up"])) (pA (fC (dy 0) dR)) (xD (gL (vc (zlR T) T.q6 hr (dB (dy 0) (dB (dy 2) (dB (dy 1) dF))))) (fC (dy 0) dR)))) dF)))))
def RC:dD ["run"] ["run"] (defScope Tf):=fO
def ztO:FS:=eX (oW Hk (Fv (dX eB (fw (dC cQ eI)) (fw (fB (Ai BZ cM (dX eB (dU (.int 5)) cM)) (λ_=>Ga true) (dX xI (un lN (fw (sX Ll (dC (er VS ba) eI)))) db) [0])))))
def Bn:List D->Option D:=eG 1 1 ztO
def Sn:zOq T.q61 P w base dS 6 (fj K Bn) :=
 fu T.q61.F RC λhr=>dP (eA (zED rfl rfl T.b_max (PV.sh (fK (PO.v9 (gD (dB dR dF))) (PO.v9 (iH rfl (cO RC (fr:=["run"])) (Wv rfl T.b_range dR (fK (ya T.c_LAST_ROUND) dR)) (gA (Ew (oS rfl T.b_len (PO.v9 (zh (SM T) hr.mo T.q54.m T.q54.F.kp T.q54.b (dB (vc (Zb T) T.q36 hr (dB (dy 1) (dB (dy 0) dF))) dF)))) (dy 0)))))))))
def Pz:dD ["run","bound"] ["run","bound"] (defScope Td):=fO
abbrev ao:=iO (iL (er Rp bc))
def zlS:FS:=eJ (fW ao (gw) gb) (eX (dX xI bw (er Bn bX)))
def AU:List D->Option D:=eG 2 2 zlS
def TJ (T:Txt P w K mg t):dJ P w K mg base dS 7 t.a_q4 t.d4 ["run","bound"] (fj K AU) :=
 fu T.q4.F Pz λhr=>dW (eO (gX (gL (vc (Qo T) T.q81 hr (dB (dy 0) (dB (dy 1) dF))))) (dP mB) fy) (dP (eA (Ew (fK (dy 1) dR) (vc (Sn T) T.q61 hr (dB (dy 0) dF)))))
def zk4:FX:=gQ ao (lI "NoBound") (ib)
def CZ:List D->Option Str:=lq 2 2 zk4
def Vw (T:Txt P w K mg t):dJ P w K mg base (fM P w) 7 t.a_q4 t.d4 ["run","bound"] (lA K mg CZ) :=
 oG T.q4.F Pz λhr=>gu (iI (gX (gL (vc (Qo T) T.q81 hr (dB (dy 0) (dB (dy 1) dF))))) (gu (so T.x_NoBound)) lV)
def VJ:dD ["run","bound","rounds"] ["run","bound","rounds"] (defScope OC):=fO
def zuS:FS:=eX (dX pH df (er AU bc))
def xX:List D->Option D:=eG 3 3 zuS
def Mw:zOq T.q69 P w base dS 8 (fj K xX) :=
 fu T.q69.F VJ λhr=>dP (eA (Lr (dy 2) (vc (TJ T) T.q4 hr (dB (dy 0) (dB (dy 1) dF)))))
def ztP:FX:=yu df (iz bc CZ)
def FF:List D->Option Str:=lq 3 3 ztP
def Ud:zOq T.q69 P w base (fM P w) 8 (lA K mg FF) :=
 oG T.q69.F VJ λhr=>gu (sB (zEI pT (dy 2) (nw (Vw T) ij hr.mo T.q4.m T.q4.F.kp T.q4.b (dB (dy 0) (dB (dy 1) dF)))))
def Qf:dD ["run","rounds"] ["run","rounds"] (defScope Rm):=fO
def zhV:FS:=eX (ls (dC bD (dC (oW nN (fB aY (eM mf bE de) db [1])) eI)))
def DL:List D->Option D:=eG 2 2 zhV
def zg0 (T:Txt P w K mg t):dJ P w K mg base dS 1 t.a_q1 t.d_q1 ["run","rounds"] (fj K DL) :=
 fu T.q1.F Qf λhr=>dP (eA (lX (dB (fC (dy 0) dR) (dB (yC rfl T.b_tuple (PO.sh (iH rfl (cO Qf (fr:=["rounds"])) (pA (fC (dy 0) dR)) (xD (Xx (fC (dy 0) dR) (dy 1)) (dy 0))))) dF))))
def Hf:dD ["run","bound","rounds","path","seen","step"] ["run","bound","rounds"] (defScope Qb):=fO
abbrev cb:=dN df (eS)
abbrev bJ:=dN db cb
def Mi:FS:=eK (zF 3 bZ) (eK (fU 4 (eD DL bJ)) (eK (fH (gR gf dm db) (AS 3 dm) fF) (eK (nD (iY fZ df) (iK 5) nA) (Kd (go 3)))))
def Bx:List D->Option D:=eG 3 6 Mi
def zuT:zOq T.q76 P w base dS 2 (fj K Bx) :=
 fu T.q76.F Hf λhr=>dW (LY 3 (gD (dB (dy 0) dF)) Hf.nd) (dW (eR 4 (vc (zg0 T) T.q1 hr (dB (dy 0) (dB (dy 2) dF))) Hf.nd) (dW (eO (mR (ee hr) (dy 4) (dy 0)) (dP (PD 3 (dy 4))) fy) (dW (rD PassesOwn.never rfl (lQ rfl T.b_range (dy 2)) (mJ 5 Hf.nd) (dP mB)) (dP (RO 3)))))
def Ez:dD ["run","numbers","rounds","path","hand","last","other"] ["run","numbers","rounds"] (defScope UR):=fO
abbrev dq:=gv 5
abbrev af:=gR gf (dY gy (dY gy dq cI) dm) (dY gy de dm)
abbrev ag:=dN dq (dN (gv 6) (dN dm (dN cJ cb)))
abbrev am:=dN dq (dN dm (dN (dY gy de dm) eS))
abbrev aF:=fU 5 (Fb (gl 3) bS)
abbrev bY:=Ay cJ
abbrev cZ:=iK 4
def Lv:FS:=eK (zF 3 bZ) (eK (nD (iY fZ (eD mG bZ)) cZ (eK aF (fH af (eK (fU 6 (eD yX am)) (GW 3 (zY (eD zb ag) bY su))) fF))) (Kd (go 3)))
def zj:List D->Option D:=eG 3 7 Lv
def zoS:zOq T.q23 P w base dS 3 (fj K zj) :=
 fu T.q23.F Ez λhr=>dW (LY 3 (gD (dB (dy 0) dF)) Ez.nd) (dW (rD PassesOwn.never rfl (lQ rfl T.b_range (vc (tE T) T.q27 hr (dB (dy 0) dF))) (mJ 4 Ez.nd) (dW (eR 5 (Sg (Kf 3) (FJ dR)) Ez.nd) (dP (eO (mR (ee hr) (fC (fC (dy 5) dR) (dy 4)) (fC (dy 1) (dy 4))) (dW (eR 6 (vc (zm1 T) T.q13 hr (dB (dy 5) (dB (dy 4) (dB (fC (dy 1) (dy 4)) dF)))) Ez.nd) (dP (zAZ 3 (Gq (vc (zf1 T) T.q0 hr (dB (dy 5) (dB (dy 6) (dB (dy 4) (dB dR (dB (dy 2) dF)))))) (nz dR) oV)))) fy)))) (dP (RO 3)))
def zi1:dD ["run","thing"] ["run","thing"] (defScope Vg):=fO
def XZ:FS:=eX (we (er zU bV) (dX eF (un lN de) (er mG bX)))
def Bo:List D->Option D:=eG 2 2 XZ
def SQ (T:Txt P w K mg t):dJ P w K mg base dS 4 t.a_q3 t.d_q3 ["run","thing"] (fj K Bo) :=
 fu T.q3.F zi1 λhr=>dP (eA (wz (vc (Ug T) T.q15 hr (dB (dy 1) dF)) (rz (on (ee hr) (oS rfl T.b_len (dy 1)) (vc (tE T) T.q27 hr (dB (dy 0) dF))))))
def Bk:dD ["run","bound","rounds","numbers","still_open","path"] ["run","bound","rounds","numbers"] (defScope Vp):=fO
abbrev ce:=dN di (eS)
abbrev bK:=dN de cb
abbrev aK:=dN db bK
def Kv:FS:=eK (fU 4 (eD xX aK)) (eK (fH (lJ (gW (eD Bo (dN db ce)))) nA fF) (eK (fH (lJ (gW dm)) nA fF) (eK (fU 5 (eD Bx aK)) (fX (dY eB dq (zY (eD zj (dN (dY gy dq bS) (dN di cb))) bY su))))))
def AG:List D->Option D:=eG 4 6 Kv
def zrV:zOq T.q57 P w base dS 9 (fj K AG) :=
 fu T.q57.F Bk λhr=>dW (eR 4 (vc (Mw T) T.q69 hr (dB (dy 0) (dB (dy 1) (dB (dy 2) dF)))) Bk.nd) (dW (eO (gX (gL (vc (SQ T) T.q3 hr (dB (dy 0) (dB (dy 3) dF))))) (dP mB) fy) (dW (eO (gX (gL (dy 4))) (dP mB) fy) (dW (eR 5 (vc (zuT T) T.q76 hr (dB (dy 0) (dB (dy 1) (dB (dy 2) dF)))) Bk.nd) (dP (eA (fK (dy 5) (Gq (vc (zoS T) T.q23 hr (dB (fC (dy 5) (FJ dR)) (dB (dy 3) (dB (dy 2) dF)))) (nz dR) oV)))))))
abbrev az:=dC db (dC de bW)
def zrW:FX:=gO (iz az FF) (fV (fk 4 (er xX az)) (fV (fW (iO (iL (er Bo (dC db (dC di eI))))) (gw) gb) (gQ (iO (iL dm)) (lI "Closed") (ib))))
def Qq:List D->Option Str:=lq 4 6 zrW
def zpQ:zOq T.q57 P w base (fM P w) 9 (lA K mg Qq) :=
 oG T.q57.F Bk λhr=>ou (DK 4 (nw (Ud T) ij hr.mo T.q69.m T.q69.F.kp T.q69.b (dB (dy 0) (dB (dy 1) (dB (dy 2) dF)))) Bk.nd) (eR 4 (vc (Mw T) T.q69 hr (dB (dy 0) (dB (dy 1) (dB (dy 2) dF)))) Bk.nd) (mX (eO (gX (gL (vc (SQ T) T.q3 hr (dB (dy 0) (dB (dy 3) dF))))) mU fy) (gu (iI (gX (gL (dy 4))) (gu (so T.x_Closed)) lV)))
def MP:dD ["rule","view","rounds","number"] ["rule","view"] (defScope Ua):=fO
abbrev cU:=dL .none
abbrev ae:=fH (gR nM di cU) (fX (oH (dN df ce))) (fF)
abbrev cg:=dN de (eS)
abbrev aS:=eD rF bK
abbrev cj:=fX cU
def No (c:dZ)(φ:D->Option D):FS:=eK (nD (iY fZ (dY eB (eD oB cg) cJ)) cY (eK (fU 3 (mS 0 c φ aS)) ae)) cj
def oP (c:dZ)(φ:D->Option D):List D->Option D:=xu 0 2 4 c (No c φ)
variable {c:dZ}{φ:D->Option D}{A:Around}{E:XK}{H:Hp}{cdv:Gg}{outer:List Env}{s:Gh}{a:Gj}
def zpR(hC:mC P w K mg base 9 c φ):zOq T.q42 P w base dS 10 (yR K 0 c (oP c φ)) :=
 Iu T.q42.F MP (by decide) λhr=>dW (rD PassesOwn.never rfl (lQ rfl T.b_range (fK (vc (Dy T) T.q34 hr (dB (dy 1) dF)) dR)) (mJ 2 MP.nd) (dW (eR 3 (zC2 0 hC hr.mo (vc (zrQ T) T.q58 hr (dB (dy 1) (dB (dy 2) dF)))) MP.nd) (dP (eO (MF (dy 3) pI) (dP (eA (lX (dB (dy 2) (dB (dy 3) dF))))) fy)))) (dP (eA pI))
def Vd:dD ["run","hand","rounds","fall"] ["run","hand","rounds"] (defScope VQ):=fO
def YE:FS:=eJ aq (eX (zE (eM sA di cX) df (dX GU df (dX xI bF cM))))
def Qx:List D->Option D:=eG 3 4 YE
def zm6:zOq T.q21 P w base dS 2 (fj K Qx) :=
 fu T.q21.F Vd λhr=>dW (eR 3 (vc (Im T) T.q68 hr (dB (dy 0) (dB (dy 1) dF))) Vd.nd) (dP (eA (oC (CA (dy 3) pI) (dy 2) (XR rfl rfl T.b_min (dy 2) (Ew (fC (dy 3) dR) dR)))))
def zpS:dD ["run","hand","rounds"] ["run","hand","rounds"] (defScope Uz):=fO
def zrX:FS:=eX (dX gy (er AK (dC db (dC (er Qx az) eI))) de)
def xp:List D->Option D:=eG 3 3 zrX
def zpT:zOq T.q35 P w base dS 7 (fj K xp) :=
 fu T.q35.F zpS λhr=>dP (eA (fC (vc (PX T) T.q62 hr (dB (dy 0) (dB (vc (zm6 T) T.q21 hr (dB (dy 0) (dB (dy 1) (dB (dy 2) dF)))) dF))) (dy 1)))
def UG:dD ["rule","run","rounds"] ["rule","run","rounds"] (defScope UQ):=fO
abbrev bL:=dN db cg
abbrev aL:=dN di bL
def MK (c:dZ)(φ:D->Option D):FS:=fX (io (fB (iY fZ (eD mG cg)) (λ_=>Ga true) (mD 2 c (oP c φ) (dN (eD xp aL) eS)) [2,0,1]))
def BA (c:dZ)(φ:D->Option D):List D->Option D:=xu 0 3 3 c (MK c φ)
def Yq(hC:mC P w K mg base 9 c φ):zOq T.q64 P w base dS 11 (yR K 0 c (BA c φ)) :=
 Iu T.q64.F UG (by decide) λhr=>dP (eA (PO.v9 (iH rfl (cO UG (fr:=["rounds","rule","run"])) (lQ rfl T.b_range (vc (tE T) T.q27 hr (dB (dy 1) dF))) (gA (Ps 2 (zpR T hC) hr.mo T.q42.m T.q42.F.kp T.q42.b (dB (vc (zpT T) T.q35 hr (dB (dy 3) (dB (dy 0) (dB (dy 1) dF)))) dF))))))
def zuU:dD ["rule","run","bound","rounds","told","number"] ["rule","run","bound","rounds"] (defScope QE):=fO
abbrev aA:=dC de bd
def zuV (c:dZ)(φ:D->Option D):FX:=gO (iz aA FF) (gQ (iO (iL (er xX aA))) (lI "Closed") (ib))
def Gv (c:dZ)(φ:D->Option D):List D->Option Str:=Ca 4 6 c (zuV c φ)
def ztR(hC:mC P w K mg base 9 c φ):zOq T.q75 P w base (fM P w) 10 (xL K mg c (Gv c φ)) :=
 MD T.q75.F zuU λhr=>gu (Xa (Ym (zEH (zEG (nw (Ud T) ij hr.mo T.q69.m T.q69.F.kp T.q69.b (dB (dy 1) (dB (dy 2) (dB (dy 3) dF))))))) (iI (gX (gL (vc (Mw T) T.q69 hr (dB (dy 1) (dB (dy 2) (dB (dy 3) dF)))))) (gu (so T.x_Closed)) lV))
def Ds:dD ["fall","hand","at","reached"] ["fall"] (defScope RA):=fO
abbrev bx:=dX fq db cQ
abbrev bz:=dX fq db cM
abbrev bA:=dX fq db cN
abbrev cD:=un gN db
def zrY:FS:=eJ (fk 1 bx) (eJ (fk 2 bz) (eJ (fk 3 (Ct (dU (.str "")) (fB (ip gp (fw (sX Ll (dC bA eI)))) (λ_=>Ga true) cD []))) (eX (oW Cp (dC (un rj de) (dC (dU (.str "@")) (dC (un rj df) (dC (dU (.str ">")) (dC (un rj di) eI)))))))))
def zV:List D->Option D:=eG 1 4 zrY
def zpU:zOq T.q37 P w base dS 4 (fj K zV) :=
 fu T.q37.F Ds λhr=>dW (eR 1 (gq (dy 0) dR) Ds.nd) (dW (eR 2 (gq (dy 0) dR) Ds.nd) (dW (eR 3 (Eb dQ (PO.sh (iH rfl (cO Ds (fr:=[])) (lZ (PO.v9 (zh (SM T) hr.mo T.q54.m T.q54.F.kp T.q54.b (dB (gq (dy 0) dR) dF)))) (gA (pJ rfl T.b_str (dy 0)))))) Ds.nd) (dP (eA (Wp (yh (Dt (dy 1)) (yh dQ (yh (Dt (dy 2)) (yh dQ (yh (Dt (dy 3)) QO))))))))))
def GF:dD ["run","numbers"] ["run"] (defScope OL):=fO
abbrev bg:=dY fq db cI
abbrev bh:=dY fq db cJ
abbrev cw:=ie gN db
def Ie:FS:=eK (FE 1 (zF 1 (fB (iY gp bg) (λ_=>Ga true) cw []))) (fX (FO (dL (.str " ")) (zw (dY eB (dY eB de (io (dN (dL (.str "/")) eS))) (io (fB (iY gp bh) (λ_=>Ga true) (eD zV bZ) []))))))
def oN:List D->Option D:=eG 1 2 Ie
def Nw:zOq T.q48 P w base dS 5 (fj K oN) :=
 fu T.q48.F GF λhr=>dW (yi 1 (yF 1 rfl (cO GF (fr:=[])) (lZ (gq (dy 0) dR)) (gA (pJ rfl T.b_str (dy 0))) GF.nd)) (dP (eA (Eb dQ (PV.sh (fK (fK (dy 1) (PO.v9 (gD (dB dQ dF)))) (PO.v9 (iH rfl (cO GF (fr:=[])) (lZ (gq (dy 0) dR)) (gA (vc (zpU T) T.q37 hr (dB (dy 0) dF))))))))))
def Ur:dD ["text"] ["text"] (defScope Sq):=fO
def Mc:FS:=fX (sw oX (fB (iY gp db) (λ_=>Ga true) (dY pO db (dL (.str "0123456789"))) []))
def sO:List D->Option D:=eG 1 1 Mc
def HI (T:Txt P w K mg t):dJ P w K mg base dS 1 t.a_q8 t.d8 ["text"] (fj K sO) :=
 fu T.q8.F Ur λhr=>dP (eA (BD rfl rfl T.b_all (PO.sh (iH rfl (cO Ur (fr:=[])) (lZ (dy 0)) (gA (Sr (ee hr) (dy 0) (To T.c_FIGURES)))))))
def Bm:dD ["text","figures","number"] ["text"] (defScope OS):=fO
abbrev ck:=ie fR de
abbrev aj:=lJ (KU mf mf cJ ck cB)
abbrev aP:=zx db bY (su)
abbrev bi:=gR gf (ie gN df) db
def Mg:FS:=eK (fU 1 (pY (gW (dY iJ db (dL (.str "-")))) aP db)) (eK (fH (mh aj (lJ (gW (eD sO cg)))) nA fF) (eK (fU 2 (ie pR db)) (eK (fH bi nA fF) (fX df))))
def rH:List D->Option D:=eG 1 3 Mg
def FC:zOq T.q12 P w base dS 2 (fj K rH) :=
 fu T.q12.F Bm λhr=>dW (eR 1 (oC (gL (GT (dy 0) dQ)) (sD (dy 0) (nz dR) oV) (dy 0)) Bm.nd) (dW (eO (iT.b9 (iy (gX (AZ ii ii (il λ_ _ _=>.bl _) (il λ_ _ _=>.bl _) dR (oI rfl T.b_len (dy 1)) (ya T.c_MOST_FIGURES))) (lP (gX (gL (vc (HI T) T.q8 hr (dB (dy 1) dF))))))) (dP mB) fy) (dW (eR 2 (AH rfl T.b_int (dy 0)) Bm.nd) (dW (eO (mR (ee hr) (pJ rfl T.b_str (dy 2)) (dy 0)) (dP mB) fy) (dP (eA (dy 2))))))
abbrev cK:=dU (.int 60)
abbrev ah:=iO (zR mf mf cM (un fR de) cK)
abbrev cx:=un pR db
def zm7:FX:=fV (fk 1 (zE (iL (dX iJ db (dU (.str "-")))) (Er db (pX cM) (zK)) db)) (gO (gQ (oj ah (iO (iL (er sO bV)))) (lI "NoText") (ib)) (fV (fW (oj ah (iO (iL (er sO bV)))) (gw) gb) (fV (fk 2 cx) (gQ (eM gf (un gN df) db) (lI "NoText") (ib)))))
def yQ:List D->Option Str:=lq 1 3 zm7
def Pp:zOq T.q12 P w base (zl P w) 2 (lA K mg yQ) :=
 oG T.q12.F Bm λhr=>mX (eR 1 (oC (gL (GT (dy 0) dQ)) (sD (dy 0) (nz dR) oV) (dy 0)) Bm.nd) (ou (iI (iT.b9 (iy (gX (AZ ii ii (il λ_ _ _=>.bl _) (il λ_ _ _=>.bl _) dR (oI rfl T.b_len (dy 1)) (ya T.c_MOST_FIGURES))) (lP (gX (gL (vc (HI T) T.q8 hr (dB (dy 1) dF))))))) (gu (Pj T.x_NoText)) lV) (eO (iT.b9 (iy (gX (AZ ii ii (il λ_ _ _=>.bl _) (il λ_ _ _=>.bl _) dR (oI rfl T.b_len (dy 1)) (ya T.c_MOST_FIGURES))) (lP (gX (gL (vc (HI T) T.q8 hr (dB (dy 1) dF))))))) mU fy) (mX (eR 2 (AH rfl T.b_int (dy 0)) Bm.nd) (gu (iI (mR (ee hr) (pJ rfl T.b_str (dy 2)) (dy 0)) (gu (Pj T.x_NoText)) lV))))
def YX:zOq T.q12 P w base (fM P w) 2 (lA K mg yQ):=Yu (Pp T)
def zlV:dD ["word"] ["word"] (defScope OA):=fO
abbrev aU:=Er db (pX (dU (.int 4))) (zK)
def zm8:FS:=eJ (fW (oj (eM pH (un fR db) (dU (.int 4))) (oj (eM gf bz (dU (.str "@"))) (eM gf (dX fq db (dU (.int 3))) (dU (.str ">"))))) bQ gb) (eX (er sO (dC (dX eB (dX eB bx bA) aU) eI)))
def Oj:List D->Option D:=eG 1 1 zm8
def Uv (T:Txt P w K mg t):dJ P w K mg base dS 2 t.a_q5 t.d5 ["word"] (fj K Oj) :=
 fu T.q5.F zlV λhr=>dW (eO (iT.b9 (iy (Nf (oI rfl T.b_len (dy 0)) dR) (iy (mR (ee hr) (gq (dy 0) dR) dQ) (lP (mR (ee hr) (gq (dy 0) dR) dQ))))) (dP (eA (lH))) fy) (dP (eA (vc (HI T) T.q8 hr (dB (fK (fK (gq (dy 0) dR) (gq (dy 0) dR)) (sD (dy 0) (nz dR) oV)) dF))))
def Mq:dD ["word"] ["word"] (defScope Wh):=fO
abbrev aH:=iO (iL (er Oj bX))
def zrZ:FS:=eJ (fW aH (gw) gb) (eX (ls (dC (un pR bx) (dC (un pR bA) (dC (er CB (dC (fw (fB (ip gp aU) (λ_=>Ga true) cx [])) eI)) eI)))))
def wQ:List D->Option D:=eG 1 1 zrZ
def Np:zOq T.q32 P w base dS 3 (fj K wQ) :=
 fu T.q32.F Mq λhr=>dW (eO (gX (gL (vc (Uv T) T.q5 hr (dB (dy 0) dF)))) (dP mB) fy) (dP (eA (lX (dB (AH rfl T.b_int (gq (dy 0) dR)) (dB (AH rfl T.b_int (gq (dy 0) dR)) (dB (vc (HG T) T.q67 hr (dB (PO.v9 (iH rfl (cO Mq (fr:=[])) (lZ (sD (dy 0) (nz dR) oV)) (gA (AH rfl T.b_int (dy 0))))) dF)) dF))))))
def XM:FX:=gQ aH (lI "NoText") (ib)
def QH:List D->Option Str:=lq 1 1 XM
def zoU:zOq T.q32 P w base (fM P w) 3 (lA K mg QH) :=
 oG T.q32.F Mq λhr=>gu (iI (gX (gL (vc (Uv T) T.q5 hr (dB (dy 0) dF)))) (gu (so T.x_NoText)) lV)
def mI:dD ["text","words","middle","numbers","falls","run"] ["text"] (defScope Tt):=fO
def Ik:FS:=eK (fU 1 (io (HA pd db (dL (.str " "))))) (eK (fH (gR ik (dL (.str "/")) de) nA fF) (eK (fU 2 (dY pi de (dL (.str "/")))) (eK (FE 3 (zF 3 (fB (iY gp (zx de su (Ay df))) (λ_=>Ga true) (eD rH bZ) []))) (eK (FE 4 (zF 4 (fB (iY gp (zx de (Ay (dY eB df cJ)) su)) (λ_=>Ga true) (eD wQ bZ) []))) (eK (fU 5 (oH (dN (sw nN (zw di)) (dN (sw nN (zw dm)) eS)))) (eK (fH (mh (lJ (gW (eD zJ (dN dq eS)))) (gR gf (eD oN (dN dq eS)) db)) nA fF) (fX dq)))))))
def wy:List D->Option D:=eG 1 6 Ik
def zr0:zOq T.q51 P w base dS 7 (fj K wy) :=
 fu T.q51.F mI λhr=>dW (eR 1 (PO.v9 (HH (dy 0) dQ)) mI.nd) (dW (eO (yG (ee hr) dQ (dy 1)) (dP mB) fy) (dW (eR 2 (VM (dy 1) dQ) mI.nd) (dW (yi 3 (yF 3 rfl (cO mI (fr:=[])) (lZ (sD (dy 1) oV (nz (dy 2)))) (gA (vc (FC T) T.q12 hr (dB (dy 0) dF))) mI.nd)) (dW (yi 4 (yF 4 rfl (cO mI (fr:=[])) (lZ (sD (dy 1) (nz (fK (dy 2) dR)) oV)) (gA (vc (Np T) T.q32 hr (dB (dy 0) dF))) mI.nd)) (dW (eR 5 (lX (dB (yC rfl T.b_tuple (PV.sh (dy 3))) (dB (yC rfl T.b_tuple (PV.sh (dy 4))) dF))) mI.nd) (dW (eO (iT.b9 (iy (gX (gL (vc (Sm T) T.q74 hr (dB (dy 5) dF)))) (lP (mR (ee hr) (vc (Nw T) T.q48 hr (dB (dy 5) dF)) (dy 0))))) (dP mB) fy) (dP (eA (dy 5)))))))))
abbrev ak:=ip gp (Er de (pX (dX eB df cM)) (zK))
abbrev aJ:=ip gp (Er de (zK) (pX df))
def zr1:FX:=fV (fk 1 (fw (Ai pd db (dU (.str " "))))) (gO (gQ (eM ik (dU (.str "/")) de) (lI "NoText") (ib)) (fV (fW (eM ik (dU (.str "/")) de) (gw) gb) (fV (fk 2 (dX pi de (dU (.str "/")))) (gO (GS aJ (er rH bX) (iz bX yQ) []) (fV (zq 3 (zk 3 (fB aJ (λ_=>Ga true) (er rH bX) []))) (gO (GS ak (er wQ bX) (iz bX QH) []) (fV (zq 4 (zk 4 (fB ak (λ_=>Ga true) (er wQ bX) []))) (fV (fk 5 (ls (dC (oW nN (Fv di)) aX))) (gQ (oj (iO (iL (er zJ (dC dq eI)))) (eM gf (er oN (dC dq eI)) db)) (lI "NoText") (ib))))))))))
def Ee:List D->Option Str:=lq 1 6 zr1
def zpW:zOq T.q51 P w base (fM P w) 7 (lA K mg Ee) :=
 oG T.q51.F mI λhr=>mX (eR 1 (PO.v9 (HH (dy 0) dQ)) mI.nd) (ou (iI (yG (ee hr) dQ (dy 1)) (gu (so T.x_NoText)) lV) (eO (yG (ee hr) dQ (dy 1)) mU fy) (mX (eR 2 (VM (dy 1) dQ) mI.nd) (ou (SR (cO mI (fr:=[])) (lZ (sD (dy 1) oV (nz (dy 2)))) (by nofun) rfl (λcl C s H fp ω xe=>vc (FC T) T.q12 hr (dB (dy 0) dF)) (λcl C s H fp ω xe hp=>nw (YX T) hp hr.mo T.q12.m T.q12.F.kp T.q12.b (dB (dy 0) dF))) (yi 3 (yF 3 rfl (cO mI (fr:=[])) (lZ (sD (dy 1) oV (nz (dy 2)))) (gA (vc (FC T) T.q12 hr (dB (dy 0) dF))) mI.nd)) (ou (SR (cO mI (fr:=[])) (lZ (sD (dy 1) (nz (fK (dy 2) dR)) oV)) (by nofun) rfl (λcl C s H fp ω xe=>vc (Np T) T.q32 hr (dB (dy 0) dF)) (λcl C s H fp ω xe hp=>nw (zoU T) hp hr.mo T.q32.m T.q32.F.kp T.q32.b (dB (dy 0) dF))) (yi 4 (yF 4 rfl (cO mI (fr:=[])) (lZ (sD (dy 1) (nz (fK (dy 2) dR)) oV)) (gA (vc (Np T) T.q32 hr (dB (dy 0) dF))) mI.nd)) (mX (eR 5 (lX (dB (yC rfl T.b_tuple (PV.sh (dy 3))) (dB (yC rfl T.b_tuple (PV.sh (dy 4))) dF))) mI.nd) (gu (iI (iT.b9 (iy (gX (gL (vc (Sm T) T.q74 hr (dB (dy 5) dF)))) (lP (mR (ee hr) (vc (Nw T) T.q48 hr (dB (dy 5) dF)) (dy 0))))) (gu (so T.x_NoText)) lV)))))))
def RU:dD ["word"] ["word"] (defScope RQ):=fO
def zuW:FS:=eX (we (Ab mf mf cM (un fR db) (dU (.int 8))) (oW oX (fB (ip gp db) (λ_=>Ga true) (dX pO db (dU (.str "abcdefghijklmnopqrstuvwxyz"))) [])))
def Ub:List D->Option D:=eG 1 1 zuW
def SH:zOq T.q70 P w base dS 1 (fj K Ub) :=
 fu T.q70.F RU λhr=>dP (eA (wz (FN ii ii (il λ_ _ _=>.bl _) (il λ_ _ _=>.bl _) dR (oI rfl T.b_len (dy 0)) (ya T.c_MOST_LETTERS)) (rz (BD rfl rfl T.b_all (PO.sh (iH rfl (cO RU (fr:=[])) (lZ (dy 0)) (gA (Sr (ee hr) (dy 0) (To T.c_LETTERS)))))))))
def Uy:dD ["word"] ["word"] (defScope QN):=fO
abbrev aI:=iO (iL (er Ub bX))
def zr2:FS:=eJ (fW aI (gw) gb) (eX db)
def Tz:List D->Option D:=eG 1 1 zr2
def zpX:zOq T.q33 P w base dS 2 (fj K Tz) :=
 fu T.q33.F Uy λhr=>dW (eO (gX (gL (vc (SH T) T.q70 hr (dB (dy 0) dF)))) (dP mB) fy) (dP (eA (dy 0)))
def zpY:FX:=gQ aI (lI "NoRow") (ib)
def UX:List D->Option Str:=lq 1 1 zpY
def zoV:zOq T.q33 P w base (fM P w) 2 (lA K mg UX) :=
 oG T.q33.F Uy λhr=>gu (iI (gX (gL (vc (SH T) T.q70 hr (dB (dy 0) dF)))) (gu (so T.x_NoRow)) lV)
def UY:dD ["word"] ["word"] (defScope UW):=fO
def zr3:FS:=eJ (fW (eM ik db (dU (.tuple [.str "plain",.str "soon",.str "sure",.str "together"]))) (gw) gb) (eX db)
def RE:List D->Option D:=eG 1 1 zr3
def zpZ:zOq T.q44 P w base dS 1 (fj K RE) :=
 fu T.q44.F UY λhr=>dW (eO (yG (ee hr) (dy 0) (Sf T.g_RULES)) (dP mB) fy) (dP (eA (dy 0)))
def ZV:FX:=gQ (eM ik db (dU (.tuple [.str "plain",.str "soon",.str "sure",.str "together"]))) (lI "NoRow") (ib)
def UI:List D->Option Str:=lq 1 1 ZV
def zoW:zOq T.q44 P w base (fM P w) 1 (lA K mg UI) :=
 oG T.q44.F UY λhr=>gu (iI (yG (ee hr) (dy 0) (Sf T.g_RULES)) (gu (so T.x_NoRow)) lV)
def Hu:dD ["word","most"] ["word","most"] (defScope OH):=fO
abbrev aM:=ip fZ bw
def zoX:FS:=eJ (fW (eM ik db (fw (fB aM (λ_=>Ga true) cD []))) (gw) gb) (eX cx)
def Sx:List D->Option D:=eG 2 2 zoX
def YZ:zOq T.q18 P w base dS 1 (fj K Sx) :=
 fu T.q18.F Hu λhr=>dW (eO (yG (ee hr) (dy 0) (PO.v9 (iH rfl (cO Hu (fr:=[])) (lQ rfl T.b_range (fK (dy 1) dR)) (gA (pJ rfl T.b_str (dy 0)))))) (dP mB) fy) (dP (eA (AH rfl T.b_int (dy 0))))
def znA:FX:=gQ (eM ik db (fw (fB aM (λ_=>Ga true) cD []))) (lI "NoRow") (ib)
def UT:List D->Option Str:=lq 2 2 znA
def zlW:zOq T.q18 P w base (fM P w) 1 (lA K mg UT) :=
 oG T.q18.F Hu λhr=>gu (iI (yG (ee hr) (dy 0) (PO.v9 (iH rfl (cO Hu (fr:=[])) (lQ rfl T.b_range (fK (dy 1) dR)) (gA (pJ rfl T.b_str (dy 0)))))) (gu (so T.x_NoRow)) lV)
def Qp:dD ["word"] ["word"] (defScope Op):=fO
def ZC:FS:=eX (er rH bX)
def QA:List D->Option D:=eG 1 1 ZC
def zoY:zOq T.q26 P w base dS 3 (fj K QA) :=
 fu T.q26.F Qp λhr=>dP (zFK (λ_ _ z=>z) ⟨rfl,rfl⟩ (dP (eA (vc (FC T) T.q12 hr (dB (dy 0) dF)))) T.x_NoText.m T.j_0)
def Zc:FX:=LP (iz bX yQ) "NoText" "NoRow"
def Nh:List D->Option Str:=lq 1 1 Zc
def znB:zOq T.q26 P w base (fM P w) 3 (lA K mg Nh) :=
 oG T.q26.F Qp λhr=>gu (Nj (zFH ⟨rfl,rfl⟩ (Pp T) hr.mo T.q12.m T.q12.F.kp T.q12.b (dB (dy 0) dF) T.x_NoText.m T.j_0 T.j_1 T.x_NoRow))
def Qi:dD ["kind","word"] ["kind","word"] (defScope Qc):=fO
abbrev aG:=dC de (dC (mO MR db) eI)
def zr4:FS:=eJ (fW (oj (eM eF db (dU (.str "name"))) (eM eF db (dU (.str "other")))) (eX (er Tz bV)) gb) (eJ (fW (eM eF db (dU (.str "rule"))) (eX (er RE bV)) gb) (eJ (fW (eM eF db (dU (.str "number"))) (eX (er QA bV)) gb) (eJ (fW (eM eF db (dU (.str "text"))) cS gb) (eX (er Sx aG)))))
def wS:List D->Option D:=eG 2 2 zr4
def OY:zOq T.q46 P w base dS 4 (fj K wS) :=
 fu T.q46.F Qi λhr=>dW (eO (iT.b9 (iy (fE (ee hr) (dy 0) dQ) (lP (fE (ee hr) (dy 0) dQ)))) (dP (eA (vc (zpX T) T.q33 hr (dB (dy 1) dF)))) fy) (dW (eO (fE (ee hr) (dy 0) dQ) (dP (eA (vc (zpZ T) T.q44 hr (dB (dy 1) dF)))) fy) (dW (eO (fE (ee hr) (dy 0) dQ) (dP (eA (vc (zoY T) T.q26 hr (dB (dy 1) dF)))) fy) (dW (eO (fE (ee hr) (dy 0) dQ) (dP (eA (dy 1))) fy) (dP (eA (vc (YZ T) T.q18 hr (dB (dy 1) (dB (AI T.g_MOST (dy 0)) dF))))))))
def zp2:FX:=gO (gQ (oj (eM eF db (dU (.str "name"))) (eM eF db (dU (.str "other")))) (iz bV UX) (ib)) (fV (fW (oj (eM eF db (dU (.str "name"))) (eM eF db (dU (.str "other")))) (gw) gb) (gO (gQ (eM eF db (dU (.str "rule"))) (iz bV UI) (ib)) (fV (fW (eM eF db (dU (.str "rule"))) (gw) gb) (gO (gQ (eM eF db (dU (.str "number"))) (iz bV Nh) (ib)) (fV (fW (eM eF db (dU (.str "number"))) (gw) gb) (fV (fW (eM eF db (dU (.str "text"))) (gw) gb) (iz aG UT)))))))
def ze:List D->Option Str:=lq 2 2 zp2
def zo0:zOq T.q46 P w base (fM P w) 4 (lA K mg ze) :=
 oG T.q46.F Qi λhr=>ou (iI (iT.b9 (iy (fE (ee hr) (dy 0) dQ) (lP (fE (ee hr) (dy 0) dQ)))) (gu (sB (nw (zoV T) ij hr.mo T.q33.m T.q33.F.kp T.q33.b (dB (dy 1) dF)))) lV) (eO (iT.b9 (iy (fE (ee hr) (dy 0) dQ) (lP (fE (ee hr) (dy 0) dQ)))) mU fy) (ou (iI (fE (ee hr) (dy 0) dQ) (gu (sB (nw (zoW T) ij hr.mo T.q44.m T.q44.F.kp T.q44.b (dB (dy 1) dF)))) lV) (eO (fE (ee hr) (dy 0) dQ) mU fy) (ou (iI (fE (ee hr) (dy 0) dQ) (gu (sB (nw (znB T) ij hr.mo T.q26.m T.q26.F.kp T.q26.b (dB (dy 1) dF)))) lV) (eO (fE (ee hr) (dy 0) dQ) mU fy) (mX (eO (fE (ee hr) (dy 0) dQ) mU fy) (gu (sB (nw (zlW T) ij hr.mo T.q18.m T.q18.F.kp T.q18.b (dB (dy 1) (dB (AI T.g_MOST (dy 0)) dF))))))))
def GJ:dD ["row","words"] ["row"] (defScope RK):=fO
abbrev bj:=dY fq de cI
def GO:FS:=eK (fU 1 (pY (gW (dY iJ db (dL (.str "run ")))) (io (zp wl db (dL (.str " ")) cG)) (io (HA pd db (dL (.str " ")))))) (eK (fH (mh (nL hV bj) (gR gf ck (dY eB (ie fR (mO hV bj)) cJ))) nA fF) (fX de))
def rO:List D->Option D:=eG 1 2 GO
def Qm:zOq T.q60 P w base dS 1 (fj K rO) :=
 fu T.q60.F GJ λhr=>dW (eR 1 (oC (gL (GT (dy 0) dQ)) (PO.v9 (UZ (dy 0) dQ dR)) (PO.v9 (HH (dy 0) dQ))) GJ.nd) (dW (eO (iT.b9 (iy (QL T.g_FORMS (gq (dy 1) dR)) (lP (mR (ee hr) (oI rfl T.b_len (dy 1)) (fK (oI rfl T.b_len (AI T.g_FORMS (gq (dy 1) dR))) dR))))) (dP mB) fy) (dP (eA (dy 1))))
abbrev bB:=dX fq de cQ
def zr5:FX:=fV (fk 1 (zE (iL (dX iJ db (dU (.str "run ")))) (fw (zp wl db (dU (.str " ")) cN)) (fw (Ai pd db (dU (.str " ")))))) (gQ (oj (nL hV bB) (eM gf (un fR de) (dX eB (un fR (mO hV bB)) cM))) (lI "NoRow") (ib))
def DZ:List D->Option Str:=lq 1 2 zr5
def zp3:zOq T.q60 P w base (fM P w) 1 (lA K mg DZ) :=
 oG T.q60.F GJ λhr=>mX (eR 1 (oC (gL (GT (dy 0) dQ)) (PO.v9 (UZ (dy 0) dQ dR)) (PO.v9 (HH (dy 0) dQ))) GJ.nd) (gu (iI (iT.b9 (iy (QL T.g_FORMS (gq (dy 1) dR)) (lP (mR (ee hr) (oI rfl T.b_len (dy 1)) (fK (oI rfl T.b_len (AI T.g_FORMS (gq (dy 1) dR))) dR))))) (gu (so T.x_NoRow)) lV))
def sr:dD ["row","words","kinds","asked","place"] ["row"] (defScope Wo):=fO
abbrev bT:=dY fq df dm
abbrev ac:=dN bT (dN (dY fq de (dY eB dm cJ)) eS)
def IY:FS:=eK (fU 1 (eD rO bZ)) (eK (fU 2 (mO hV bj)) (eK (Fl 3) (eK (nD (iY fZ (ie fR df)) cZ (wm 3 bT (eD wS ac))) (Oz 3 (fX (oH (dN bj ce)))))))
def nB:List D->Option D:=eG 1 5 IY
def MI:zOq T.q49 P w base dS 5 (fj K nB) :=
 fu T.q49.F sr λhr=>dW (eR 1 (vc (Qm T) T.q60 hr (dB (dy 0) dF)) sr.nd) (dW (eR 2 (AI T.g_FORMS (gq (dy 1) dR)) sr.nd) (dW (Qz 3 sr.nd) (dW (rD PassesOwn.never rfl (lQ rfl T.b_range (oI rfl T.b_len (dy 2))) (mJ 4 sr.nd) (dP (SW 3 (ee hr) (gq (dy 2) (dy 4)) (vc (OY T) T.q46 hr (dB (gq (dy 2) (dy 4)) (dB (gq (dy 1) (fK (dy 4) dR)) dF)))))) (dP (VB 3 (eA (lX (dB (gq (dy 1) dR) (dB (dy 3) dF)))))))))
abbrev aa:=dC (dX fq df dm) (dC (dX fq de (dX eB dm cM)) eI)
abbrev cy:=un fR df
def zr6:FX:=gO (iz bX DZ) (fV (fk 1 (er rO bX)) (fV (fk 2 (mO hV bB)) (fV (Fl 3) (KO (ip fZ cy) (pK 4) (wm 3 (dX fq df dm) (er wS aa)) (iz aa ze)))))
def yN:List D->Option Str:=lq 1 5 zr6
def zp4:zOq T.q49 P w base (fM P w) 5 (lA K mg yN) :=
 oG T.q49.F sr λhr=>ou (DK 1 (nw (zp3 T) ij hr.mo T.q60.m T.q60.F.kp T.q60.b (dB (dy 0) dF)) sr.nd) (eR 1 (vc (Qm T) T.q60 hr (dB (dy 0) dF)) sr.nd) (mX (eR 2 (AI T.g_FORMS (gq (dy 1) dR)) sr.nd) (mX (Qz 3 sr.nd) (gu (Nj (Yn (Xr ⟨rfl,rfl⟩) rfl (lQ rfl T.b_range (oI rfl T.b_len (dy 2))) (mJ 4 sr.nd) (dP (SW 3 (ee hr) (gq (dy 2) (dy 4)) (vc (OY T) T.q46 hr (dB (gq (dy 2) (dy 4)) (dB (gq (dy 1) (fK (dy 4) dR)) dF))))) (gu (Wk (nw (zo0 T) NF hr.mo T.q46.m T.q46.F.kp T.q46.b (dB (gq (dy 2) (dy 4)) (dB (gq (dy 1) (fK (dy 4) dR)) dF))))))))))
def zi2:dD ["view","bound"] ["view","bound"] (defScope RM):=fO
def zj4:FS:=eX (dX PZ (er oB bX) bw)
def Bh:List D->Option D:=eG 2 2 zj4
def zi3 (T:Txt P w K mg t):dJ P w K mg base dS 3 t.a_q2 t.d_q2 ["view","bound"] (fj K Bh) :=
 fu T.q2.F zi2 λhr=>dP (eA (XF (vc (Dy T) T.q34 hr (dB (dy 0) dF)) (fK (dy 1) dR)))
def YM:dD ["tells","view"] ["tells","view"] (defScope OU):=fO
def Nn:FS:=fX (pY (gW db) (eD yS cg) cU)
def Dd:List D->Option D:=eG 2 2 Nn
def Zs:zOq T.q19 P w base dS 6 (fj K Dd) :=
 fu T.q19.F YM λhr=>dP (eA (oC (gL (dy 0)) (vc (zm4 T) T.q10 hr (dB (dy 1) dF)) pI))
def Yg:dD ["view","bound"] ["view","bound"] (defScope Pu):=fO
def MS:FS:=fX (eD Dd (dN (Kk (eD Bh bL) (eD Br bZ)) bZ))
def rC:List D->Option D:=eG 2 2 MS
def XT:zOq T.q83 P w base dS 7 (fj K rC) :=
 fu T.q83.F Yg λhr=>dP (eA (vc (Zs T) T.q19 hr (dB (ED (vc (zi3 T) T.q2 hr (dB (dy 0) (dB (dy 1) dF))) (rz (vc (zrS T) T.q47 hr (dB (dy 0) dF)))) (dB (dy 0) dF))))
def Yi:dD ["word","view","bound"] ["word","view","bound"] (defScope TU):=fO
def KQ:FS:=eK (fH (gR eF db (dL (.str "plain"))) nA fF) (eK (fH (gR eF db (dL (.str "soon"))) (fX (eD rC bK)) fF) (eK (fH (gR eF db (dL (.str "sure"))) nA fF) nA))
def DI:List D->Option D:=eG 3 3 KQ
def zp6:zOq T.q40 P w base dS 8 (fj K DI) :=
 fu T.q40.F Yi λhr=>dW (eO (fE (ee hr) (dy 0) dQ) (dP mB) fy) (dW (eO (fE (ee hr) (dy 0) dQ) (dP (eA (vc (XT T) T.q83 hr (dB (dy 1) (dB (dy 2) dF))))) fy) (dW (eO (fE (ee hr) (dy 0) dQ) (dP mB) fy) (dP mB)))
def ztS:dD ["asked"] ["asked"] (defScope Vl):=fO
def Yd:Scope:={ kind:=.function,names:=[(jv "view",.local),(jv "asked",.free),(jv "number_by_desk",.globalImplicit)],isGenerator:=false,isCoroutine:=false,more:=[] }
def Yx:sZ "view" ["asked"] Yd:=⟨rfl,rfl,rfl,by nofun,rfl,by nofun,by nofun,by nofun⟩
def sd:FV:=er DI (dC (dX ef de (dU (.str "rule"))) (dC db (dC (dX ef de (dU (.str "bound"))) eI)))
def Vh:zOq T.q63 P w base dS 9 (Bv K 1 t.Pt (gJ P w K mg base 9) sd) :=
 Xj T.q63.F T.lam_cd ztS Yx rfl (λ_ _ _ _ _=>⟨rfl,λh Y=>Jg Y T.lam_hd,T.lam_bm⟩) (by nofun) (by nofun) (λ_ _ _ _ _ _ _=>rfl) (λqual fl cdl cl A outer s H hr=>Uu (zp6 T) hr.mo T.m_number_by_desk T.q40.F.kp T.q40.b (dB (iX (ee hr) (dy 1) dQ) (dB (dy 0) (dB (iX (ee hr) (dy 1) dQ) dF))))
def IE:dD ["pair","first","second"] ["pair"] (defScope Vk):=fO
def Lp:FS:=eK (fU 1 bg) (eK (fU 2 bh) (fX (sw Cp (dN (ie rj de) (dN (dL (.str ":")) (dN (ie rj df) eS))))))
def oU:List D->Option D:=eG 1 3 Lp
def VI:zOq T.q43 P w base dS 1 (fj K oU) :=
 fu T.q43.F IE λhr=>dW (eR 1 (gq (dy 0) dR) IE.nd) (dW (eR 2 (gq (dy 0) dR) IE.nd) (dP (eA (Wp (yh (Dt (dy 1)) (yh dQ (yh (Dt (dy 2)) QO)))))))
def RJ:dD ["run","hand","rounds"] ["run","hand","rounds"] (defScope RT):=fO
def Ng:FS:=eK (fH (gR ik de (io (UO Ad bJ))) (fX (dL (.str "gone"))) fF) (fX (FO (dL (.str " ")) (fB (iY gp (eD mE (dN (dY fq (eD AK bJ) de) eS))) (λ_=>Ga true) (eD oU bZ) [])))
def tH:List D->Option D:=eG 3 3 Ng
def zz7:zOq T.q82 P w base dS 7 (fj K tH) :=
 fu T.q82.F RJ λhr=>dW (eO (yG (ee hr) (dy 1) (PO.v9 (zh (Ix T) hr.mo T.q31.m T.q31.F.kp T.q31.b (dB (dy 0) (dB (dy 2) dF))))) (dP (eA dQ)) fy) (dP (eA (Eb dQ (PO.sh (iH rfl (cO RJ (fr:=[])) (lZ (vc (Ql T) T.q78 hr (dB (gq (vc (PX T) T.q62 hr (dB (dy 0) (dB (dy 2) dF))) (dy 1)) dF))) (gA (vc (VI T) T.q43 hr (dB (dy 0) dF))))))))
def Qd:dD ["rule","run","rounds"] ["rule","run","rounds"] (defScope RI):=fO
abbrev bN:=gR sA db cU
def LW (c:dZ)(φ:D->Option D):FS:=fX (FO (dL (.str " ")) (fB (iY gp (mD 0 c (BA c φ) bK)) (λ_=>Ga true) (pY bN (dL (.str "-")) (eD oU bZ)) []))
def xq (c:dZ)(φ:D->Option D):List D->Option D:=xu 0 3 3 c (LW c φ)
def zuX(hC:mC P w K mg base 9 c φ):zOq T.q73 P w base dS 12 (yR K 0 c (xq c φ)) :=
 Iu T.q73.F Qd (by decide) λhr=>dP (eA (Eb dQ (PO.sh (iH rfl (cO Qd (fr:=[])) (lZ (Ps 0 (Yq T hC) hr.mo T.q64.m T.q64.F.kp T.q64.b (dB (dy 1) (dB (dy 2) dF)))) (gA (oC (CA (dy 0) pI) dQ (vc (VI T) T.q43 hr (dB (dy 0) dF))))))))
def MH:dD ["run","other","rounds","hands"] ["run","other","rounds"] (defScope Te):=fO
def zp8:FS:=eJ (fk 3 (zE (eM eF (er mG bX) (er mG bV)) (Mz) (fw eI))) (eX (zE (eM AA (un fR di) cQ) (Ct (dU (.str " ")) (fB (ip gp di) (λ_=>Ga true) cD [])) (dU (.str "none"))))
def Dm:List D->Option D:=eG 3 4 zp8
def Tj:zOq T.q28 P w base dS 2 (fj K Dm) :=
 fu T.q28.F MH λhr=>dW (eR 3 (oC (fE (ee hr) (vc (tE T) T.q27 hr (dB (dy 0) dF)) (vc (tE T) T.q27 hr (dB (dy 1) dF))) Yj (PO.v9 (gD dF))) MH.nd) (dP (eA (oC (EK (oI rfl T.b_len (dy 3)) dR) (Eb dQ (PO.sh (iH rfl (cO MH (fr:=[])) (lZ (dy 3)) (gA (pJ rfl T.b_str (dy 0)))))) dQ)))
def Go:dD ["run","bound","rounds","number"] ["run","bound","rounds","number"] (defScope TZ):=fO
def Kl:FS:=fX (ie gN (ie fR (eD AG (dN db (dN de (dN df (dN (sw nN (fB (iY fZ (eD mG bZ)) (λ_=>Ga true) de [3])) eS)))))))
def xZ:List D->Option D:=eG 4 4 Kl
def znE:zOq T.q20 P w base dS 10 (fj K xZ) :=
 fu T.q20.F Go λhr=>dP (eA (pJ rfl T.b_str (oI rfl T.b_len (vc (zrV T) T.q57 hr (dB (dy 0) (dB (dy 1) (dB (dy 2) (dB (yC rfl T.b_tuple (PO.sh (iH rfl (cO Go (fr:=["number"])) (lQ rfl T.b_range (vc (tE T) T.q27 hr (dB (dy 0) dF))) (gA (dy 1))))) dF))))))))
def ZM:FX:=iz (dC db (dC de (dC df (dC (oW nN (fB (ip fZ (er mG bX)) (λ_=>Ga true) de [3])) eI)))) Qq
def Gu:List D->Option Str:=lq 4 4 ZM
def zlZ:zOq T.q20 P w base (fM P w) 10 (lA K mg Gu) :=
 oG T.q20.F Go λhr=>gu (sB (SN (zFE (nw (zpQ T) ij hr.mo T.q57.m T.q57.F.kp T.q57.b (dB (dy 0) (dB (dy 1) (dB (dy 2) (dB (yC rfl T.b_tuple (PO.sh (iH rfl (cO Go (fr:=["number"])) (lQ rfl T.b_range (vc (tE T) T.q27 hr (dB (dy 0) dF))) (gA (dy 1))))) dF))))) T.b_len) T.b_str))
def SZ:dD ["rule","run","bound","rounds","told"] ["rule","run","bound","rounds"] (defScope SA):=fO
def znG (c:dZ)(φ:D->Option D):FX:=GZ 0 c aA (Gv c φ)
def Ni (c:dZ)(φ:D->Option D):List D->Option Str:=Ca 4 5 c (znG c φ)
def zl0 (T:Txt P w K mg t)(hC:mC P w K mg base 9 c φ):dJ P w K mg base (fM P w) 11 t.a_q9 t.d9 ["rule","run","bound","rounds"] (xL K mg c (Ni c φ)) :=
 MD T.q9.F SZ λhr=>gu (DK 4 (zBw 0 (ztR T hC) ij hr.mo T.q75.m T.q75.F.kp T.q75.b (dB (dy 1) (dB (dy 2) (dB (dy 3) dF)))) SZ.nd)
def QI:dD ["word","run","asked",".t"] ["word","run","asked"] (defScope RY):=fO
def Ax (mk:(D->Option D)->dZ)(Pt:Gj):FS:=eK (fH (gR eF db (dL (.str "show"))) (fX (eD oN cg)) fF) (eK (fH (gR eF db (dL (.str "waste"))) (fX (ie gN (eD Bn cg))) fF) (eK (fH (gR eF db (dL (.str "close"))) (fX (ie gN (eD AU (dN de (dN (dY ef df (dL (.str "bound"))) eS))))) fF) (eK (fH (gR eF db (dL (.str "know"))) (fX (eD tH (dN de (dN (dY ef df (dL (.str "hand"))) (dN (dY ef df (dL (.str "rounds"))) eS))))) fF) (eK (fH (gR eF db (dL (.str "choose"))) (fX (xn 3 Pt mk sd xq cb (dN de (dN (dY ef df (dL (.str "rounds"))) eS)))) fF) (eK (fH (gR eF db (dL (.str "chain"))) (fX (eD xZ (dN de (dN (dY ef df (dL (.str "bound"))) (dN (dY ef df (dL (.str "rounds"))) (dN (dY ef df (dL (.str "number"))) eS)))))) fF) nA)))))
def rM (mk:(D->Option D)->dZ)(Pt:Gj):List D->Option D:=xM 3 4 Pt (Ax mk Pt)
def zuY:zOq T.q72 P w base dS 13 (spT K t.Pt (rM (gJ P w K mg base 9) t.Pt)) :=
 Lq T.q72.F QI (by decide) (by decide) λhr=>dW (eO (fE (ee hr) (dy 0) dQ) (dP (eA (vc (Nw T) T.q48 hr (dB (dy 1) dF)))) fy) (dW (eO (fE (ee hr) (dy 0) dQ) (dP (eA (pJ rfl T.b_str (vc (Sn T) T.q61 hr (dB (dy 1) dF))))) fy) (dW (eO (fE (ee hr) (dy 0) dQ) (dP (eA (pJ rfl T.b_str (vc (TJ T) T.q4 hr (dB (dy 1) (dB (iX (ee hr) (dy 2) dQ) dF)))))) fy) (dW (eO (fE (ee hr) (dy 0) dQ) (dP (eA (vc (zz7 T) T.q82 hr (dB (dy 1) (dB (iX (ee hr) (dy 2) dQ) (dB (iX (ee hr) (dy 2) dQ) dF)))))) fy) (dW (eO (fE (ee hr) (dy 0) dQ) (dP (eA (zDK 3 (Vh T) hr.mo T.q63.m T.q63.F.kp T.q63.b (dB (dy 2) dF) (λφ=>zuX T (Sw P w K mg base (8+1) φ)) hr.mo T.q73.m T.q73.F.kp T.q73.b (dB (dy 1) (dB (iX (ee hr) (dy 2) dQ) dF))))) fy) (dW (eO (fE (ee hr) (dy 0) dQ) (dP (eA (vc (znE T) T.q20 hr (dB (dy 1) (dB (iX (ee hr) (dy 2) dQ) (dB (iX (ee hr) (dy 2) dQ) (dB (iX (ee hr) (dy 2) dQ) dF))))))) fy) (dP mB))))))
def zuZ (mk:(D->Option D)->dZ)(Pt:Gj):FX:=fV (fW (eM eF db (dU (.str "show"))) (gw) gb) (fV (fW (eM eF db (dU (.str "waste"))) (gw) gb) (gO (gQ (eM eF db (dU (.str "close"))) (iz (dC de (dC (dX ef df (dU (.str "bound"))) eI)) CZ) (ib)) (fV (fW (eM eF db (dU (.str "close"))) (gw) gb) (fV (fW (eM eF db (dU (.str "know"))) (gw) gb) (fV (fW (eM eF db (dU (.str "choose"))) (gw) gb) (gO (gQ (eM eF db (dU (.str "chain"))) (iz (dC de (dC (dX ef df (dU (.str "bound"))) (dC (dX ef df (dU (.str "rounds"))) (dC (dX ef df (dU (.str "number"))) eI)))) Gu) (ib)) (fV (fW (eM eF db (dU (.str "chain"))) (gw) gb) (sL 3 Pt mk sd Ni bW (dC de (dC (dX ef df (dU (.str "bound"))) (dC (dX ef df (dU (.str "rounds"))) eI)))))))))))
def rQ (mk:(D->Option D)->dZ)(Pt:Gj):List D->Option Str:=lq 3 4 (rT 4 Pt (zuZ mk Pt))
def ztU:zOq T.q72 P w base (fM P w) 13 (wT t.Pt (lA K mg (rQ (gJ P w K mg base 9) t.Pt))) :=
 Xl (by decide) T.q72.F QI λhr=>mX (eO (fE (ee hr) (dy 0) dQ) mU fy) (mX (eO (fE (ee hr) (dy 0) dQ) mU fy) (ou (iI (fE (ee hr) (dy 0) dQ) (gu (sB (SN (nw (Vw T) ij hr.mo T.q4.m T.q4.F.kp T.q4.b (dB (dy 1) (dB (iX (ee hr) (dy 2) dQ) dF))) T.b_str))) lV) (eO (fE (ee hr) (dy 0) dQ) mU fy) (mX (eO (fE (ee hr) (dy 0) dQ) mU fy) (mX (eO (fE (ee hr) (dy 0) dQ) mU fy) (ou (iI (fE (ee hr) (dy 0) dQ) (gu (sB (nw (zlZ T) ij hr.mo T.q20.m T.q20.F.kp T.q20.b (dB (dy 1) (dB (iX (ee hr) (dy 2) dQ) (dB (iX (ee hr) (dy 2) dQ) (dB (iX (ee hr) (dy 2) dQ) dF))))))) lV) (eO (fE (ee hr) (dy 0) dQ) mU fy) (gu (sB (zBv 3 (Vh T) hr.mo T.q63.m T.q63.F.kp T.q63.b (dB (dy 2) dF) (λφ=>zl0 T (Sw P w K mg base (8+1) φ)) ij hr.mo T.q9.m T.q9.F.kp T.q9.b (dB (dy 1) (dB (iX (ee hr) (dy 2) dQ) (dB (iX (ee hr) (dy 2) dQ) dF)))))))))))
def zp9:dD ["self"] ["self"] (defScope IX):=fO
def Wn (T:Txt P w K mg t):dJ P w K mg base dS 1 t.a_f_Desk_init t.d_f_Desk_init ["self"] (IV t.C):=okI T.f_Desk_init.F zp9 T.dk rfl (λ_=>rfl) (jS rfl)
def Rv:dD ["self","name"] ["self","name"] (defScope Ir):=fO
abbrev cE:=Ft 0 de
abbrev cF:=Hl 0 de
def zo3 (C:Gj):FS:=eJ (fW (xB 0 C cE) (gw) gb) (eX (Dj 0 C cF))
def pE (C:Gj):Sl->List D->Option D:=wk 2 2 (zo3 C)
def Ld (T:Txt P w K mg t):dJ P w K mg base dS 1 t.a_f_Desk_run_by t.d_f_Desk_run_by ["self","name"] (pf K t.C (pE t.C)) :=
 Xd T.f_Desk_run_by.F Rv (by decide) λhr=>dW (eO (Rw 0 (ee hr) T.dk (dy 1)) (dP mB) fy) (dP (eA (zFx 0 (ee hr) T.dk (dy 1))))
def znH (C:Gj):FX:=gQ (xB 0 C cE) (lI "NoName") (ib)
def rX (C:Gj):Sl->List D->Option Str:=yL 2 2 (znH C)
def Tv (T:Txt P w K mg t):dJ P w K mg base (fM P w) 1 t.a_f_Desk_run_by t.d_f_Desk_run_by ["self","name"] (wq K mg t.C (rX t.C)) :=
 Xs T.f_Desk_run_by.F Rv (by decide) λhr=>gu (iI (Rw 0 (ee hr) T.dk (dy 1)) (gu (so T.x_NoName)) lV)
def nJ:dD ["self","row","read","word","asked","run",".t"] ["self","row"] (defScope AE):=fO
abbrev aQ:=fU 3 (dY fq df cI)
abbrev aR:=fU 4 (dY fq df cJ)
def FH (C r:Gj):FS:=eK (fU 2 (eD nB cg)) (eK aQ (eK aR (eK (fH (gR eF di (dL (.str "run"))) (eK (zB [r] 0 C (dY ef dm (dL (.str "name"))) (eD wy (dN (dY ef dm (dL (.str "text"))) eS))) (Wc (dL (.str "ok")))) fF) nA)))
def mW (C:Gj):Sl->List D->Option (D×List (Str×D)):=BV 2 7 (FH C)
def zr9 (T:Txt P w K mg t)(r:Gj)(hr:eP (13) (A.deeper (envOfC "Desk.say" (defScope AE) s.heap.objs.size t.a_f_Desk_say cdv))) :
  om (fN dS P w K mg base ["self","row","read","word","asked","run",".t"] "Desk.say" (defScope AE) t.a_f_Desk_say cdv A outer s H E).nox [r] (defBody AE) (FH t.C r) :=
 tQ (oY (eR 2 (vc (MI T) T.q49 hr (dB (dy 1) dF)) nJ.nd)) (tQ (oY (eR 3 (gq (dy 2) dR) nJ.nd)) (tQ (oY (eR 4 (gq (dy 2) dR) nJ.nd)) (tQ (EQ (fE (ee hr) (dy 3) dQ) (tQ (zG4 0 (ee hr) T.dk (iX (ee hr) (dy 4) dQ) (vc (zr0 T) T.q51 hr (dB (iX (ee hr) (dy 4) dQ) dF))) (ym (ZU dQ))) Hb) (zBr (λ_=>rfl)))))
def VU (T:Txt P w K mg t):dJ P w K mg base dS 14 t.a_f_Desk_say t.d_f_Desk_say ["self","row"] (CO K t.C (mW t.C)) :=
 okQ T.f_Desk_say.F nJ (by decide) λr=>λhr=>zr9 T r hr
abbrev aN:=dN di (dN dq (dN dm eS))
def FW (C:Gj)(mk:(D->Option D)->dZ)(Pt:Gj):FS:=eK (fU 2 (eD nB cg)) (eK aQ (eK aR (eK (fH (gR eF di (dL (.str "run"))) nA fF) (eK (fU 5 (eW 0 C (pE C) (dN (dY ef dm (dL (.str "name"))) eS))) (eK (fH (gR eF di (dL (.str "alike"))) (fX (eD Dm (dN dq (dN (eW 0 C (pE C) (dN (dY ef dm (dL (.str "other"))) eS)) (dN (dY ef dm (dL (.str "rounds"))) eS))))) fF) (fX (wH 6 Pt (rM mk Pt) aN)))))))
def lT (C:Gj)(mk:(D->Option D)->dZ)(Pt:Gj):Sl->List D->Option D:=wk 2 7 (rT 7 Pt (FW C mk Pt))
def QZ (T:Txt P w K mg t):dJ P w K mg base dS 14 t.a_f_Desk_say t.d_f_Desk_say ["self","row"] (wT t.Pt (pf K t.C (lT t.C (gJ P w K mg base 9) t.Pt))) :=
 Ch (by decide) T.f_Desk_say.F nJ (by decide) λhr=>dW (eR 2 (vc (MI T) T.q49 hr (dB (dy 1) dF)) nJ.nd) (dW (eR 3 (gq (dy 2) dR) nJ.nd) (dW (eR 4 (gq (dy 2) dR) nJ.nd) (dW (eO (fE (ee hr) (dy 3) dQ) mU fy) (dW (eR 5 (Kq (by decide) (xa 0 T.dk.cl T.f_Desk_run_by.m (Ld T) hr.mo T.f_Desk_run_by.b iC (dB (iX (ee hr) (dy 4) dQ) dF))) nJ.nd) (dW (eO (fE (ee hr) (dy 3) dQ) (dP (eA (vc (Tj T) T.q28 hr (dB (dy 5) (dB (Kq (by decide) (xa 0 T.dk.cl T.f_Desk_run_by.m (Ld T) hr.mo T.f_Desk_run_by.b iC (dB (iX (ee hr) (dy 4) dQ) dF))) (dB (iX (ee hr) (dy 4) dQ) dF)))))) fy) (dP (eA (zC6 6 (zuY T) hr.mo T.q72.m T.q72.F.kp T.q72.b (dB (dy 3) (dB (dy 5) (dB (dy 4) dF)))))))))))
abbrev aB:=dC di (dC dq (dC dm eI))
def zsA (C:Gj)(mk:(D->Option D)->dZ)(Pt:Gj):FX:=gO (iz bV yN) (fV (fk 2 (er nB bV)) (fV (fk 3 (dX fq df cQ)) (fV (fk 4 (dX fq df cM)) (gO (gQ (eM eF di (dU (.str "run"))) (iz (dC (dX ef dm (dU (.str "text"))) eI) Ee) (ib)) (fV (fW (eM eF di (dU (.str "run"))) (gw) gb) (gO (iM 0 C (rX C) (dC (dX ef dm (dU (.str "name"))) eI)) (fV (fk 5 (eW 0 C (pE C) (dC (dX ef dm (dU (.str "name"))) eI))) (gO (gQ (eM eF di (dU (.str "alike"))) (yu dq (iM 0 C (rX C) (dC (dX ef dm (dU (.str "other"))) eI))) (ib)) (fV (fW (eM eF di (dU (.str "alike"))) (gw) gb) (gi 6 Pt (iz aB (rQ mk Pt))))))))))))
def lU (C:Gj)(mk:(D->Option D)->dZ)(Pt:Gj):Sl->List D->Option Str:=yL 2 7 (rT 7 Pt (zsA C mk Pt))
def zqA (T:Txt P w K mg t):dJ P w K mg base (fM P w) 14 t.a_f_Desk_say t.d_f_Desk_say ["self","row"] (wT t.Pt (wq K mg t.C (lU t.C (gJ P w K mg base 9) t.Pt))) :=
 NM (by decide) T.f_Desk_say.F nJ (by decide) λhr=>ou (DK 2 (nw (zp4 T) ij hr.mo T.q49.m T.q49.F.kp T.q49.b (dB (dy 1) dF)) nJ.nd) (eR 2 (vc (MI T) T.q49 hr (dB (dy 1) dF)) nJ.nd) (mX (eR 3 (gq (dy 2) dR) nJ.nd) (mX (eR 4 (gq (dy 2) dR) nJ.nd) (ou (iI (fE (ee hr) (dy 3) dQ) (gu (Wk (nw (zpW T) ij hr.mo T.q51.m T.q51.F.kp T.q51.b (dB (iX (ee hr) (dy 4) dQ) dF)))) lV) (eO (fE (ee hr) (dy 3) dQ) mU fy) (ou (DK 5 (TW (by decide) (xa 0 T.dk.cl T.f_Desk_run_by.m (Tv T) hr.mo T.f_Desk_run_by.b ij (dB (iX (ee hr) (dy 4) dQ) dF))) nJ.nd) (eR 5 (Kq (by decide) (xa 0 T.dk.cl T.f_Desk_run_by.m (Ld T) hr.mo T.f_Desk_run_by.b iC (dB (iX (ee hr) (dy 4) dQ) dF))) nJ.nd) (ou (iI (fE (ee hr) (dy 3) dQ) (gu (sB (zBs (Tj T) hr.mo T.q28.m T.q28.F.kp T.q28.b (zG9 (dy 5) (zG8 (TW (by decide) (xa 0 T.dk.cl T.f_Desk_run_by.m (Tv T) hr.mo T.f_Desk_run_by.b ij (dB (iX (ee hr) (dy 4) dQ) dF)))))))) lV) (eO (fE (ee hr) (dy 3) dQ) mU fy) (gu (sB (zBx 6 (ztU T) ij hr.mo T.q72.m T.q72.F.kp T.q72.b (dB (dy 3) (dB (dy 5) (dB (dy 4) dF)))))))))))
def znI:dD ["script","k"] ["script","k"] (defScope Uc):=fO
def Kw:FS:=eK (fH (gR pH de cu) (fX (dY gy db de)) fF) (fX cI)
def xo:List D->Option D:=eG 2 2 Kw
def TR:zOq T.q16 P w base dS 1 (fj K xo) :=
 fu T.q16.F znI λhr=>dW (eO (Nf (dy 1) (oS rfl T.b_len (dy 0))) (dP (eA (fC (dy 0) (dy 1)))) fy) (dP (eA dR))
def DM:dD ["desk","row","kinds","e",".t"] ["desk","row"] (defScope Hi):=fO
def kb (mkx:Str->dZ)(c:Str)(b0 b1 b2 b3 b4 b5 b6:Bool):FS:=eJ (fk 2 (fw (dC (mY 3 (mkx c) b0) (dC (mY 3 (mkx c) b1) (dC (mY 3 (mkx c) b2) (dC (mY 3 (mkx c) b3) eI)))))) (fk 2 (dX eB df (fw (dC (mY 3 (mkx c) b4) (dC (mY 3 (mkx c) b5) (dC (mY 3 (mkx c) b6) eI))))))
def kL (mkx:Str->dZ):List (Str×FS):=[("Closed",kb mkx "Closed" false false false false true false true),("NoBound",kb mkx "NoBound" false false false true false false true),("NoName",kb mkx "NoName" false false true false false false true),("NoRow",kb mkx "NoRow" true false false false false false true),("NoText",kb mkx "NoText" false true false false false false true)]
def hS:Stmt->List Stmt
 | .Try _ [.ExceptHandler _ _ b _] _ _ _=>b
 | _=>[]
def Nv (C:Gj)(mkx:Str->dZ)(mk:(D->Option D)->dZ)(Pt:Gj):FS:=eJ (fk 2 (fw eI)) (eJ (Af gw (gi 4 Pt (iM 0 C (lU C mk Pt) (dC de eI))) ((kL mkx).map Prod.fst) 3 mkx (yD (kL mkx))) (eX df))
def pq (C:Gj)(mkx:Str->dZ)(mk:(D->Option D)->dZ)(Pt:Gj):Sl->List D->Option D:=wk 2 5 (rT 5 Pt (Nv C mkx mk Pt))
def kq (T:Txt P w K mg t){c:Str}{b0 b1 b2 b3 b4 b5 b6:Bool}(Y:rm K mg c a)(j0:jy K (.ref a) (.ref t.x_NoRow)=Ga b0)(j1:jy K (.ref a) (.ref t.x_NoText)=Ga b1)(j2:jy K (.ref a) (.ref t.x_NoName)=Ga b2)(j3:jy K (.ref a) (.ref t.x_NoBound)=Ga b3)(j4:jy K (.ref a) (.ref t.x_Closed)=Ga b4)(j5:uD K (.ref a) [.ref t.x_NoRun,.ref t.x_NoNumbers]=Ga b5)(j6:jy K (.ref a) (.type "ValueError")=Ga b6):∀ v,fT (Cx.inX (fN dS P w K mg base ["desk","row","kinds","e",".t"] "_law_kinds" (defScope Hi) t.a30 cdv A outer s H E).nox v) (hS ((defBody Hi).getD 1 (.Pass ⟨0,0,0,0⟩))) (kb (yB mg) c b0 b1 b2 b3 b4 b5 b6) :=
 (λv=>dW (eR 2 (PO.v9 (gD (dB (AQ 3 rfl T.b_isinstance Y.m Y.f.ek (v:=.ref t.x_NoRow) (λu r=>by cases r;exact j0) (lR rfl T.x_NoRow.m rfl)) (dB (AQ 3 rfl T.b_isinstance Y.m Y.f.ek (v:=.ref t.x_NoText) (λu r=>by cases r;exact j1) (lR rfl T.x_NoText.m rfl)) (dB (AQ 3 rfl T.b_isinstance Y.m Y.f.ek (v:=.ref t.x_NoName) (λu r=>by cases r;exact j2) (lR rfl T.x_NoName.m rfl)) (dB (AQ 3 rfl T.b_isinstance Y.m Y.f.ek (v:=.ref t.x_NoBound) (λu r=>by cases r;exact j3) (lR rfl T.x_NoBound.m rfl)) dF)))))) DM.nd) (dP (eR 2 (fK (dy 2) (PO.v9 (gD (dB (AQ 3 rfl T.b_isinstance Y.m Y.f.ek (v:=.ref t.x_Closed) (λu r=>by cases r;exact j4) (lR rfl T.x_Closed.m rfl)) (dB (zC9 3 rfl T.b_isinstance Y.m Y.f.ek (vs:=[.ref t.x_NoRun,.ref t.x_NoNumbers]) (λus r=>(zyS (as:=[t.x_NoRun,t.x_NoNumbers]) r)▸j5) (Uo (lR rfl T.x_NoRun.m rfl) (Uo (lR rfl T.x_NoNumbers.m rfl) zEM)) (by show 2<=1000;decide)) (dB (AQ 3 rfl T.b_isinstance Y.m Y.f.ek (v:=.ty "ValueError") (λu r=>by cases r;exact j6) (Tq rfl T.b_ValueError rfl)) dF)))))) DM.nd)))
def FI:zOq T.q30 P w base dS 15 (wT t.Pt (pf K t.C (pq t.C (yB mg) (gJ P w K mg base 9) t.Pt))) :=
 Ch (by decide) T.q30.F DM (by decide) λhr=>dW (eR 2 (PO.v9 (gD dF)) DM.nd) (dW (zG0 (λ_ _ z=>z) ⟨rfl,rfl⟩ (dP mB) (ZF (zEL (Yb 4 0 (λ_ _ z=>z) T.dk.cl T.f_Desk_say.m (by decide) (zqA T) hr.mo T.f_Desk_say.b (dB (dy 1) dF)))) T.x_RoundError.m T.j_2 (DW ⟨_,T.x_Closed.m,T.j_42⟩ (DW ⟨_,T.x_NoBound.m,T.j_34⟩ (DW ⟨_,T.x_NoName.m,T.j_26⟩ (DW ⟨_,T.x_NoRow.m,T.j_18⟩ (DW ⟨_,T.x_NoText.m,T.j_10⟩ (λc h=>by cases h)))))) (DP (kq T T.x_Closed T.j_35 T.j_36 T.j_37 T.j_38 T.j_39 T.j_40 T.j_41) (DP (kq T T.x_NoBound T.j_27 T.j_28 T.j_29 T.j_30 T.j_31 T.j_32 T.j_33) (DP (kq T T.x_NoName T.j_19 T.j_20 T.j_21 T.j_22 T.j_23 T.j_24 T.j_25) (DP (kq T T.x_NoRow T.j_11 T.j_12 T.j_13 T.j_14 T.j_15 T.j_16 T.j_17) (DP (kq T T.x_NoText T.j_3 T.j_4 T.j_5 T.j_6 T.j_7 T.j_8 T.j_9) zDa))))) DM.nd) (dP (eA (dy 2))))
def RF:dD ["word"] ["word"] (defScope CJ):=fO
def OM:FS:=eX (dX eB (fw (fB (ip gp (fw (nZ ["row","text","name","bound","closed","none"]))) (λ_=>Ga true) (dX eF de db) [0])) (fw (dC (dU (.bool true)) eI)))
def tK:List D->Option D:=eG 1 1 OM
def ztV (T:Txt P w K mg t)(hr:eP (0) (A.deeper (envOfC "_law_due" (defScope CJ) s.heap.objs.size t.a65 cdv))) :
  fT (fN dS P w K mg base ["word"] "_law_due" (defScope CJ) t.a65 cdv A outer s H E).nox (defBody CJ) OM:=by
 exact dP (eA (fK (PO.v9 (iH rfl (cO RF (fr:=["word"])) (lZ (PO.v9 (gD (rG (xs:=["row","text","name","bound","closed","none"]) (by nofun)) (by nofun)))) (gA (on (ee hr) (dy 1) (dy 0))))) (PO.v9 (gD (dB (lH) dF)))))
def GB:zOq T.q65 P w base dS 1 (fj K tK) :=
 fu T.q65.F RF (ztV T)
def oJ:dD ["cell","far","some"] ["cell","far"] (defScope CQ):=fO
abbrev be:=dX gG db cy
abbrev ar:=dX fq df be
abbrev cL:=dU (.int 10)
abbrev bC:=dX eB de (dU (.int 5))
def GA:FS:=eJ (fk 2 (fw (nZ [""," ","run","run ","run a","run  1 2 /","run A 1 2 /","run abcdefghi 1 2 /","run a1 1 2 /"]))) (eJ (fk 2 (dX eB df (fw (nZ ["Run a 1 2 /"," run a 1 2 /","show","show ","show A","show a b","show  a","show a ","waste"])))) (eJ (fk 2 (dX eB df (fw (nZ ["waste a 1","waste 1","close a","close a 4","close a -1","close a 01","close a x"])))) (eJ (fk 2 (dX eB df (fw (dC (dU (.str "close a 1 ")) eI)))) (eJ (fk 2 (dX eB df (fw (nZ ["close 1 a","know a 0","know a","know a 5 1","know a 0 5","know a 0 1 1","know a -1 1"])))) (eJ (fk 2 (dX eB df (fw (dC (dX eB (dU (.str "know a 0 ")) (un gN bC)) (dC (dU (.str "choose a plain 1")) (dC (dU (.str "choose a Plain 1 1")) (dC (dU (.str "choose a least 1 1")) eI))))))) (eJ (fk 2 (dX eB df (fw (dC (dU (.str "choose a plain 4 1")) (dC (dU (.str "choose a plain 1 5")) (dC (dU (.str "choose plain a 1 1")) eI)))))) (eJ (fk 2 (dX eB df (fw (nZ ["alike a b","alike a 1","alike a b 5","alike a b 1 1","alike a  b 1","chain a 1 1"])))) (eJ (fk 2 (dX eB df (fw (dC (dU (.str "chain a 1 1 01")) eI)))) (eJ (fk 2 (dX eB df (fw (dC (dU (.str "chain a 1 1 -0")) (dC (dU (.str "chain a 1 1 +1")) (dC (dU (.str "chain a 1 1 1_0")) (dC (dX eB (dU (.str "chain a 1 1 ")) (un gN (dX eB (dX ir cL cK) de))) eI))))))) (eJ (fk 2 (dX eB df (fw (nZ ["chain a 4 1 1","chain a 1 5 1","chain a 1 1 1 1","break a plain 1","break a plain 1 1 1"])))) (eJ (fk 2 (dX eB df (fw (dC (dU (.str "break a x 1 1")) (dC (dU (.str "break a soon 1 9")) eI))))) (eJ (fk 2 (dX eB df (fw (nZ ["ok","none","\n","show a\n","waste\ta","break a plain 1 1 ","alike a b c"])))) (eX ar)))))))))))))
def yf:List D->Option D:=eG 2 3 GA
def zo5 (T:Txt P w K mg t)(hr:eP (0) (A.deeper (envOfC "_law_no_row" (defScope CQ) s.heap.objs.size t.a22 cdv))) :
  fT (fN dS P w K mg base ["cell","far","some"] "_law_no_row" (defScope CQ) t.a22 cdv A outer s H E).nox (defBody CQ) GA:=by
 refine dW ?_ ?_
 .refine eR 2 ?_ ?_ ?_ ?_ ?_ ?_
  .refine PO.v9 ?_;refine gD ?_ ?_
   .refine rG ?_;decide +kernel
   .decide +kernel
  .exact oJ.nd
  .rfl
  .first|exact jS rfl|exact jK rfl
  .rfl
  .first|exact .inl rfl|exact .inr rfl
 .refine dW ?_ ?_
  .refine eR 2 ?_ ?_ ?_ ?_ ?_ ?_
   .refine fK ?_ ?_
    .exact dy 2
    .refine PO.v9 ?_;refine gD ?_ ?_
     .refine rG ?_;decide +kernel
     .decide +kernel
   .exact oJ.nd
   .rfl
   .first|exact jS rfl|exact jK rfl
   .rfl
   .first|exact .inl rfl|exact .inr rfl
  .refine dW ?_ ?_
   .refine eR 2 ?_ ?_ ?_ ?_ ?_ ?_
    .refine fK ?_ ?_
     .exact dy 2
     .refine PO.v9 ?_;refine gD ?_ ?_
      .refine rG ?_;decide +kernel
      .decide +kernel
    .exact oJ.nd
    .rfl
    .first|exact jS rfl|exact jK rfl
    .rfl
    .first|exact .inl rfl|exact .inr rfl
   .refine dW ?_ ?_
    .refine eR 2 ?_ ?_ ?_ ?_ ?_ ?_
     .refine fK ?_ ?_
      .exact dy 2
      .refine PO.v9 ?_;exact gD (dB dQ dF)
     .exact oJ.nd
     .rfl
     .first|exact jS rfl|exact jK rfl
     .rfl
     .first|exact .inl rfl|exact .inr rfl
    .refine dW ?_ ?_
     .refine eR 2 ?_ ?_ ?_ ?_ ?_ ?_
      .refine fK ?_ ?_
       .exact dy 2
       .refine PO.v9 ?_;refine gD ?_ ?_
        .refine rG ?_;decide +kernel
        .decide +kernel
      .exact oJ.nd
      .rfl
      .first|exact jS rfl|exact jK rfl
      .rfl
      .first|exact .inl rfl|exact .inr rfl
     .refine dW ?_ ?_
      .refine eR 2 ?_ ?_ ?_ ?_ ?_ ?_
       .refine fK ?_ ?_
        .exact dy 2
        .refine PO.v9 ?_;exact gD (dB (fK dQ (pJ rfl T.b_str (fK (dy 1) dR))) (dB dQ (dB dQ (dB dQ dF))))
       .exact oJ.nd
       .rfl
       .first|exact jS rfl|exact jK rfl
       .rfl
       .first|exact .inl rfl|exact .inr rfl
      .refine dW ?_ ?_
       .refine eR 2 ?_ ?_ ?_ ?_ ?_ ?_
        .refine fK ?_ ?_
         .exact dy 2
         .refine PO.v9 ?_;exact gD (dB dQ (dB dQ (dB dQ dF)))
        .exact oJ.nd
        .rfl
        .first|exact jS rfl|exact jK rfl
        .rfl
        .first|exact .inl rfl|exact .inr rfl
       .refine dW ?_ ?_
        .refine eR 2 ?_ ?_ ?_ ?_ ?_ ?_
         .refine fK ?_ ?_
          .exact dy 2
          .refine PO.v9 ?_;refine gD ?_ ?_
           .refine rG ?_;decide +kernel
           .decide +kernel
         .exact oJ.nd
         .rfl
         .first|exact jS rfl|exact jK rfl
         .rfl
         .first|exact .inl rfl|exact .inr rfl
        .refine dW ?_ ?_
         .refine eR 2 ?_ ?_ ?_ ?_ ?_ ?_
          .refine fK ?_ ?_
           .exact dy 2
           .refine PO.v9 ?_;exact gD (dB dQ dF)
          .exact oJ.nd
          .rfl
          .first|exact jS rfl|exact jK rfl
          .rfl
          .first|exact .inl rfl|exact .inr rfl
         .refine dW ?_ ?_
          .refine eR 2 ?_ ?_ ?_ ?_ ?_ ?_
           .refine fK ?_ ?_
            .exact dy 2
            .refine PO.v9 ?_;exact gD (dB dQ (dB dQ (dB dQ (dB (fK dQ (pJ rfl T.b_str (fK (DC dR dR) (dy 1)))) dF))))
           .exact oJ.nd
           .rfl
           .first|exact jS rfl|exact jK rfl
           .rfl
           .first|exact .inl rfl|exact .inr rfl
          .refine dW ?_ ?_
           .refine eR 2 ?_ ?_ ?_ ?_ ?_ ?_
            .refine fK ?_ ?_
             .exact dy 2
             .refine PO.v9 ?_;refine gD ?_ ?_
              .refine rG ?_;decide +kernel
              .decide +kernel
            .exact oJ.nd
            .rfl
            .first|exact jS rfl|exact jK rfl
            .rfl
            .first|exact .inl rfl|exact .inr rfl
           .refine dW ?_ ?_
            .refine eR 2 ?_ ?_ ?_ ?_ ?_ ?_
             .refine fK ?_ ?_
              .exact dy 2
              .refine PO.v9 ?_;exact gD (dB dQ (dB dQ dF))
             .exact oJ.nd
             .rfl
             .first|exact jS rfl|exact jK rfl
             .rfl
             .first|exact .inl rfl|exact .inr rfl
            .refine dW ?_ ?_
             .refine eR 2 ?_ ?_ ?_ ?_ ?_ ?_
              .refine fK ?_ ?_
               .exact dy 2
               .refine PO.v9 ?_;refine gD ?_ ?_
                .refine rG ?_;decide +kernel
                .decide +kernel
              .exact oJ.nd
              .rfl
              .first|exact jS rfl|exact jK rfl
              .rfl
              .first|exact .inl rfl|exact .inr rfl
             .exact dP (eA (gq (dy 2) (sC (dy 0) (oI rfl T.b_len (dy 2)))))
def zo6:zOq T.q22 P w base dS 1 (fj K yf) :=
 fu T.q22.F oJ (zo5 T)
def VF:dD ["cell","some"] ["cell"] (defScope Eo):=fO
abbrev bv:=dX gG db cL
def RD:FS:=eJ (fk 1 (fw (nZ ["","1 2","1 /","1 2 / 0@1>0","1 2 /  0@1>"," 1 2 /","1 2 / ","1 02 /","1 2 / 1@1> 0@1>"]))) (eX (dX eB (dX eB (dX eB (dU (.str "run ")) (dX fq (fw (dC (dU (.str "a")) (dC (dU (.str "b")) (dC (dU (.str "zz")) eI)))) (dX gG (dX ph db cL) (dU (.int 3))))) (dU (.str " "))) (dX fq (dX eB de (fw (dC (dU (.str "1 2 / 0@6>")) eI))) bv)))
def tN:List D->Option D:=eG 1 2 RD
def znJ (T:Txt P w K mg t)(hr:eP (0) (A.deeper (envOfC "_law_no_text" (defScope Eo) s.heap.objs.size t.a11 cdv))) :
  fT (fN dS P w K mg base ["cell","some"] "_law_no_text" (defScope Eo) t.a11 cdv A outer s H E).nox (defBody Eo) RD:=by
 refine dW ?_ ?_
 .refine eR 1 ?_ ?_ ?_ ?_ ?_ ?_
  .refine PO.v9 ?_;refine gD ?_ ?_
   .refine rG ?_;decide +kernel
   .decide +kernel
  .exact VF.nd
  .rfl
  .first|exact jS rfl|exact jK rfl
  .rfl
  .first|exact .inl rfl|exact .inr rfl
 .exact dP (eA (fK (fK (fK dQ (gq (PO.v9 (gD (dB dQ (dB dQ (dB dQ dF))))) (sC (Wl (dy 0) dR) dR))) dQ) (gq (fK (dy 1) (PO.v9 (gD (dB dQ dF)))) (sC (dy 0) dR))))
def znK:zOq T.q11 P w base dS 1 (fj K tN) :=
 fu T.q11.F VF (znJ T)
def Tp:dD ["cell","some"] ["cell"] (defScope CK):=fO
def Pn:FS:=eJ (fk 1 (fw (nZ ["show c","waste c","close c 0","know c 0 1","choose c plain 1 1","alike a c 1","alike c a 1"]))) (eX (dX fq (dX eB de (fw (dC (dU (.str "alike c c 0")) (dC (dU (.str "chain c 1 1 5")) (dC (dU (.str "break c soon 1 1")) eI))))) bv))
def tR:List D->Option D:=eG 1 2 Pn
def znL (T:Txt P w K mg t)(hr:eP (0) (A.deeper (envOfC "_law_no_name" (defScope CK) s.heap.objs.size t.a14 cdv))) :
  fT (fN dS P w K mg base ["cell","some"] "_law_no_name" (defScope CK) t.a14 cdv A outer s H E).nox (defBody CK) Pn:=by
 refine dW ?_ ?_
 .refine eR 1 ?_ ?_ ?_ ?_ ?_ ?_
  .refine PO.v9 ?_;refine gD ?_ ?_
   .refine rG ?_;decide +kernel
   .decide +kernel
  .exact Tp.nd
  .rfl
  .first|exact jS rfl|exact jK rfl
  .rfl
  .first|exact .inl rfl|exact .inr rfl
 .exact dP (eA (gq (fK (dy 1) (PO.v9 (gD (dB dQ (dB dQ (dB dQ dF)))))) (sC (dy 0) dR)))
def znM:zOq T.q14 P w base dS 1 (fj K tR) :=
 fu T.q14.F Tp (znL T)
def Gx:dD ["cell","some"] ["cell"] (defScope CY):=fO
def Ox:FS:=eJ (fk 1 (fw (dC (ls (dC (dU (.str "close a 0")) (dC (dU (.str "bound")) eI))) (dC (ls (dC (dU (.str "close a 2")) (dC (dU (.str "bound")) eI))) (dC (ls (dC (dU (.str "close b 1")) (dC (dU (.str "bound")) eI))) (dC (ls (dC (dU (.str "chain a 0 0 5")) (dC (dU (.str "bound")) eI))) eI)))))) (eJ (fk 1 (dX eB de (fw (dC (ls (dC (dU (.str "chain a 1 2 5")) (dC (dU (.str "closed")) eI))) (dC (ls (dC (dU (.str "chain a 1 4 5")) (dC (dU (.str "closed")) eI))) (dC (ls (dC (dU (.str "break a soon 1 2")) (dC (dU (.str "closed")) eI))) eI)))))) (eJ (fk 1 (dX eB de (fw (dC (ls (dC (dU (.str "break a plain 0 1")) (dC (dU (.str "bound")) eI))) (dC (ls (dC (dU (.str "chain b 0 1 5")) (dC (dU (.str "closed")) eI))) (dC (ls (dC (dU (.str "break b sure 0 3")) (dC (dU (.str "closed")) eI))) eI)))))) (eX (dX fq de bv))))
def xV:List D->Option D:=eG 1 2 Ox
def YS (T:Txt P w K mg t)(hr:eP (0) (A.deeper (envOfC "_law_by_run" (defScope CY) s.heap.objs.size t.a25 cdv))) :
  fT (fN dS P w K mg base ["cell","some"] "_law_by_run" (defScope CY) t.a25 cdv A outer s H E).nox (defBody CY) Ox:=by
 refine dW ?_ ?_
 .refine eR 1 ?_ ?_ ?_ ?_ ?_ ?_
  .refine PO.v9 ?_;exact gD (dB (lX (dB dQ (dB dQ dF))) (dB (lX (dB dQ (dB dQ dF))) (dB (lX (dB dQ (dB dQ dF))) (dB (lX (dB dQ (dB dQ dF))) dF))))
  .exact Gx.nd
  .rfl
  .first|exact jS rfl|exact jK rfl
  .rfl
  .first|exact .inl rfl|exact .inr rfl
 .refine dW ?_ ?_
  .refine eR 1 ?_ ?_ ?_ ?_ ?_ ?_
   .refine fK ?_ ?_
    .exact dy 1
    .refine PO.v9 ?_;exact gD (dB (lX (dB dQ (dB dQ dF))) (dB (lX (dB dQ (dB dQ dF))) (dB (lX (dB dQ (dB dQ dF))) dF)))
   .exact Gx.nd
   .rfl
   .first|exact jS rfl|exact jK rfl
   .rfl
   .first|exact .inl rfl|exact .inr rfl
  .refine dW ?_ ?_
   .refine eR 1 ?_ ?_ ?_ ?_ ?_ ?_
    .refine fK ?_ ?_
     .exact dy 1
     .refine PO.v9 ?_;exact gD (dB (lX (dB dQ (dB dQ dF))) (dB (lX (dB dQ (dB dQ dF))) (dB (lX (dB dQ (dB dQ dF))) dF)))
    .exact Gx.nd
    .rfl
    .first|exact jS rfl|exact jK rfl
    .rfl
    .first|exact .inl rfl|exact .inr rfl
   .exact dP (eA (gq (dy 1) (sC (dy 0) dR)))
def zo8:zOq T.q25 P w base dS 1 (fj K xV) :=
 fu T.q25.F Gx λ{cdv A outer s H E}=>@YS P w K mg base t A E H cdv outer s T
def HD:dD ["desk","cell","more","row","word",".t"] ["desk","cell"] (defScope VC):=fO
abbrev bo:=dY gG de (dL (.int 4))
abbrev bM:=dN df cb
def Az (C:Gj)(mkx:Str->dZ)(mk:(D->Option D)->dZ)(Pt:Gj):FS:=eK (fU 2 (dY gG (dY ph de (dL (.int 4))) (dY ir cA (dL (.int 50))))) (eK (fH (gR eF bo cI) (fX (dY eF (gi 5 Pt (eW 0 C (pq C mkx mk Pt) (dN (eD yf bM) eS))) (eD tK (dN (dL (.str "row")) eS)))) fF) (eK (fH (gR eF bo cJ) (fX (dY eF (gi 5 Pt (eW 0 C (pq C mkx mk Pt) (dN (eD tN cb) eS))) (eD tK (dN (dL (.str "text")) eS)))) fF) (eK (fH (gR eF bo cG) (fX (dY eF (gi 5 Pt (eW 0 C (pq C mkx mk Pt) (dN (eD tR cb) eS))) (eD tK (dN (dL (.str "name")) eS)))) fF) (eK (Vz (eD xV cb) (Nl (IP (iK 3) (IP cZ QY)))) (fX (dY eF (gi 5 Pt (eW 0 C (pq C mkx mk Pt) ce)) (eD tK (dN dm eS))))))))
def nY (C:Gj)(mkx:Str->dZ)(mk:(D->Option D)->dZ)(Pt:Gj):Sl->List D->Option D:=wk 2 6 (rT 6 Pt (Az C mkx mk Pt))
def zqB:zOq T.q29 P w base dS 16 (wT t.Pt (pf K t.C (nY t.C (yB mg) (gJ P w K mg base 9) t.Pt))) :=
 Ch (by decide) T.q29.F HD (by decide) λhr=>dW (eR 2 (sC (Wl (dy 1) dR) (DC dR dR)) HD.nd) (dW (eO (fE (ee hr) (sC (dy 1) dR) dR) (dP (eA (on (ee hr) (Dq 5 0 (FI T) hr.mo T.q30.m T.q30.F.kp T.q30.b (dB (vc (zo6 T) T.q22 hr (dB (dy 2) (dB (dy 2) dF))) dF)) (vc (GB T) T.q65 hr (dB dQ dF))))) fy) (dW (eO (fE (ee hr) (sC (dy 1) dR) dR) (dP (eA (on (ee hr) (Dq 5 0 (FI T) hr.mo T.q30.m T.q30.F.kp T.q30.b (dB (vc (znK T) T.q11 hr (dB (dy 2) dF)) dF)) (vc (GB T) T.q65 hr (dB dQ dF))))) fy) (dW (eO (fE (ee hr) (sC (dy 1) dR) dR) (dP (eA (on (ee hr) (Dq 5 0 (FI T) hr.mo T.q30.m T.q30.F.kp T.q30.b (dB (vc (znM T) T.q14 hr (dB (dy 2) dF)) dF)) (vc (GB T) T.q65 hr (dB dQ dF))))) fy) (dW (zGU (vc (zo8 T) T.q25 hr (dB (dy 2) dF)) (zEx rfl (Us (mJ 3 HD.nd) (Us (mJ 4 HD.nd) zEw)))) (dP (eA (on (ee hr) (Dq 5 0 (FI T) hr.mo T.q30.m T.q30.F.kp T.q30.b (dB (dy 3) dF)) (vc (GB T) T.q65 hr (dB (dy 4) dF)))))))))
def sM:dD ["script","number","fall","rows","desk","beside","row","cell","found",".t"] ["script"] (defScope Od):=fO
abbrev al:=iY gp (zx db (Ay cG) (Ay (dL (.int 63))))
abbrev bU:=fX (dL (.bool true))
abbrev cm:=dN (gv 6) (eS)
abbrev cq:=dN (gv 7) (eS)
abbrev cz:=iY gp di
abbrev da:=iK 6
abbrev dt:=gv 8
def LH (C:Gj)(mkx:Str->dZ)(mk:(D->Option D)->dZ)(Pt:Gj):FS:=eK (fU 1 (ie gN (dY gG (eD xo (dN db (dN cI eS))) (dY ir cA cB)))) (eK (fU 2 (dY fq (io (dN (dL (.str "0@1>2")) (dN (dL (.str "1@2>")) (dN (dL (.str "2@1>0")) (dN (dL (.str "0@3>12")) eS))))) (dY gG (eD xo (dN db (dN cJ eS))) (dL (.int 4))))) (eK (fU 3 (io (dN (dY eB (dY eB (dY eB (dL (.str "run a 5 ")) de) (dL (.str " -7 / "))) df) (dN (dL (.str "run b 3 3 /")) eS)))) (mL 4 C λr=>mL 5 C λr1=>eK (nD cz da (zm (zn (rJ (iE [r1,r] 4 C (mW C) cm) (dL (.str "ok"))) (rJ (iE [r1,r] 5 C (mW C) cm) (dL (.str "ok")))) bP fF)) (eK (nD al (iK 7) (fH (lJ (gW (gi 9 Pt (eW 4 C (nY C mkx mk Pt) cq)))) bP fF)) (eK (fU 3 (io (yb ["show a","show b","waste a","close a 1","know a 1 1","choose a soon 1 2","alike a b 1"]))) (eK (nD (iY gp (dY eB di (io (dN (dL (.str "chain a 1 0 5")) eS)))) da (eK (fU 8 (gi 9 Pt (eW 4 C (lT C mk Pt) cm))) (fH (mh (lJ (gW (ie (lO "str") dt))) (gR gf dt (gi 9 Pt (eW 5 C (lT C mk Pt) cm)))) bP fF))) bU))))))
def ziW (C:Gj)(mkx:Str->dZ)(mk:(D->Option D)->dZ)(Pt:Gj):List D->Option D:=xM 1 10 Pt (LH C mkx mk Pt)
def zBy:zOq T.q84 P w base dS 17 (spT K t.Pt (ziW t.C (yB mg) (gJ P w K mg base 9) t.Pt)) :=
 Lq T.q84.F sM (by decide) (by decide) λhr=>dW (eR 1 (pJ rfl T.b_str (sC (vc (TR T) T.q16 hr (dB (dy 0) (dB dR dF))) (DC dR dR))) sM.nd) (dW (eR 2 (gq (PO.v9 (gD (dB dQ (dB dQ (dB dQ (dB dQ dF)))))) (sC (vc (TR T) T.q16 hr (dB (dy 0) (dB dR dF))) dR)) sM.nd) (dW (eR 3 (PO.v9 (gD (dB (fK (fK (fK dQ (dy 1)) dQ) (dy 2)) (dB dQ dF)))) sM.nd) (zG6 (Qj 4 T.mkD (Wn T) hr.mo T.mgC T.f_Desk_init.b (λr=>Qj 5 T.mkD (Wn T) hr.mo T.mgC T.f_Desk_init.b (λr1=>tQ (Lu PassesOwn.never rfl (lZ (dy 3)) (mJ 6 sM.nd) (ym (zG5 (zFB (Ry (ee hr) (Ob (by decide) (xa 4 T.dk.cl T.f_Desk_say.m (VU T) hr.mo T.f_Desk_say.b iC (dB (dy 6) dF))) dQ) (Ry (ee hr) (Ob (by decide) (xa 5 T.dk.cl T.f_Desk_say.m (VU T) hr.mo T.f_Desk_say.b iC (dB (dy 6) dF))) dQ)) (ym (oY (eA (lH)))) Hb))) (tQ (Lu PassesOwn.never rfl (lZ (sD (dy 0) (nz dR) (nz dR))) (mJ 7 sM.nd) (ym (EQ (gX (gL (Dq 9 4 (zqB T) hr.mo T.q29.m T.q29.F.kp T.q29.b (dB (dy 7) dF)))) (ym (oY (eA (lH)))) Hb))) (tQ (oY (eR 3 (PO.v9 (gD (rG (xs:=["show a","show b","waste a","close a 1","know a 1 1","choose a soon 1 2","alike a b 1"]) (by nofun)) (by nofun))) sM.nd)) (tQ (Lu PassesOwn.never rfl (lZ (fK (dy 3) (PO.v9 (gD (dB dQ dF))))) (mJ 6 sM.nd) (tQ (oY (eR 8 (Ra 9 (by decide) (xa 4 T.dk.cl T.f_Desk_say.m (QZ T) hr.mo T.f_Desk_say.b iC (dB (dy 6) dF))) sM.nd)) (ym (EQ (iT.b9 (iy (gX (gL (yo (T:="str") (by decide) rfl T.b_isinstance rfl T.b_str boot_str (dy 8)))) (lP (mR (ee hr) (dy 8) (Ra 9 (by decide) (xa 5 T.dk.cl T.f_Desk_say.m (QZ T) hr.mo T.f_Desk_say.b iC (dB (dy 6) dF))))))) (ym (oY (eA (lH)))) Hb)))) (ym (oY (eA (lH)))))))) sM.nd) sM.nd) zDM)))
def zFL {l:Program}{w:World}{K:ja}{mg:Str->Option Gg}{h:Heap}{fa Pt:Gj}(X:K.In h)(G:h.Ns mainGlobals mg)(hmg:mg "law"=Ga (.ref fa))
  (z:∃ t,Txt l w K mg t/\t.Pt=Pt/\t.a84=a/\∀ (s:Gh) (v:Gg),BindsTo s t.d84 ⟨[v],[]⟩ [("script",v)]) :
  ∃ fd:Gi,(∀ (s:Gh) (v:Gg),BindsTo s fd ⟨[v],[]⟩ [("script",v)])/\∀ base:Heap,K.In base->base.Ns mainGlobals mg->dJ l w K mg base dS 17 fa fd ["script"] (λvs H Q E=>∀ C mkx mk,spT K Pt (ziW C mkx mk Pt) vs H Q E):=by
 obtain⟨t,T,rfl,_,hb⟩:=z;have e:=hmg.symm.trans T.q84.m;cases e;exact⟨t.d84,hb,λbase _ _=>(zBy T).imp λvs H Q E h=>h _ _ _⟩
end
noncomputable section
open PySem PySem.Spec PyProof.Rows L2 T3
def zqC (x0:D):xT [x0]=eZ (Kj [.val x0]):=rfl
def Zt (x0:D):zU [x0]=eZ (LO [.val x0]):=rfl
def zu1 (x0:D):zJ [x0]=eZ (MG [.val x0]):=rfl
def zqD (x0:D):xS [x0]=eZ (Kn [.val x0,.no,.no]):=rfl
def ZD (x0:D):mE [x0]=eZ (Mr [.val x0]):=rfl
def znO (x0:D):yS [x0]=eZ (Lw [.val x0]):=rfl
def ZP (x0 x1 x2:D):Bx [x0,x1,x2]=eZ (Mi [.val x0,.val x1,.val x2,.no,.no,.no]):=rfl
def zo9 (x0 x1 x2:D):zj [x0,x1,x2]=eZ (Lv [.val x0,.val x1,.val x2,.no,.no,.no,.no]):=rfl
def zsB (x0 x1 x2 x3:D):AG [x0,x1,x2,x3]=eZ (Kv [.val x0,.val x1,.val x2,.val x3,.no,.no]):=rfl
def YJ (c:dZ)(φ:D->Option D)(x0:D):oP c φ [x0]=eZ (No c φ [.fn c,.val x0,.no,.no]):=rfl
def ztW (c:dZ)(φ:D->Option D)(x0 x1:D):BA c φ [x0,x1]=eZ (MK c φ [.fn c,.val x0,.val x1]):=rfl
def zsC (x0:D):oN [x0]=eZ (Ie [.val x0,.no]):=rfl
def znP (x0:D):sO [x0]=eZ (Mc [.val x0]):=rfl
def znQ (x0:D):rH [x0]=eZ (Mg [.val x0,.no,.no]):=rfl
def zsD (x0:D):wy [x0]=eZ (Ik [.val x0,.no,.no,.no,.no,.no]):=rfl
def QS (x0:D):rO [x0]=eZ (GO [.val x0,.no]):=rfl
def YT (x0:D):nB [x0]=eZ (IY [.val x0,.no,.no,.no,.no]):=rfl
def znR (x0 x1:D):Dd [x0,x1]=eZ (Nn [.val x0,.val x1]):=rfl
def YQ (x0 x1:D):rC [x0,x1]=eZ (MS [.val x0,.val x1]):=rfl
def zqF (x0 x1 x2:D):DI [x0,x1,x2]=eZ (KQ [.val x0,.val x1,.val x2]):=rfl
def zqG (x0:D):oU [x0]=eZ (Lp [.val x0,.no,.no]):=rfl
def zz9 (x0 x1 x2:D):tH [x0,x1,x2]=eZ (Ng [.val x0,.val x1,.val x2]):=rfl
def XN (c:dZ)(φ:D->Option D)(x0 x1:D):xq c φ [x0,x1]=eZ (LW c φ [.fn c,.val x0,.val x1]):=rfl
def znS (x0 x1 x2 x3:D):xZ [x0,x1,x2,x3]=eZ (Kl [.val x0,.val x1,.val x2,.val x3]):=rfl
def Ha (mk:(D->Option D)->dZ)(Pt:Gj)(x0 x1 x2:D):rM mk Pt [x0,x1,x2]=eZ (Ax mk Pt [.val x0,.val x1,.val x2,.tab Pt]):=rfl
def OV (C:Gj)(mk:(D->Option D)->dZ)(Pt:Gj)(s0:Sl)(x0:D):lT C mk Pt s0 [x0]=(FW C mk Pt [s0,.val x0,.no,.no,.no,.no,.tab Pt]).bind zS:=rfl
def zsF (C p r:Gj)(kvs:List (Str×D))(x0:D):mW C (.dsk C p r kvs) [x0]=(FH C r [.dsk C p r kvs,.val x0,.no,.no,.no,.no,.no]).bind (BO C p r):=rfl
def XO (x0 x1:D):xo [x0,x1]=eZ (Kw [.val x0,.val x1]):=rfl
abbrev bf:=dY gG db cA
def Rx:FS:=eK (fU 1 (io (yb ["","1 2","1 /","1 2 / 0@1>0","1 2 /  0@1>"," 1 2 /","1 2 / ","1 02 /","1 2 / 1@1> 0@1>"]))) (fX (dY eB (dY eB (dY eB (dL (.str "run ")) (dY fq (io (dN (dL (.str "a")) (dN (dL (.str "b")) (dN (dL (.str "zz")) eS)))) (dY gG (dY ph db cA) (dL (.int 3))))) (dL (.str " "))) (dY fq (dY eB de (io (dN (dL (.str "1 2 / 0@6>")) eS))) bf)))
def Oa (x0:D):tN [x0]=eZ (Rx [.val x0,.no]):=rfl
def Pw:FS:=eK (fU 1 (io (yb ["show c","waste c","close c 0","know c 0 1","choose c plain 1 1","alike a c 1","alike c a 1"]))) (fX (dY fq (dY eB de (io (dN (dL (.str "alike c c 0")) (dN (dL (.str "chain c 1 1 5")) (dN (dL (.str "break c soon 1 1")) eS))))) bf))
def RL (x0:D):tR [x0]=eZ (Pw [.val x0,.no]):=rfl
def Oc:FS:=eK (fU 1 (io (dN (oH (dN (dL (.str "close a 0")) (dN (dL (.str "bound")) eS))) (dN (oH (dN (dL (.str "close a 2")) (dN (dL (.str "bound")) eS))) (dN (oH (dN (dL (.str "close b 1")) (dN (dL (.str "bound")) eS))) (dN (oH (dN (dL (.str "chain a 0 0 5")) (dN (dL (.str "bound")) eS))) eS)))))) (eK (fU 1 (dY eB de (io (dN (oH (dN (dL (.str "chain a 1 2 5")) (dN (dL (.str "closed")) eS))) (dN (oH (dN (dL (.str "chain a 1 4 5")) (dN (dL (.str "closed")) eS))) (dN (oH (dN (dL (.str "break a soon 1 2")) (dN (dL (.str "closed")) eS))) eS)))))) (eK (fU 1 (dY eB de (io (dN (oH (dN (dL (.str "break a plain 0 1")) (dN (dL (.str "bound")) eS))) (dN (oH (dN (dL (.str "chain b 0 1 5")) (dN (dL (.str "closed")) eS))) (dN (oH (dN (dL (.str "break b sure 0 3")) (dN (dL (.str "closed")) eS))) eS)))))) (fX (dY fq de bf))))
def OB (x0:D):xV [x0]=eZ (Oc [.val x0,.no]):=rfl
def Hg (C:Gj)(mkx:Str->dZ)(mk:(D->Option D)->dZ)(Pt:Gj)(s0:Sl)(x0:D):nY C mkx mk Pt s0 [x0]=(Az C mkx mk Pt [s0,.val x0,.no,.no,.no,.tab Pt]).bind zS:=rfl
def Zm (C:Gj)(mkx:Str->dZ)(mk:(D->Option D)->dZ)(Pt:Gj)(x0:D):ziW C mkx mk Pt [x0]=eZ (LH C mkx mk Pt [.val x0,.no,.no,.no,.no,.no,.no,.no,.no,.tab Pt]):=rfl
end
noncomputable section
open PySem T3
open Lean in
local macro_rules|`(tactic|simp[$a,*])=>do let l:TSyntaxArray `ident:=("dL dY ie sw gW gR lJ mh FK Kk pY zy5 zy6 zDk dN oH io eD UO zw Rf MM iY HA GW QF Fb Yo Ay zEV zDm eK fX Kd fH fU zF FE Oz AS nD Vz zEY zBf zy7 zEZ zwQ zwR zwS zuJ zBg zy8 zy9 zE0 zE1 zE2 zE3 zDo XX zE5 zDp YF zE7 zE8 zDq zE9 zFa zFb Zj zFc zFd zDs zFe zDt zFf zDu Yl Zk zwU ZS Rt zBh zFh zBi zFi Za Rk Ro zFk zFl zFm YW zG3 zFn zDv zzD zzE zzF zBj zBk zwV zpG zwW jp Option.bind_none Jh Bool.not_false ZN ite_true ite_false decide_true decide_false zY zx FO yb GX RH zFt zDA".splitOn " ").toArray.map fun s=>mkIdent s.toName;`(tactic|simp only[$[$l:ident],*,$a,*])
section
open PySem.Spec PyProof.Rows L2
open PySem.W.KIN PySem.NumText
def zFM (f:List Nat)(c:Nat):digitsVal (f++[c])=digitsVal f*10+(c-48):=by
 unfold digitsVal;rw[List.foldl_append];rfl
def RV:∀ d:Nat,d<10->(Nat.digitChar d).toNat=d+48:=by decide
def SF {α:Type}:∀ l:List α,l=[]\/∃ g c,l=g++[c]
 | []=>.inl rfl
 | x::r=>by
  rcases SF r with rfl|⟨g,c,rfl⟩
  .exact .inr ⟨[],x,rfl⟩
  .exact .inr ⟨x::g,c,rfl⟩
def zc (n:Nat):(qP 10 n).map Jo=if n<10 then[n+48] else(qP 10 (n/10)).map Jo++[n%10+48]:=by
 by_cases h:n<10
 .rw[Ge h,Nat.toDigits_of_lt_base h,kh,qI,RV n h]
 .rw[Gf h,Nat.toDigits_of_base_le (by decide) (by omega),JQ,kh,qI,RV _ (by omega)]
def zFN (n:Nat):sg (jv (toString (n:Int)))=(qP 10 n).map Jo:=signs_num n
def zHb:∀ f:List Nat,AllDigits f->digitsVal f<10^f.length:=by
 intro f;generalize hk:f.length=k;induction k generalizing f with
 | zero=>intro _;rw[List.eq_nil_of_length_eq_zero hk];decide
 | succ k ih =>
  intro hd;rcases SF f with rfl|⟨g,c,rfl⟩
  .cases hk
  have hc:48<=c/\c<=57:=hd c (jU _ jh);have:=ih g (by rw[jA] at hk;exact qe hk) λd h=>hd d (u9 _ h);rw[zFM,Nat.pow_succ];omega
def Wg {α:Type}{fe:FV}{base:En}(f:α->D)(F:α->D):∀ {l:List α},(∀ a∈l,fe (.val (f a)::base)=Ga (F a))->fI (λ_=>Ga true) fe base (l.map f)=Ga (l.map F)
 | [],_=>rfl
 | x::r,h=>by
  have ih:=Wg (fe:=fe) (base:=base) f F (l:=r) λa ha=>h a (jd _ ha);rw[kh];unfold fI;rw[jp,Ge rfl,h x jh,jp,ih];rfl
def CV (x:Str):jG x=true↔∀ c∈sg x,c<0x110000:=by
 unfold jG;rw[Array.all_eq_true'];constructor
 .intro h c hc;exact of_decide_eq_true (h c (va.mp hc))
 .intro h c hc;exact Gc (h c (va.mpr hc))
def wF (s:String):jG (jv s)=true:=by
 rw[CV];intro c hc;have hc':c∈(jv s).cps.toList:=hc;rw[signs_ofString] at hc';obtain⟨k,_,rfl⟩:=ue.mp hc';have:=k.valid;unfold UInt32.isValidChar Nat.isValidChar at this;show k.val.toNat<0x110000;omega
def zDN:jv "0123456789"=⟨#[48,49,50,51,52,53,54,55,56,57]⟩:=by nofun
def zDO (c:Nat):Ed ⟨#[c]⟩ (jv "0123456789")=(decide (48<=c)&&decide (c<=57)):=by
 unfold Ed;rw[StrLaws.found_one,zDN];rw[uI,decide_eq_true_eq,ju,decide_eq_true_eq,decide_eq_true_eq];show c∈[48,49,50,51,52,53,54,55,56,57]↔_;simp only[jz,jQ,or_false];omega
def zBA (x:Str):ul x (jv "-")=decide ((sg x).head?=Ga 45):=by
 have e:jv "-"=⟨#[45]⟩:=by nofun
 rw[e];unfold ul;rw[uI,ju,decide_eq_true_eq,decide_eq_true_eq,qw];rw[List.head?_eq_getElem?]
def lD (x:Str):x.length=(sg x).length:=jP.symm
def Pq (x:Str)(h:x.length<=1000):fR (.str x)=Ga (.int (x.length:Int)):=by
 have z:(1000:Nat)<=sizeLine:=by decide
 first|rfl|exact Ge (by omega)
def nO (x:Str):iA (sg x)=x:=yx (nG _)
def zHc (x:Str)(h:x.length<=1000)(hd:AllDigits (sg x)):sO [.str x]=Ga (.bool true):=by
 rw[znP];unfold Mc;have c:fI (λ_=>Ga true) (dY pO db (dL (.str "0123456789"))) [] ((sg x).map one)=Ga ((sg x).map λ_=>.bool true):=by
  refine Wg one _ λc hc=>?_;have q:=zDO c;rw[Gc (hd c hc).1,Gc (hd c hc).2] at q;unfold one;simp[q];rfl
 have hl:((sg x).map one).length<=1000000:=by rw[jk,<- lD];omega
 have b:∀ g:List Nat,pN (g.map λ_=>.bool true)=Ga (g.map λ_=>true):=by
  intro g;induction g with
  | nil=>rfl
  | cons a r ih=>rw[kh];unfold pN;rw[ih];rfl
 have d:oX ((sg x).map λ_=>.bool true)=Ga (.bool true):=by
  unfold oX;rw[b,jp,List.all_map,show(sg x).all (id∘λ_=>true)=true from k6.mpr λ_ _=>rfl]
 simp[wI,Ge hl,c,d]
def dg (n:Nat):List Nat:=(qP 10 n).map Jo
def zd:∀ n,AllDigits (dg n)
 | n=>by
  intro c hc;unfold dg at hc;rw[zc] at hc;by_cases h:n<10
  .rw[Ge h] at hc;have:=jD.mp hc;omega
  .rw[Gf h] at hc;rcases kI.mp hc with q|q
   .exact zd (n/10) c q
   .have:=jD.mp q;omega
def KJ (n:Nat):dg n≠[]:=by
 unfold dg;rw[zc];split
 .exact uT _ _
 .exact λe=>by cases(List.append_eq_nil_iff.mp e).2
def Gp (n:Nat)(h:n<10^60):(dg n).length<=60:=by
 have e:∀ (k n:Nat),n<10^(k+1)->(dg n).length<=k+1:=by
  intro k;induction k with
  | zero=>intro n h;unfold dg;rw[zc,Ge (by omega)];exact jw _
  | succ k ih =>
   intro n h;unfold dg;rw[zc];by_cases h1:n<10
   .rw[Ge h1];exact vR (ku _)
   .rw[Gf h1,jA];have:=ih (n/10) (by rw[Nat.pow_succ] at h;omega);exact vR this
 exact e 59 n h
def zDQ (n:Nat):(dg n).head?≠Ga 45:=by
 intro e;cases q:dg n with
 | nil=>exact KJ n q
 | cons a r =>
  rw[q] at e;have:=zd n a (by rw[q];exact jh);have:a=45:=jM e;omega
def nt (z:Int):Str:=jv (toString z)
def pF (n:Nat):sg (nt (n:Int))=dg n:=zFN n
def Mt (m:Nat):digitsVal (dg m)=m:=val_back _
def zDR (m:Nat)(h:10^60<=m):60<(dg m).length:=by
 have:=zHb (dg m) (zd m);rw[Mt] at this;by_cases c:60<(dg m).length
 .exact c
 .have:10^(dg m).length<=10^60:=Nat.pow_le_pow_right (by decide) (by omega);omega
def Bz (n:Nat)(h:n<10^61):gN (.int (n:Int))=Ga (.str (nt (n:Int))):=by
 refine Ge ?_;show n.log2<1920;rcases Jp n with q|q
 .rw[q];decide
 .exact(Nat.log2_lt (by omega)).mpr (Ju h (by nofun))
def VZ (x:Str)(h:jG x=true):gf (.str x) (.str x)=Ga (.bool false):=by
 rw[Ol h h,Gc rfl];rfl
def Ri (n:Nat):iJ (.str (nt (n:Int))) (.str "-")=Ga (.bool false):=by
 show Ga (kP (ul _ _))=_;rw[zBA,pF,Gd (zDQ n)]
def zDS (n:Nat)(h:n<10^60):rH [.str (nt (n:Int))]=Ga (.int (n:Int)):=by
 have l:=Gp n h;have l1:(nt (n:Int)).length=(dg n).length:=by rw[lD,pF]
 have p:0<(dg n).length:=List.length_pos_iff.mpr (KJ n);have s0:=Ri n;have lx:=Pq (nt (n:Int)) (by omega);have c1:decide ((1:Int)<=((nt (n:Int)).length:Int))=true:=Gc (by omega);have c2:decide (((nt (n:Int)).length:Int)<=60)=true:=Gc (by omega);have fg:=zHc (nt (n:Int)) (by omega) (by rw[pF];exact zd n);have ix:pR (.str (nt (n:Int)))=Ga (.int (n:Int)):=by
  show(if _ then _ else _)=_;have q:(nt (n:Int)).cps.toList=dg n:=pF n;rw[Ge (by omega),intText_digits (by rw[q];exact zd n) (by rw[q];exact KJ n) (by omega),q];show Ga (jO (digitsVal (dg n):Int))=_;rw[Mt]
 have sx:=Bz n (by omega);have ne:=VZ (nt (n:Int)) (wF _);rw[znQ];unfold Mg;generalize sO=A at *;generalize nt (n:Int)=X at *;generalize (X.length:Int)=L at *;simp[s0,lx,c1,c2,fg,ix,sx,ne]
def zFP (n:Nat)(h:10^60<=n)(hl:(nt (n:Int)).length<=600):yQ [.str (nt (n:Int))]=Ga (jv "NoText"):=by
 have l:=zDR n h;have l1:(nt (n:Int)).length=(dg n).length:=by rw[lD,pF]
 have s0:=Ri n;have lx:=Pq (nt (n:Int)) (by omega);have c1:decide ((1:Int)<=((nt (n:Int)).length:Int))=true:=Gc (by omega);have c2:decide (((nt (n:Int)).length:Int)<=60)=false:=Gd (by omega);show(fV (fU 1 (pY (gW (dY iJ db (dL (.str "-")))) aP db)) (gO (gQ (mh aj (lJ (gW (eD sO cg)))) (lI "NoText") (ib)) (fV (fH (mh aj (lJ (gW (eD sO cg)))) nA fF) (fV (fU 2 (ie pR db)) (gQ bi (lI "NoText") (ib)))))) [.val (.str (nt (n:Int))),.no,.no]=_;generalize sO=A at *;generalize nt (n:Int)=X at *;generalize (X.length:Int)=L at *;unfold fV gO gQ lI;simp[s0,lx,c1,c2]
def Py {c:Nat}:∀ {a b r s:List Nat},c∉a->c∉b->a++c::r=b++c::s->a=b/\r=s
 | [],[],r,s,_,_,e=>⟨rfl,(vW e).2⟩
 | [],y::b,r,s,_,hb,e=>absurd (by rw[(vW e).1];exact jh) hb
 | x::a,[],r,s,ha,_,e=>absurd (by rw[<- (vW e).1];exact jh) ha
 | x::a,y::b,r,s,ha,hb,e=>by
  have⟨e1,e2⟩:=vW e;have ih:=Py (λh=>ha (jd _ h)) (λh=>hb (jd _ h)) e2;exact⟨by rw[e1,ih.1],ih.2⟩
def xk (c:Nat)(x y:Str)(r:List Str):sg (uE ⟨#[c]⟩ (x::y::r))=sg x++c::sg (uE ⟨#[c]⟩ (y::r)):=by
 show sg (x++⟨#[c]⟩++uE ⟨#[c]⟩ (y::r))=_;show(x.cps++#[c]++(uE ⟨#[c]⟩ (y::r)).cps).toList=_;rw[uv,uv,ub];rfl
def SE (c:Nat):∀ (ps qs:List Str),ps≠[]->qs≠[]->(∀ p∈ps,c∉sg p)->(∀ q∈qs,c∉sg q)->uE ⟨#[c]⟩ ps=uE ⟨#[c]⟩ qs->ps=qs
 | [],_,h,_,_,_,_=>absurd rfl h
 | _::_,[],_,h,_,_,_=>absurd rfl h
 | [p],[q],_,_,_,_,e=>by rw[show p=q from e]
 | [p],q::q2::r,_,_,hp,_,e=>by
  have e2:=congrArg sg e;rw[xk] at e2;have:c∈sg p:=by
   show c∈sg (uE ⟨#[c]⟩ [p]);rw[e2];exact jU _ jh
  exact absurd this (hp p jh)
 | p::p2::r,[q],_,_,_,hq,e=>by
  have e2:=congrArg sg e;rw[xk] at e2;have:c∈sg q:=by
   show c∈sg (uE ⟨#[c]⟩ [q]);rw[<- e2];exact jU _ jh
  exact absurd this (hq q jh)
 | p::p2::r,q::q2::s,_,_,hp,hq,e=>by
  have e2:=congrArg sg e;rw[xk,xk] at e2;have⟨a,b⟩:=Py (hp p jh) (hq q jh) e2;rw[yx a,SE c (p2::r) (q2::s) (uT _ _) (uT _ _) (λx h=>hp x (jd _ h)) (λx h=>hq x (jd _ h)) (yx b)]
def Zw (x y:Str):uA x y≠[]:=by
 unfold uA;split
 .exact uT _ _
 .split
  .exact uT _ _
  .rw[StrLaws.partsBetween_eq];have⟨p,r,e⟩:=StrLaws.partsFrom_ne x y.length 0 (jT x y 0 x.length (x.length+1));rw[e];exact uT _ _
def zw8 (c:Nat)(ws:List Str)(h:ws≠[])(hw:∀ w∈ws,c∉sg w):uA (kK ⟨#[c]⟩ ws) ⟨#[c]⟩=ws:=by
 refine SE c _ _ (Zw _ _) h (StrLaws.split_free _ c) hw ?_;rw[StrLaws.join_split];exact kU _ _
def hsL (m:Nat):List Nat:=(kF 5).filter λk=>m.testBit k
def ftx (h a m:Nat):Str:=iA ([48+h,64,48+a,62]++(hsL m).map (48+·))
def iw (k:Nat):Str:=⟨#[48+k]⟩
def zFQ:∀ k,k<10->jv (toString ((k:Nat):Int))=iw k:=by nofun
def Mo:∀ l:List Str,lu (l.map jL)=Ga l
 | []=>rfl
 | a::r=>by rw[kh];unfold lu;rw[Mo r];rfl
def zAc (k:Nat)(h:k<10):rj (.int (k:Int))=Ga (.str (iw k)):=by
 show(if _ then _ else _)=_;have e:(k:Int).natAbs.log2<1920:=by
  show k.log2<1920;rcases Jp k with z|z
  .rw[z];decide
  .exact(Nat.log2_lt (by omega)).mpr (jf h (by nofun))
 rw[Ge e];show Ga (jL (jv (toString (k:Int))))=_;rw[zFQ k h]
def Yt (R N F:D)(L1 L2 ys zs A B:List D)(Z:D)(i0:fq R (.int 0)=Ga N)(t0:gp N=Ga L1)(l1:L1.length<=1000000)(c1:fI (λ_=>Ga true) cw [] L1=Ga ys)(a1:eB (.list ys) (.list [.str "/"])=Ga (.list A))
  (i1:fq R (.int 1)=Ga F) (t1:gp F=Ga L2) (l2:L2.length<=1000000) (c2:fI (λ_=>Ga true) (eD zV bZ) [] L2=Ga zs) (a2:eB (.list A) (.list zs)=Ga (.list B)) (j:tq (.str " ") B=Ga Z):oN [R]=Ga Z:=by
 rw[zsC];unfold Ie;generalize zV=S at *;generalize jL "/"=q1 at *;generalize jL " "=q2 at *;simp[i0,t0,wI,Ge l1,c1,a1,i1,t1,Ge l2,c2,a2,j]
def zFS (W:D)(ws L1 L2 ns fs:List D)(k:Int)(V1 V2 S:D)(h0:pd W (.str " ")=Ga ws)(h1:ik (.str "/") (.list ws)=Ga (.bool false))(h2:pi (.list ws) (.str "/")=Ga (.int k))
  (s1:xJ (.list ws) Gb (Ga k)=Ga V1) (t1:gp V1=Ga L1) (l1:L1.length<=1000000) (c1:fI (λ_=>Ga true) (eD rH bZ) [] L1=Ga ns)
  (s2:xJ (.list ws) (Ga (k+1)) Gb=Ga V2) (t2:gp V2=Ga L2) (l2:L2.length<=1000000) (c2:fI (λ_=>Ga true) (eD wQ bZ) [] L2=Ga fs)
  (hr:zJ [.tuple [.tuple ns,.tuple fs]]=Ga (.bool true)) (hs:oN [.tuple [.tuple ns,.tuple fs]]=Ga S) (hne:gf S W=Ga (.bool false)):wy [W]=Ga (.tuple [.tuple ns,.tuple fs]):=by
 rw[zsD];unfold Ik;generalize rH=A1 at *;generalize wQ=A2 at *;generalize zJ=A3 at *;generalize oN=A4 at *;generalize jL "/"=q1 at *;generalize jL " "=q2 at *;simp[h0,h1,h2,s1,t1,wI,Ge l1,c1,s2,t2,Ge l2,c2,hr,hs,hne]
def F3:Type:=Nat×Nat×Nat
def td (f:F3):D:=.tuple [.int (f.1:Int),.int (f.2.1:Int),.int (f.2.2:Int)]
def lY (f:F3):Str:=ftx f.1 f.2.1 f.2.2
def wU (A:List D->Option D)(T Y:D)(h:A [T]=Ga Y):eD A bZ [.val T]=Ga Y:=by
 simp[h]
def Tk:∀ l:List Str,(∀ x∈l,jG x=true)->ug (l.map jL)=true
 | [],_=>rfl
 | x::r,h=>by
  show(jG x&&ug (r.map jL))=true;rw[h x jh,Tk r λy hy=>h y (jd _ hy)];rfl
def Rl (c d:Nat):∀ ws:List Str,d∈sg (uE ⟨#[c]⟩ ws)->d=c\/∃ w∈ws,d∈sg w
 | [],h=>by cases h
 | [x],h=>.inr ⟨x,jh,h⟩
 | x::y::r,h=>by
  rw[xk] at h;rcases kI.mp h with q|q
  .exact .inr ⟨x,jh,q⟩
  .rcases jz.mp q with q|q
   .exact .inl q
   .rcases Rl c d (y::r) q with q|⟨w,hw,q⟩
    .exact .inl q
    .exact .inr ⟨w,jd _ hw,q⟩
def lj (c:Nat):Nat->Nat->List Nat->List Nat
 | _,_,[]=>[]
 | k,i,d::r=>if 0<k/\d=c then i::lj c (k-1) (i+1) r else lj c k (i+1) r
theorem Ka (x:Str)(c k:Nat):∀ (l:List Nat) (i:Nat) (st:Array Nat×Nat),st.2<=i->(sg x).drop i=l->i+l.length=x.length->(forIn (JM i (l.length+1)) st (vt x ⟨#[c]⟩ x.length k)).run.fst.toList=st.1.toList++lj c (k-st.1.size) i l
 | [],i,st,h1,h2,h3=>by
  rw[vp,Nat.add_zero] at h3;rw[vp,qK,List.range'_one,v7];unfold vt;rw[Gf (λz=>by have z1:i+1<=x.length:=z.1.2;omega)];show st.1.toList=st.1.toList++[];rw[jJ]
 | d::r,i,st,h1,h2,h3=>by
  have hd:(sg x)[i]?=Ga d:=by
   have e:(sg x)[i]?=((sg x).drop i)[0]?:=by rw[List.getElem?_drop];rfl
   rw[e,h2];rfl
  have h2':(sg x).drop (i+1)=r:=by rw[<- List.drop_drop,h2];rfl
  have h3':i+1+r.length=x.length:=by rw[jr] at h3;omega
  rw[jr,List.range'_succ,v7];unfold vt;by_cases q:st.1.size<k/\d=c
  .obtain⟨q1,q2⟩:=q;subst q2;have⟨s1,s2⟩:=(qw x d i).mpr hd;rw[Ge ⟨⟨⟨q1,h1⟩,s1⟩,s2⟩];show(forIn (JM (i+1) (r.length+1)) (st.1.push i,i+1) (vt x ⟨#[d]⟩ x.length k)).run.fst.toList=_;rw[Ka x d k r (i+1) (st.1.push i,i+1) (jw _) h2' h3'];show(st.1.push i).toList++lj d (k-(st.1.push i).size) (i+1) r=st.1.toList++lj d (k-st.1.size) i (d::r);rw[u7,Array.size_push,ub]
   conv=>rhs;unfold lj
   rw[Ge ⟨by omega,rfl⟩,show k-(st.1.size+1)=k-st.1.size-1 by omega];rfl
  .rw[Gf (λz=>q ⟨z.1.1.1,by have:=(qw x c i).mp ⟨z.1.2,z.2⟩;rw[show x.cps.toList=sg x from rfl,hd] at this;exact jM this⟩)];show(forIn (JM (i+1) (r.length+1)) (st.1,st.2) (vt x ⟨#[c]⟩ x.length k)).run.fst.toList=_;rw[Ka x c k r (i+1) (st.1,st.2) (qr h1) h2' h3'];show st.1.toList++lj c (k-st.1.size) (i+1) r=st.1.toList++lj c (k-st.1.size) i (d::r)
   conv=>rhs;unfold lj
   rw[Gf (λz=>q ⟨by omega,z.2⟩)]
def zFT (x:Str)(c k:Nat):jT x ⟨#[c]⟩ 0 x.length k=lj c k 0 (sg x):=by
 rw[StrLaws.occ_eq,Nat.sub_zero];have e:x.length=(sg x).length:=lD x;have:=Ka x c k (sg x) 0 (#[],0) (jw _) rfl (by rw[qK];exact e.symm);rw[<- e] at this;rw[this];rfl
def Lj (c k:Nat):∀ (A:List Nat) (i:Nat) (r:List Nat),c∉A->lj c k i (A++r)=lj c k (i+A.length) r
 | [],i,r,_=>rfl
 | d::A,i,r,h=>by
  rw[kM];unfold lj;rw[Gf (λz=>h (by rw[z.2];exact jh)),Lj c k A (i+1) r (λz=>h (jd _ z)),jr,show i+1+A.length=i+(A.length+1) by omega];cases r<;>rfl
def SU (c:Nat):∀ (l:List Nat) (i:Nat),lj c 0 i l=[]
 | [],_=>rfl
 | d::r,i=>by unfold lj;rw[Gf (λz=>absurd z.1 (ka 0))];exact SU c r (i+1)
def KL (x:Str)(i j:Nat):vz x i j=iA (((sg x).take j).drop i):=by
 show(⟨x.cps.extract i j⟩:Str)=⟨_⟩;refine congrArg Str.mk (Array.ext' ?_);rw[Array.toList_extract];show(List.extract (sg x) i j)=_;rw[List.extract_eq_take_drop,List.drop_take]
def zFU (A B T:List Nat)(hA:32∉A)(hB:32∉B)(x:Str)(hx:sg x=A++32::(B++32::T)):pD x (jv " ") 2=[iA A,iA B,iA T]/\(jT x (jv " ") 0 x.length (limitOf x 2)).isEmpty=false:=by
 have eb:jv " "=⟨#[32]⟩:=by nofun
 have el:limitOf x 2=2:=rfl;have eo:jT x ⟨#[32]⟩ 0 x.length 2=[A.length,A.length+1+B.length]:=by
  rw[zFT,hx,Lj 32 2 A 0 _ hA];unfold lj;rw[Ge ⟨by decide,rfl⟩,Lj 32 (2-1) B _ _ hB];unfold lj;rw[Ge ⟨by decide,rfl⟩,SU,qK]
 have ln:x.length=A.length+1+B.length+1+T.length:=by rw[lD,hx];simp only[jA,jr];omega
 unfold pD;rw[eb,el,eo];refine⟨?_,rfl⟩;show[vz x 0 A.length,vz x (A.length+1) (A.length+1+B.length),vz x (A.length+1+B.length+1) x.length]=_;rw[KL,KL,KL,ln,hx];have t1:(A++32::(B++32::T)).take A.length=A:=JS rfl;have t2:((A++32::(B++32::T)).take (A.length+1+B.length)).drop (A.length+1)=B:=by
  rw[show A++32::(B++32::T)=(A++32::B)++(32::T) by simp,JS (by simp;omega),show A++32::B=(A++[32])++B by simp,JT (by simp)]
 have t3:((A++32::(B++32::T)).take (A.length+1+B.length+1+T.length)).drop (A.length+1+B.length+1)=T:=by
  rw[vK (by simp;omega),show A++32::(B++32::T)=(A++32::(B++[32]))++T by simp,JT (by simp;omega)]
 rw[t1,t2,t3,qk]
abbrev S_ (s:String):Str:=jv s
abbrev W_ (s:String):List Nat:=sg (jv s)
variable {d x b A X R R' S N T:D}{f:FV}{n c w:Str}{ψ e:En}{g:FS}{t:FT}{kvs:List (Str×D)}{Pt C p r p1 r1:Gj}{ds L ks ks' Ls path:List D}{ga:FL}{i:Nat}{k:FX}{mk:(D->Option D)->dZ}{mkx:Str->dZ}{m q h:Int}{o:Option D}{y y4 y5 y6:Sl}
def CP {tab:List (Str×D)}(h:f ψ=Ga (.str n))(e:atT tab n=Ga d):mO tab f ψ=Ga d:=by
 unfold mO;rwa[h]
def MT {tab:List (Str×D)}(h:f ψ=Ga (.str n))(e:atT tab n=Ga d):nL tab f ψ=Ga false:=by
 unfold nL;rw[h,jp];show Ga (!(atT tab n).isSome)=_;rw[e];rfl
def nE{r:List D}(h:(t x ψ).bind g=Ga (.nx e)):gB t g (x::r) ψ=gB t g r e:=by
 have⟨e1,h1,h2⟩:=dz h;show(t x ψ).bind _=_;rw[h1,jp,h2];rfl
def Yc (X:D)(ws:List D)(n:Str)(K:D)(k:Int)(s0:iJ X (.str "run ")=Ga (.bool false))(sp:pd X (.str " ")=Ga ws)(i0:fq (.list ws) (.int 0)=Ga (.str n))(at_:atT hV n=Ga K)(lw:fR (.list ws)=Ga (.int (k+1)))(lk:fR K=Ga (.int k))(ne:gf (.int (k+1)) (.int (k+1))=Ga (.bool false)):rO [X]=Ga (.list ws):=by
 rw[QS];unfold GO;have h1:nL hV bj [.val X,.val (.list ws)]=Ga false:=MT (n:=n) (by simp[i0]) at_;have h2:mO hV bj [.val X,.val (.list ws)]=Ga K:=CP (n:=n) (by simp[i0]) at_;generalize hV=TF at *;simp[s0,sp,h1,h2,lw,lk,ne]
def XH {g:D->D->D->Option (List D)}{f1 f2 f3:FV}{a c:D}{l:List D}(h1:f1 ψ=Ga a)(h2:f2 ψ=Ga b)(h3:f3 ψ=Ga c)(e:g a b c=Ga l):zp g f1 f2 f3 ψ=Ga l:=by
 unfold zp;rwa[h1,jp,h2,jp,h3]
def zDU (X:D)(ws:List D)(n:Str)(K:D)(k:Int)(s0:iJ X (.str "run ")=Ga (.bool true))(sp:wl X (.str " ") (.int 2)=Ga ws)(i0:fq (.list ws) (.int 0)=Ga (.str n))(at_:atT hV n=Ga K)(lw:fR (.list ws)=Ga (.int (k+1)))(lk:fR K=Ga (.int k))(ne:gf (.int (k+1)) (.int (k+1))=Ga (.bool false)):rO [X]=Ga (.list ws):=by
 rw[QS];unfold GO;have h0:zp wl db (dL (.str " ")) cG [.val X,.no]=Ga ws:=XH rfl rfl rfl sp;have h1:nL hV bj [.val X,.val (.list ws)]=Ga false:=MT (n:=n) (by simp[i0]) at_;have h2:mO hV bj [.val X,.val (.list ws)]=Ga K:=CP (n:=n) (by simp[i0]) at_;generalize hV=TF at *;simp[s0,h0,h1,h2,lw,lk,ne]
abbrev CI:FS:=wm 3 bT (eD wS ac)
def zHd {g:FV}{a0 a1 a2 a4:Sl}{v:D}(hg:g [a0,a1,a2,.dks kvs,a4]=Ga v)(hf:f [a0,a1,a2,.dks kvs,a4]=Ga (.str n))(hl:kvs.length<1000):wm 3 f g [a0,a1,a2,.dks kvs,a4]=Ga (.nx [a0,a1,a2,.dks (iW kvs n v),a4]):=by
 unfold wm;rw[hg,jp,hf,jp];show(if _ then _ else _)=_;rw[Ge hl];rfl
def zO (X W K w v:D)(n:Str)(k j:Int)(kvs:List (Str×D))(a4:Sl)(hj:k+1=j)(q:fq K (.int k)=Ga (.str n))(p:fq W (.int j)=Ga w)(hv:wS [.str n,w]=Ga v)(hl:kvs.length<1000) :
  (iK 4 (.int k) [.val X,.val W,.val K,.dks kvs,a4]).bind CI=Ga (.nx [.val X,.val W,.val K,.dks (iW kvs n v),.val (.int k)]):=by
 have e:iK 4 (.int k) [.val X,.val W,.val K,.dks kvs,a4]=Ga [.val X,.val W,.val K,.dks kvs,.val (.int k)]:=rfl;rw[e,jp];unfold CI;generalize wS=A at *;exact zHd (by simp[q,p,hv,hj]) (by simp[q]) hl
def zHe (X W K:D)(n:Str)(L:List D)(kvs:List (Str×D))(a4:Sl)(m:Int)(hw:rO [X]=Ga W)(i0:fq W (.int 0)=Ga (.str n))(at_:atT hV n=Ga K)(lk:fR K=Ga (.int m))(hr:fZ (.int m)=Ga L)
  (lp:gB cZ CI L [.val X,.val W,.val K,.dks [],.no]=Ga (.nx [.val X,.val W,.val K,.dks kvs,a4])):nB [X]=Ga (.tuple [.str n,pC kvs]):=by
 rw[YT];unfold IY;have h2:mO hV bj [.val X,.val W,.no,.no,.no]=Ga K:=CP (n:=n) (by simp[i0]) at_;have h3:Fl 3 [.val X,.val W,.val K,.no,.no]=Ga (.nx [.val X,.val W,.val K,.dks [],.no]):=rfl;have h4:frzAt 3 [.val X,.val W,.val K,.dks kvs,a4]=[.val X,.val W,.val K,.val (pC kvs),a4]:=rfl;unfold CI at lp;generalize wm 3 bT (eD wS ac)=B at *;generalize pC kvs=DD at *;generalize hV=TF at *;generalize rO=A at *;simp[hw,h2,h3,lk,hr,lp,h4,i0]
def Og:jv "run "=⟨#[114,117,110,32]⟩:=by nofun
def Rj (x:Str)(c:Nat)(r:List Nat)(h:sg x=c::r)(n:c≠114):ul x (jv "run ")=false:=by
 unfold ul;rw[JI,Og,Bool.and_eq_false_iff];refine .inr ?_;show(((sg x).drop 0).take 4==[114,117,110,32])=false;rw[h,qk,List.take_succ_cons,beq_eq_false_iff_ne];intro z;exact n (vW z).1
def XV (x:Str)(r:List Nat)(h:sg x=114::117::110::32::r):ul x (jv "run ")=true:=by
 unfold ul;rw[JI,Og,ju,decide_eq_true_eq];refine⟨?_,?_⟩
 .show 0+4<=x.length;rw[lD,h];simp only[jr];omega
 .show(((sg x).drop 0).take 4==[114,117,110,32])=true;rw[h];rfl
def LZ (ws:List Str)(x:Str)(hx:x=kK ⟨#[32]⟩ ws)(h2:2<=ws.length)(h5:ws.length<=9)(fr:∀ w∈ws,32∉sg w)(hl:x.length<=1000):pd (.str x) (.str " ")=Ga (ws.map jL):=by
 have e:jv " "=⟨#[32]⟩:=by nofun
 have s:uA x (jv " ")=ws:=by
  rw[e,hx];exact zw8 32 ws (λz=>by rw[z] at h2;exact absurd h2 (by decide)) fr
 have z:(1000:Nat)<=sizeLine:=by decide
 have ok:xz x (jv " ")=true:=by
  unfold xz;have l1:(jv " ").length=1:=by nofun
  have pb:(uN x (jT x (jv " ") 0 x.length (x.length+1)) (jv " ").length)=ws:=by
   have s':=s;unfold uA at s';split at s'
   .have:=congrArg JK s';rw[uk] at this;omega
   .split at s'
    .have:=congrArg JK s';rw[uk] at this;omega
    .exact s'
  rw[pb,s,Gc (by omega:x.length<=sizeLine),Gc (by omega:ws.length<=sizeLine),l1];rfl
 show(if _ then _ else _)=_;rw[Ge ok,s]
def Rb (ws:List D):fR (.list ws)=Ga (.int (ws.length:Int)):=rfl
def Po (ws:List D):fR (.tuple ws)=Ga (.int (ws.length:Int)):=rfl
def MQ (k:Int):gf (.int k) (.int k)=Ga (.bool false):=by
 show(if _ then _ else _)=_;rw[Ge (by rfl)];simp[kQ]at⊢
def UN (w0:Str)(ws:List Str)(K:List D)(x:Str)(hx:x=kK ⟨#[32]⟩ (w0::ws))(fr:∀ w∈w0::ws,32∉sg w)(h1:1<=ws.length)(h5:ws.length<=5)(hl:x.length<=1000)(c:Nat)(r:List Nat)(hc:sg x=c::r)(nc:c≠114)(at_:atT hV w0=Ga (.tuple K))(lk:K.length=ws.length):rO [.str x]=Ga (.list ((w0::ws).map jL)):=by
 have s0:=Rj x c r hc nc;have sp:=LZ (w0::ws) x hx (by rw[jr];omega) (by rw[jr];omega) fr hl;refine Yc (.str x) _ w0 (.tuple K) (K.length:Int) (by show Ga (kP _)=_;rw[s0]) sp (by rw[GX];exact atI_nat (j:=0) rfl) at_ ?_ (Po K) (MQ _);rw[Rb,jk,jr,<- lk];rfl
def zDV (nm t:Str)(x:Str)(hx:sg x=W_ "run "++(sg nm++32::sg t))(fr:32∉sg nm)(hl:x.length<=10000):rO [.str x]=Ga (.list [.str "run",.str nm,.str t]):=by
 have wr:W_ "run "=[114,117,110,32]:=by nofun
 have wr2:iA [114,117,110]=S_ "run":=by nofun
 rw[wr] at hx;have s0:=XV x _ hx;obtain⟨p,ne⟩:=zFU [114,117,110] (sg nm) (sg t) (by decide) fr x hx;rw[wr2,nO,nO] at p;have ok:tw x (jv " ") 2=true:=by
  unfold tw;have l1:(jv " ").length=1:=by nofun
  have l2:k9 (jv " ")=1:=by nofun
  have k1:1<=k9 x:=by unfold k9;split<;>(try split)<;>decide
  have z:(10000:Nat)<=sizeLine:=by decide
  have lx:4<=x.length:=by rw[lD,hx];simp only[kM,vw,jr];omega
  rw[ne,p,l1,l2,Gc (by omega:x.length<=sizeLine),Gd (by omega:¬x.length<1),Gd (by omega:¬k9 x<1)];rfl
 have sp:wl (.str x) (.str " ") (.int 2)=Ga [.str "run",.str nm,.str t]:=by
  show(if _ then _ else _)=_;rw[Ge ok,p];rfl
 refine zDU (.str x) _ (S_ "run") (.tuple [.str "name",.str "text"]) 2 (by show Ga (kP _)=_;rw[s0]) sp rfl nofun rfl rfl nofun
def zFY (a b c:Str):sg (kK ⟨#[32]⟩ [a,b,c])=sg a++32::(sg b++32::sg c):=by
 have h1:=xk 32 a b [c];have h2:=xk 32 b c [];rw[show kK ⟨#[32]⟩ [a,b,c]=uE ⟨#[32]⟩ [a,b,c] from kU _ _,h1,h2];rfl
def OI (a b c d:Str):sg (kK ⟨#[32]⟩ [a,b,c,d])=sg a++32::(sg b++32::(sg c++32::sg d)):=by
 have h1:=xk 32 a b [c,d];rw[show kK ⟨#[32]⟩ [a,b,c,d]=uE ⟨#[32]⟩ [a,b,c,d] from kU _ _,h1,<- zFY b c d,show kK ⟨#[32]⟩ [b,c,d]=uE ⟨#[32]⟩ [b,c,d] from kU _ _]
def gF {a b:Nat}(h:Nat.ble a b=true):a<=b:=kB h
def TB (l:List Str)(hl:l.length<=11)(hB:∀ y∈l,y.length<=63):tq (.str " ") (l.map jL)=Ga (.str (kK (S_ " ") l)):=by
 have ok:JoinOk (S_ " ") l=true:=by
  have h1:(jv " ").length=1:=by nofun
  unfold JoinOk Builtin.Str.tooLong;rw[StrLaws.joinTotal,h1];have s:=JA l hB;have z:(1000:Nat)<=sizeLine:=by decide
  rw[Gd (by omega)];rfl
 show(lu _).bind _=_;rw[Mo,jp,Ge ok]
def Uh (l:List Str)(h:∀ w∈l,jG w=true):jG (kK (S_ " ") l)=true:=by
 refine(CV _).mpr λd hd=>?_;have e:S_ " "=⟨#[32]⟩:=by nofun
 rw[e,show kK ⟨#[32]⟩ l=uE ⟨#[32]⟩ l from kU _ _] at hd;rcases Rl 32 d _ hd with q|⟨w,hw,q⟩
 .omega
 .exact(CV w).mp (h w hw) d q
def zBC (l:List Str)(hl:l.length<=11)(hB:∀ y∈l,y.length<=63):(kK (S_ " ") l).length<=1000:=by
 have h1:(S_ " ").length=1:=by nofun
 have s:=JA l hB;have j:=StrLaws.join_length_le (S_ " ") l;rw[show kK (S_ " ") l=uE (S_ " ") l from kU _ _];rw[h1] at j;omega
abbrev oz:List F3:=[(0,1,4),(1,2,0),(2,1,1),(0,3,6)]
def rZ {P:F3->Prop}(h0:P (0,1,4))(h1:P (1,2,0))(h2:P (2,1,1))(h3:P (0,3,6)):∀ f∈oz,P f:=jo.mpr ⟨h0,jo.mpr ⟨h1,jo.mpr ⟨h2,jo.mpr ⟨h3,λ_ h=>absurd h jQ⟩⟩⟩⟩
def rA (n:Int)(f:D):D:=.tuple [.tuple [.int 5,.int n,.int (-7)],.tuple [f]]
abbrev W5 (n:Nat)(g:F3):List Str:=[S_ "5",nt (n:Int),S_ "-7",S_ "/",lY g]
abbrev tx (n:Nat)(g:F3):Str:=kK (S_ " ") (W5 n g)
def Iw (n:Nat)(h:n<10^60):(nt (n:Int)).length<=60:=by rw[lD,pF];exact Gp n h
def Nu (m:Nat):32∉dg m:=λh=>by
 have:=zd m 32 h;omega
def IT {P:Str->Prop}{n:Nat}{g:F3}(h5:P (S_ "5"))(hn:P (nt (n:Int)))(h7:P (S_ "-7"))(hs:P (S_ "/"))(hg:P (lY g)):∀ y∈W5 n g,P y:=jo.mpr ⟨h5,jo.mpr ⟨hn,jo.mpr ⟨h7,jo.mpr ⟨hs,jo.mpr ⟨hg,λ_ h=>absurd h jQ⟩⟩⟩⟩⟩
def HC (g:F3)(hg:g∈oz):(lY g).length<=63/\32∉sg (lY g)/\jG (lY g)=true:=rZ (P:=λg=>(lY g).length<=63/\32∉sg (lY g)/\jG (lY g)=true) (by nofun) (by nofun) (by nofun) (by nofun) g hg
def Tr (n:Nat)(h:n<10^60)(g:F3)(hg:g∈oz):∀ y∈W5 n g,y.length<=63:=IT (by nofun) (jX (Iw n h) (by decide)) (by nofun) (by nofun) (HC g hg).1
def RZ (n:Nat)(h:n<10^60)(g:F3)(hg:g∈oz):(tx n g).length<=1000:=zBC _ (gF rfl) (Tr n h g hg)
def UE (n:Nat)(g:F3)(hg:g∈oz):∀ y∈W5 n g,jG y=true:=IT (wF _) (wF _) (wF _) (wF _) (HC g hg).2.2
def Wd (n:Nat)(g:F3)(hg:g∈oz):jG (tx n g)=true:=Uh _ (UE n g hg)
def Ve (n:Nat)(h:n<10^60)(g:F3)(hg:g∈oz):oN [rA (n:Int) (td g)]=Ga (.str (tx n g)):=by
 have sf:zV [td g]=Ga (.str (lY g)):=rZ (P:=λg=>zV [td g]=Ga (.str (lY g))) nofun nofun nofun nofun g hg;have s1:gN (.int 5)=Ga (.str "5"):=by ext
 have s2:=Bz n (by omega);have s3:gN (.int (-7))=Ga (.str "-7"):=by ext
 have c1:fI (λ_=>Ga true) cw [] [.int 5,.int (n:Int),.int (-7)]=Ga [.str "5",.str (nt (n:Int)),.str "-7"]:=by
  simp only[fI,jp,if_true,show cw [.val (.int 5)]=_ from s1,show cw [.val (.int (n:Int))]=_ from s2,show cw [.val (.int (-7))]=_ from s3]
 have c2:fI (λ_=>Ga true) (eD zV bZ) [] [td g]=Ga [.str (lY g)]:=by
  simp only[fI,jp,if_true,wU _ _ _ sf]
 have j:=TB (W5 n g) (gF rfl) (Tr n h g hg);exact Yt (rA (n:Int) (td g)) _ _ _ _ _ _ [.str "5",.str (nt (n:Int)),.str "-7",.str "/"] ((W5 n g).map jL) _ rfl rfl (gF rfl) c1 rfl rfl rfl (gF rfl) c2 rfl j
def zDW (pw:D->D->Option D)(x T:Int)(hw:Ag [.int x]=Ga (.bool true))(hq:pw (.int 10) (.int 60)=Ga (.int T)):eZ ((fX (FK (eD Ag bZ) (Me pH pH (ie zM (dY pw cA cB)) db (dY pw cA cB)))) [.val (.int x)])=Ga (.bool (decide (-T<x)&&decide (x<T))):=by
 generalize Ag=A1 at *;by_cases c1:-T<x
 .by_cases c2:x<T
  .simp[hw,hq,Gc c1,Gc c2];rfl
  .simp[hw,hq,Gc c1,Gd c2];rfl
 .simp[hw,hq,Gd c1];rfl
def YG (xs bs:List D)(n:Int)(A:Bool)(hn:lN (.tuple xs)=Ga (.int n))(hl:xs.length<=1000000)(hc:fI (λ_=>Ga true) (eD xT bZ) [] xs=Ga bs)(hb:oX bs=Ga (.bool A)):zU [.tuple xs]=Ga (.bool ((decide (2<=n)&&decide (n<=5))&&A)):=by
 rw[Zt];unfold LO;generalize xT=A1 at *;by_cases h1:2<=n
 .by_cases h2:n<=5
  .simp[hn,Gc h1,Gc h2,Ro,wI,Ge hl,hc,hb];rfl
  .simp[hn,Gc h1,Gd h2];rfl
 .simp[hn,Gd h1];rfl
def BG:ir (.int 10) (.int 60)=Ga (.int (10^60)):=by ext
def zHf (n:Int)(h0:-((10:Int)^60)<n)(h1:n<(10:Int)^60):xT [.int n]=Ga (.bool true):=by
 rw[zqC];unfold Kj;rw[zDW ir n _ rfl BG,Gc h0,Gc h1];rfl
def zHg (n:Int)(h0:-((10:Int)^60)<n)(h1:n<(10:Int)^60):zU [.tuple [.int 5,.int n,.int (-7)]]=Ga (.bool true):=by
 refine(YG _ ([.bool true,.bool true,.bool true]) 3 true rfl (gF rfl) ?_ rfl).trans rfl;have a:=zHf n h0 h1;have b:xT [.int 5]=Ga (.bool true):=by ext
 have c:xT [.int (-7)]=Ga (.bool true):=by ext
 simp only[fI,jp,if_true,wU _ _ _ a,wU _ _ _ b,wU _ _ _ c]
def zDX (n:Int)(f:D)(h0:-((10:Int)^60)<n)(h1:n<(10:Int)^60)(hf:AL [.tuple [f],.int 3]=Ga (.bool true)):zJ [rA n f]=Ga (.bool true):=by
 have a:=zHg n h0 h1;rw[zu1];unfold MG rA;have l1:lN (.tuple [.tuple [.int 5,.int n,.int (-7)],.tuple [f]])=Ga (.int 2):=rfl;have n1:gf (.int 2) (.int 2)=Ga (.bool false):=by ext
 have i0:gy (.tuple [.tuple [.int 5,.int n,.int (-7)],.tuple [f]]) (.int 0)=Ga (.tuple [.int 5,.int n,.int (-7)]):=rfl;have i1:gy (.tuple [.tuple [.int 5,.int n,.int (-7)],.tuple [f]]) (.int 1)=Ga (.tuple [f]):=rfl;have l2:lN (.tuple [.int 5,.int n,.int (-7)])=Ga (.int 3):=rfl;have t1:lO "tuple" (.tuple [.tuple [.int 5,.int n,.int (-7)],.tuple [f]])=Ga (.bool true):=rfl;generalize uL [.tuple [.int 5,.int n,.int (-7)],.tuple [f]]=RR at *;generalize uL [.int 5,.int n,.int (-7)]=NN at *;generalize zU=A1 at *;generalize AL=A2 at *;simp[l1,n1,i0,i1,l2,t1,a,hf]
def zF2 (n:Nat)(h:n<10^60)(g:F3)(hg:g∈oz):wy [.str (tx n g)]=Ga (rA (n:Int) (td g)):=by
 have e60:((10:Int)^60)=((10^60:Nat):Int):=by norm_cast
 have z:(47:Nat)∉dg n:=λq=>by
  have:=zd n 47 q;omega
 have ns:nt (n:Int)≠S_ "/":=λq=>z (by rw[<- pF,q];decide +kernel);have sp:=LZ (W5 n g) (tx n g) (by show kK (jv " ") _=_;rw[show jv " "=⟨#[32]⟩ by nofun]) (gF rfl) (gF rfl) (IT (by nofun) (by rw[pF];exact Nu n) (by nofun) (by nofun) (HC g hg).2.1) (RZ n h g hg);have ix:pi (.list ((W5 n g).map jL)) (.str "/")=Ga (.int 3):=by
  have key:∀ W:List Str,W.idxOf (jv "/")=3->3<W.length->pi (.list (W.map jL)) (.str "/")=Ga (.int 3):=λW q l=>by
   show(lu _).bind _=_;rw[Mo,jp,q,Ge l];rfl
  refine key _ ?_ (gF rfl);have no:jv "/"∉[S_ "5",nt (n:Int),S_ "-7"]:=λm=>by
   rcases jz.mp m with q|m
   .exact absurd q (by nofun)
   rcases jz.mp m with q|m
   .exact ns q.symm
   .exact absurd (jD.mp m) (by nofun)
  rw[show W5 n g=[S_ "5",nt (n:Int),S_ "-7"]++(S_ "/"::[lY g]) from rfl,List.idxOf_append,Gf no,List.idxOf_cons_self];rfl
 have ni:ik (.str "/") (.list ((W5 n g).map jL))=Ga (.bool false):=by
  have ok:pZ (.str "/") ((W5 n g).map jL)=true:=by
   unfold pZ;have c:(jL "/").canLay0=true:=wF _;have d:(jL "/").depth=0:=by rfl
   rw[c,Tk _ (UE n g hg),d,Nat.min_zero];rfl
  have an:(((W5 n g).map jL).any λy=>kQ y (.str "/"))=true:=by
   rw[JG];refine⟨.str "/",ue.mpr ⟨_,by simp,rfl⟩,?_⟩;show(jv "/"==jv "/")=true;exact beq_self_eq_true _
  show(if _ then Ga (kP (!((W5 n g).map jL).any λy=>kQ y (.str "/"))) else Gb)=_;rw[Ge ok,an];rfl
 have r1:rH [.str "5"]=Ga (.int 5):=by ext
 have r2:=zDS n h;have r3:rH [.str "-7"]=Ga (.int (-7)):=by ext
 have rf:wQ [.str (lY g)]=Ga (td g):=rZ (P:=λg=>wQ [.str (lY g)]=Ga (td g)) nofun nofun nofun nofun g hg;have c1:fI (λ_=>Ga true) (eD rH bZ) [] [.str "5",.str (nt (n:Int)),.str "-7"]=Ga [.int 5,.int (n:Int),.int (-7)]:=by
  simp only[fI,jp,if_true,wU _ _ _ r1,wU _ _ _ r2,wU _ _ _ r3]
 have c2:fI (λ_=>Ga true) (eD wQ bZ) [] [.str (lY g)]=Ga [td g]:=by
  simp only[fI,jp,if_true,wU _ _ _ rf]
 have ff:AL [.tuple [td g],.int 3]=Ga (.bool true):=rZ (P:=λg=>AL [.tuple [td g],.int 3]=Ga (.bool true)) nofun nofun nofun nofun g hg;exact zFS _ _ _ _ _ _ 3 _ _ _ sp ni ix rfl rfl (gF rfl) c1 rfl rfl (gF rfl) c2 (zDX (n:Int) (td g) (by omega) (by omega) ff) (Ve n h g hg) (VZ _ (Wd n g hg))
def ly (l:List D)(j:Nat)(v:D)(h:l[j]?=Ga v):fq (.list l) (.int (j:Int))=Ga v:=by rw[GX];exact atI_nat h
def la (l:List D)(j:Nat)(v:D)(h:l[j]?=Ga v):fq (.tuple l) (.int (j:Int))=Ga v:=by rw[RH];exact atI_nat h
def AD {α:Type}{it:Nat}{g:En->Option α}(h:ψ[it]?=Ga (.tab Pt)):gi it Pt g ψ=g ψ:=Ge h
def IB{fx:Sl->List D->Option Str}(e:ψ[i]?=Ga (.dsk C p r kvs))(h:ga ψ=Ga ds):iM i C fx ga ψ=fx (.dsk C p r kvs) ds:=by
 unfold iM;rw[e];show(if C=C then _ else _)=_;rw[Ge rfl,h];rfl
def yA{fm:Sl->List D->Option D}(e:ψ[i]?=Ga (.dsk C p r kvs))(h:ga ψ=Ga ds)(q:fm (.dsk C p r kvs) ds=Ga d):eW i C fm ga ψ=Ga d:=by
 unfold eW;rw[e];show(if C=C then _ else _)=_;rwa[Ge rfl,h]
def Bf {a b:FX}(h:a ψ=Ga c):gO a b ψ=Ga c:=by unfold gO;rw[h]
def GM {a b:FX}(h:a ψ=Gb):gO a b ψ=b ψ:=by unfold gO;rw[h]
def wN(h:g ψ=Ga (.nx e)):fV g k ψ=k e:=by unfold fV;rw[h];rfl
def Bi {c:FB}{k1 k2:FX}{t:Bool}(h:c (frz ψ)=Ga t):gQ c k1 k2 ψ=if t=true then k1 ψ else k2 ψ:=by unfold gQ;rw[h];rfl
def GR (C p r:Gj)(kvs:List (Str×D))(n:Str)(R:D)(h:atT kvs n=Ga R):pE C (.dsk C p r kvs) [.str n]=Ga R/\rX C (.dsk C p r kvs) [.str n]=Gb:=by
 have h1:xB 0 C cE [.dsk C p r kvs,.val (.str n)]=Ga false:=by
  show(if C=C then _ else _)=_;rw[Ge rfl];show Ga (!(atT kvs n).isSome)=_;rw[h];rfl
 have h2:Dj 0 C cF [.dsk C p r kvs,.val (.str n)]=Ga R:=by
  show(if C=C then _ else _)=_;rwa[Ge rfl]
 constructor
 .show ky (eJ (fW (xB 0 C cE) _ _) _ [.dsk C p r kvs,.val (.str n)]) _=_;rw[yz ((BJ h1).trans rfl)];show ky (ky (Dj 0 C cF _) _) _=_;rw[h2];rfl
 .exact(Bi h1).trans rfl
def Ws (C p r:Gj)(kvs:List (Str×D))(n:Str)(h:atT kvs n=Gb):rX C (.dsk C p r kvs) [.str n]=Ga (S_ "NoName"):=by
 refine(Bi (t:=true) ?_).trans rfl;show(if C=C then _ else _)=_;rw[Ge rfl];show Ga (!(atT kvs n).isSome)=_;rw[h];rfl
def lM (X:D):Option (Str×D):=match yN [X],nB [X] with
 | none,Ga (.tuple [.str w,A])=>Ga (w,A)
 | _,_=>Gb
def word (A:D)(k:String):Option Str:=match ef A (.str (S_ k)) with
 | some (.str x)=>Ga x
 | _=>Gb
def Dh{k:String}{x:Str}(h:word A k=Ga x):ef A (.str (S_ k))=Ga (.str x):=by
 unfold word at h;split at h
 .rename_i e;cases h;exact e
 .cases h
abbrev sE (C p r Pt:Gj)(kvs:List (Str×D))(X a b c d:Sl):En:=[.dsk C p r kvs,X,a,b,c,d,.tab Pt]
def zHh (h:lM X=Ga (w,A)):yN [X]=Gb/\nB [X]=Ga (.tuple [.str w,A]):=by
 unfold lM at h;split at h
 .rename_i h1 h2;cases h;exact⟨h1,h2⟩
 .cases h
def zF4 (h:yN [X]=Ga c):lU C mk Pt (.dsk C p r kvs) [X]=Ga c:=Bf h
abbrev sx4 (C Pt:Gj)(mk:(D->Option D)->dZ):FX:=gO (gQ (eM eF di (dU (.str "run"))) (iz (dC (dX ef dm (dU (.str "text"))) eI) Ee) (ib)) (fV (fW (eM eF di (dU (.str "run"))) (gw) gb) (gO (iM 0 C (rX C) (dC (dX ef dm (dU (.str "name"))) eI)) (fV (fk 5 (eW 0 C (pE C) (dC (dX ef dm (dU (.str "name"))) eI))) (gO (gQ (eM eF di (dU (.str "alike"))) (yu dq (iM 0 C (rX C) (dC (dX ef dm (dU (.str "other"))) eI))) (ib)) (fV (fW (eM eF di (dU (.str "alike"))) (gw) gb) (gi 6 Pt (iz aB (rQ mk Pt))))))))
abbrev sx9 (C Pt:Gj)(mk:(D->Option D)->dZ):FX:=gO (gQ (eM eF di (dU (.str "alike"))) (yu dq (iM 0 C (rX C) (dC (dX ef dm (dU (.str "other"))) eI))) (ib)) (fV (fW (eM eF di (dU (.str "alike"))) (gw) gb) (gi 6 Pt (iz aB (rQ mk Pt))))
abbrev Yy (C Pt:Gj)(mk:(D->Option D)->dZ):FX:=fV (fk 5 (eW 0 C (pE C) (dC (dX ef dm (dU (.str "name"))) eI))) (gO (gQ (eM eF di (dU (.str "alike"))) (yu dq (iM 0 C (rX C) (dC (dX ef dm (dU (.str "other"))) eI))) (ib)) (fV (fW (eM eF di (dU (.str "alike"))) (gw) gb) (gi 6 Pt (iz aB (rQ mk Pt)))))
def Nr (h:lM X=Ga (w,A)):lU C mk Pt (.dsk C p r kvs) [X]=sx4 C Pt mk (sE C p r Pt kvs (.val X) (.val (.tuple [.str w,A])) (.val (.str w)) (.val A) .no):=by
 have⟨h1,h2⟩:=zHh h;refine(GM h1).trans ?_;rw[wN (e:=sE C p r Pt kvs (.val X) (.val (.tuple [.str w,A])) .no .no .no) (tF h2),wN (e:=sE C p r Pt kvs (.val X) (.val (.tuple [.str w,A])) (.val (.str w)) .no .no) (tF ((mi rfl rfl).trans (la [.str w,A] 0 _ rfl))),wN (e:=sE C p r Pt kvs (.val X) (.val (.tuple [.str w,A])) (.val (.str w)) (.val A) .no) (tF ((mi rfl rfl).trans (la [.str w,A] 1 _ rfl)))]
def zF5 {t:D}(h:lM X=Ga (w,A))(e:eF (.str w) (.str "run")=Ga (.bool true))(ht:ef A (.str "text")=Ga t)(hx:Ee [t]=Ga c):lU C mk Pt (.dsk C p r kvs) [X]=Ga c:=by
 rw[Nr h];refine Bf ((Bi (t:=true) ?_).trans ?_)
 .show(ky (eF _ _) _)=_;rw[e];rfl
 .rw[Ge rfl];unfold iz;rwa[iB ((mi rfl rfl).trans ht) rfl]
def Nt (h:lM X=Ga (w,A))(e:eF (.str w) (.str "run")=Ga (.bool false))(hn:ef A (.str "name")=Ga (.str n)):lU C mk Pt (.dsk C p r kvs) [X]=match rX C (.dsk C p r kvs) [.str n] with
  | some c=>Ga c
  | none=>Yy C Pt mk (sE C p r Pt kvs (.val X) (.val (.tuple [.str w,A])) (.val (.str w)) (.val A) .no):=by
 rw[Nr h];have e1:eM eF di (dU (.str "run")) (frz (sE C p r Pt kvs (.val X) (.val (.tuple [.str w,A])) (.val (.str w)) (.val A) .no))=Ga false:=by
  show(ky (eF _ _) _)=_;rw[e];rfl
 refine(GM ((Bi e1).trans rfl)).trans ?_;refine(wN ((BJ e1).trans rfl)).trans ?_;have hg:dC (dX ef dm (dU (.str "name"))) eI (sE C p r Pt kvs (.val X) (.val (.tuple [.str w,A])) (.val (.str w)) (.val A) .no)=Ga [.str n]:=iB ((mi rfl rfl).trans hn) rfl;show(match iM 0 C (rX C) _ _ with|some c=>Ga c|none=>_)=_;rw[IB rfl hg]
def zDY (h:lM X=Ga (w,A))(e:eF (.str w) (.str "run")=Ga (.bool false))(hn:ef A (.str "name")=Ga (.str n))(hk:atT kvs n=Gb):lU C mk Pt (.dsk C p r kvs) [X]=Ga (S_ "NoName"):=by
 rw[Nt h e hn,Ws C p r kvs n hk]
def MB (h:lM X=Ga (w,A))(e:eF (.str w) (.str "run")=Ga (.bool false))(hn:ef A (.str "name")=Ga (.str n))(hk:atT kvs n=Ga R):lU C mk Pt (.dsk C p r kvs) [X]=sx9 C Pt mk (sE C p r Pt kvs (.val X) (.val (.tuple [.str w,A])) (.val (.str w)) (.val A) (.val R)):=by
 have⟨k1,k2⟩:=GR C p r kvs n R hk;rw[Nt h e hn,k2];exact(wN (e:=sE C p r Pt kvs (.val X) (.val (.tuple [.str w,A])) (.val (.str w)) (.val A) (.val R)) (tF (yA rfl (iB ((mi rfl rfl).trans hn) rfl) k1)))
def zHi {m:Str}(h:lM X=Ga (w,A))(e:eF (.str w) (.str "run")=Ga (.bool false))(hn:ef A (.str "name")=Ga (.str n))(hk:atT kvs n=Ga R)(e2:eF (.str w) (.str "alike")=Ga (.bool true))(ho:ef A (.str "other")=Ga (.str m))(hm:atT kvs m=Gb):lU C mk Pt (.dsk C p r kvs) [X]=Ga (S_ "NoName"):=by
 rw[MB h e hn hk];refine Bf ((Bi (t:=true) ?_).trans ?_)
 .show(ky (eF _ _) _)=_;rw[e2];rfl
 .rw[Ge rfl];unfold yu;rw[show dq (sE C p r Pt kvs (.val X) (.val (.tuple [.str w,A])) (.val (.str w)) (.val A) (.val R))=Ga R from rfl,jp,IB rfl (iB ((mi rfl rfl).trans ho) rfl)];exact Ws C p r kvs m hm
def Ti (h:lM X=Ga (w,A))(e:eF (.str w) (.str "run")=Ga (.bool false))(hn:ef A (.str "name")=Ga (.str n))(hk:atT kvs n=Ga R)(e2:eF (.str w) (.str "alike")=Ga (.bool false)):lU C mk Pt (.dsk C p r kvs) [X]=rQ mk Pt [.str w,R,A]:=by
 rw[MB h e hn hk];have e3:eM eF di (dU (.str "alike")) (frz (sE C p r Pt kvs (.val X) (.val (.tuple [.str w,A])) (.val (.str w)) (.val A) (.val R)))=Ga false:=by
  show(ky (eF _ _) _)=_;rw[e2];rfl
 refine(GM ((Bi e3).trans rfl)).trans ?_;refine(wN ((BJ e3).trans rfl)).trans ?_;exact AD rfl
def zBE {k:D}(c:Str)(i1:ef A (.str "bound")=Ga b)(i2:ef A (.str "rounds")=Ga k)(h:∀ f φ,Gv f φ [R,b,k]=Ga c):rQ mk Pt [.str "break",R,A]=Ga c:=by
 have e:rQ mk Pt [.str "break",R,A]=sL 3 Pt mk sd Ni (dC df eI) (dC de (dC (dX ef df (dU (.str "bound"))) (dC (dX ef df (dU (.str "rounds"))) eI))) [.val (.str "break"),.val R,.val A,.tab Pt]:=by ext
 rw[e];unfold sL;refine(Ge (show([.val (.str "break"),.val R,.val A,.tab Pt]:En)[3]?=Ga (.tab Pt) from rfl)).trans ?_;rw[iB (ds:=[]) (d:=A) rfl rfl,jp,iB (d:=R) rfl (iB ((mi rfl rfl).trans i1) (iB ((mi rfl rfl).trans i2) rfl)),jp];show GZ 0 _ _ _ _=_;exact(Ge rfl).trans (h _ _)
def wv (C p r:Gj)(kvs:List (Str×D)):ia (.dsk C p r kvs)=.dsk C p r kvs:=rfl
def Bc (d:D):zS (gY.rt d)=Ga d:=rfl
def kD (b0 b1 b2 b3 b4 b5 b6:Bool):D:=.list [.bool b0,.bool b1,.bool b2,.bool b3,.bool b4,.bool b5,.bool b6]
def zF6{l:List (Str×FS)}{mk:Str->dZ}{gc:FS}(hk:k ψ=Ga c)(hm:c∈l.map Prod.fst)(hl:l.lookup c=Ga gc)(hg:gc (ψ.set i (.fn (mk c)))=Ga (.nx e)):Af g k (l.map Prod.fst) i mk (yD l) ψ=Ga (.nx (e.set i .no)):=by
 unfold Af;rw[hk];dsimp only;rw[Ge hm];unfold yD;rw[hl];show ky (gc _) _=_;rw[hg];rfl
def VV {c:Str}{g:FS}:∀ {l:List (Str×FS)},l.lookup c=Ga g->c∈l.map Prod.fst
 | [],h=>by cases h
 | (a,b)::l,h=>by
  rw[kg] at h;split at h
  .rename_i e;rw[eq_of_beq e];exact jh
  .exact jd _ (VV h)
def Ej {b0 b1 b2 b3 b4 b5 b6:Bool}(hx:lU C mk Pt (.dsk C p r kvs) [X]=Ga c)(hl:(kL mkx).lookup c=Ga (kb mkx c b0 b1 b2 b3 b4 b5 b6)):pq C mkx mk Pt (.dsk C p r kvs) [X]=Ga (kD b0 b1 b2 b3 b4 b5 b6):=by
 show ky (Nv C mkx mk Pt [.dsk C p r kvs,.val X,.no,.no,.tab Pt]) zS=_;unfold Nv;rw[yz (e:=[.dsk C p r kvs,.val X,.val (.list []),.no,.tab Pt]) rfl];have i1:∀ (v:Bool) (y:Sl),mY 3 (mkx c) v [.dsk C p r kvs,.val X,y,.fn (mkx c),.tab Pt]=Ga (.bool v):=λv y=>Ge rfl;have hk:gi 4 Pt (iM 0 C (lU C mk Pt) (dC de eI)) [.dsk C p r kvs,.val X,.val (.list []),.no,.tab Pt]=Ga c:=(AD rfl).trans ((IB rfl (iB (d:=X) rfl rfl)).trans hx);have t:=zF6 (g:=gw) (i:=3) (mk:=mkx) (e:=[.dsk C p r kvs,.val X,.val (kD b0 b1 b2 b3 b4 b5 b6),.fn (mkx c),.tab Pt]) hk (VV hl) hl (by
  show eJ _ _ [.dsk C p r kvs,.val X,.val (.list []),.fn (mkx c),.tab Pt]=_;rw[yz (tF (d:=.list [.bool b0,.bool b1,.bool b2,.bool b3]) ((Ev (iB (i1 _ _) (iB (i1 _ _) (iB (i1 _ _) (iB (i1 _ _) rfl))))).trans rfl))];show fk 2 _ [.dsk C p r kvs,.val X,.val (.list [.bool b0,.bool b1,.bool b2,.bool b3]),.fn (mkx c),.tab Pt]=_;rw[tF (d:=kD b0 b1 b2 b3 b4 b5 b6) ((mi (a:=.list [.bool b0,.bool b1,.bool b2,.bool b3]) (b:=.list [.bool b4,.bool b5,.bool b6]) rfl ((Ev (iB (i1 _ _) (iB (i1 _ _) (iB (i1 _ _) rfl)))).trans rfl)).trans rfl)];rfl)
 rw[yz (e:=[.dsk C p r kvs,.val X,.val (kD b0 b1 b2 b3 b4 b5 b6),.no,.tab Pt]) t];rfl
def wY (C Pt p r:Gj)(mkx:Str->dZ)(mk:(D->Option D)->dZ)(kvs:List (Str×D))(X:D)(w:Str):Prop:=∃ K,pq C mkx mk Pt (.dsk C p r kvs) [X]=Ga K/\tK [.str w]=Ga K/\eF K K=Ga (.bool true)
def zHj (h:lU C mk Pt (.dsk C p r kvs) [X]=Ga (S_ "NoRow")):wY C Pt p r mkx mk kvs X (S_ "row"):=⟨kD true false false false false false true,Ej h nofun,by ext,by ext⟩
def Yz (h:lU C mk Pt (.dsk C p r kvs) [X]=Ga (S_ "NoText")):wY C Pt p r mkx mk kvs X (S_ "text"):=⟨kD false true false false false false true,Ej h nofun,by ext,by ext⟩
def zF8 (h:lU C mk Pt (.dsk C p r kvs) [X]=Ga (S_ "NoName")):wY C Pt p r mkx mk kvs X (S_ "name"):=⟨kD false false true false false false true,Ej h nofun,by ext,by ext⟩
def zDZ (h:lU C mk Pt (.dsk C p r kvs) [X]=Ga (S_ "NoBound")):wY C Pt p r mkx mk kvs X (S_ "bound"):=⟨kD false false false true false false true,Ej h nofun,by ext,by ext⟩
def zBF (h:lU C mk Pt (.dsk C p r kvs) [X]=Ga (S_ "Closed")):wY C Pt p r mkx mk kvs X (S_ "closed"):=⟨kD false false false false true false true,Ej h nofun,by ext,by ext⟩
abbrev eE (C p r Pt:Gj)(kvs:List (Str×D))(c m:Int)(a b:Sl):En:=[.dsk C p r kvs,.val (.int c),.val (.int m),a,b,.tab Pt]
def FD{K:D}(e0:ψ[0]?=Ga (.dsk C p r kvs))(e5:ψ[5]?=Ga (.tab Pt))(hf:f ψ=Ga X)(hk:pq C mkx mk Pt (.dsk C p r kvs) [X]=Ga K):gi 5 Pt (eW 0 C (pq C mkx mk Pt) (dN f eS)) ψ=Ga K :=
 (AD e5).trans (yA e0 (iB hf rfl) hk)
def WD {c e:Int}(d1:ph (.int c) (.int 4)=Ga (.int q))(pw:ir (.int 10) (.int 50)=Ga (.int e))(md:gG (.int q) (.int e)=Ga (.int m))(m4:gG (.int c) (.int 4)=Ga (.int 0))(hr:yf [.int m,.int m]=Ga X)(hk:wY C Pt p r mkx mk kvs X (S_ "row")):nY C mkx mk Pt (.dsk C p r kvs) [.int c]=Ga (.bool true):=by
 obtain⟨K,hk,hd,he⟩:=hk;rw[Hg];unfold Az;have e0:eF (.int 0) (.int 0)=Ga (.bool true):=by ext
 have mv:=FD (f:=eD yf bM) (ψ:=eE C p r Pt kvs c m .no .no) rfl rfl (by generalize yf=A1 at *;simp[hr]) hk;generalize gi 5 Pt (eW 0 C (pq C mkx mk Pt) (dN (eD yf bM) eS))=M0 at *;generalize tK=A1 at *;generalize ir=dp at *;simp[d1,pw,md,m4,e0,mv,hd,he,wv,Bc]
def Xm {c e:Int}(d1:ph (.int c) (.int 4)=Ga (.int q))(pw:ir (.int 10) (.int 50)=Ga (.int e))(md:gG (.int q) (.int e)=Ga (.int m))(m4:gG (.int c) (.int 4)=Ga (.int 1))(hr:tN [.int m]=Ga X)(hk:wY C Pt p r mkx mk kvs X (S_ "text")):nY C mkx mk Pt (.dsk C p r kvs) [.int c]=Ga (.bool true):=by
 obtain⟨K,hk,hd,he⟩:=hk;rw[Hg];unfold Az;have e0:eF (.int 1) (.int 0)=Ga (.bool false):=by ext
 have e1:eF (.int 1) (.int 1)=Ga (.bool true):=by ext
 have mv:=FD (f:=eD tN cb) (ψ:=eE C p r Pt kvs c m .no .no) rfl rfl (by generalize tN=A1 at *;simp[hr]) hk;generalize gi 5 Pt (eW 0 C (pq C mkx mk Pt) (dN (eD tN cb) eS))=M0 at *;generalize tK=A1 at *;generalize ir=dp at *;simp[d1,pw,md,m4,e0,e1,mv,hd,he,wv,Bc]
def WX {c e:Int}(d1:ph (.int c) (.int 4)=Ga (.int q))(pw:ir (.int 10) (.int 50)=Ga (.int e))(md:gG (.int q) (.int e)=Ga (.int m))(m4:gG (.int c) (.int 4)=Ga (.int 2))(hr:tR [.int m]=Ga X)(hk:wY C Pt p r mkx mk kvs X (S_ "name")):nY C mkx mk Pt (.dsk C p r kvs) [.int c]=Ga (.bool true):=by
 obtain⟨K,hk,hd,he⟩:=hk;rw[Hg];unfold Az;have e0:eF (.int 2) (.int 0)=Ga (.bool false):=by ext
 have e1:eF (.int 2) (.int 1)=Ga (.bool false):=by ext
 have e2:eF (.int 2) (.int 2)=Ga (.bool true):=by ext
 have mv:=FD (f:=eD tR cb) (ψ:=eE C p r Pt kvs c m .no .no) rfl rfl (by generalize tR=A1 at *;simp[hr]) hk;generalize gi 5 Pt (eW 0 C (pq C mkx mk Pt) (dN (eD tR cb) eS))=M0 at *;generalize tK=A1 at *;generalize ir=dp at *;simp[d1,pw,md,m4,e0,e1,e2,mv,hd,he,wv,Bc]
def LN {c e:Int}(d1:ph (.int c) (.int 4)=Ga (.int q))(pw:ir (.int 10) (.int 50)=Ga (.int e))(md:gG (.int q) (.int e)=Ga (.int m))(m4:gG (.int c) (.int 4)=Ga (.int 3))(hr:xV [.int m]=Ga (.tuple [X,.str w]))(hk:wY C Pt p r mkx mk kvs X w):nY C mkx mk Pt (.dsk C p r kvs) [.int c]=Ga (.bool true):=by
 obtain⟨K,hk,hd,he⟩:=hk;rw[Hg];unfold Az;have e0:eF (.int 3) (.int 0)=Ga (.bool false):=by ext
 have e1:eF (.int 3) (.int 1)=Ga (.bool false):=by ext
 have e2:eF (.int 3) (.int 2)=Ga (.bool false):=by ext
 have mv:=FD (f:=di) (ψ:=eE C p r Pt kvs c m (.val X) (.val (.str w))) rfl rfl rfl hk;generalize gi 5 Pt (eW 0 C (pq C mkx mk Pt) ce)=M0 at *;generalize tK=A1 at *;generalize xV=A2 at *;generalize ir=dp at *;simp[d1,pw,md,m4,e0,e1,e2,hr,mv,hd,he,wv,Bc]
def QR (d:D):Prop:=yN [d]=Ga (S_ "NoRow")
abbrev si (m:D)(L:List D):En:=[.val m,.val m,.val (.list L)]
def Ms (xs ys:List D)(h:xs.length+ys.length<=1000):eB (.list xs) (.list ys)=Ga (.list (xs++ys)):=by
 have z:(1000:Nat)<=sizeLine:=by decide
 show(if _ then _ else _)=_;rw[Ge (by omega)]
def LQ (k:Nat)(L:List D):Prop:=L.length=k/\∀ d∈L,QR d
def rK {m:D}{k j:Nat}{L':List D}{g:FL}{rest:FS}{P:Option gY->Prop}(hL:LQ k L)(hg:g (si m L)=Ga L')(h':LQ j L')(hk:k+j<=1000)(hr:∀ L,LQ (k+j) L->P (rest (si m L))):P (eJ (fk 2 (dX eB df (fw g))) rest (si m L)):=by
 rw[yz (e:=si m (L++L')) ((tF (d:=.list (L++L')) ((mi (a:=.list L) (b:=.list L') rfl (Ev hg)).trans (Ms L L' (by rwa[hL.1,h'.1])))).trans rfl)];exact hr _ ⟨by rw[jA,hL.1,h'.1],λd hd=>(kI.mp hd).elim (hL.2 d) (h'.2 d)⟩
instance (d:D):Decidable (QR d):=inferInstanceAs (Decidable (_=_))
def zF9{k:Nat}(hL:LQ (k+1) L)(h0:0<=m):∃ d,eZ (eX ar (si (.int m) L))=Ga d/\QR d:=by
 obtain⟨l,q⟩:=hL;have hm:0<=m%((k+1:Nat):Int):=qR _ (by omega);have hm2:m%((k+1:Nat):Int)<((k+1:Nat):Int):=ql _ (by omega);have⟨j,hj⟩:=vE hm;have jl:j<L.length:=by omega
 refine⟨L[j],?_,q _ (qC jl)⟩;have e1:un fR df (si (.int m) L)=Ga (.int ((k+1:Nat):Int)):=by rw[<- l];rfl
 have e2:gG (.int m) (.int ((k+1:Nat):Int))=Ga (.int (j:Int)):=by
  rw[<- hj];exact Ge (Gc (by omega))
 show eZ ((dX fq df be (si (.int m) L)).bind _)=_;rw[(mi (a:=.list L) rfl ((mi (a:=.int m) rfl e1).trans e2)).trans (ly L j L[j] (jn jl))];rfl
def Xo{z:Str}(h:gN (.int (10^60+m))=Ga (.str z)):un gN (dX eB (dX ir cL cK) de) (si (.int m) L)=Ga (.str z):=by
 have e:dX eB (dX ir cL cK) de (si (.int m) L)=Ga (.int (10^60+m)):=(mi (a:=.int (10^60)) (b:=.int m) ((mi rfl rfl).trans BG) rfl).trans rfl;show ky (dX eB _ _ _) _=_;rwa[e]
def Zd (m:Int)(h0:0<=m)(x y z u:Str)(h1:gN (.int (m+5))=Ga (.str x))(h2:eB (.str "know a 0 ") (.str x)=Ga (.str y))(h3:gN (.int (10^60+m))=Ga (.str z))(h4:eB (.str "chain a 1 1 ") (.str z)=Ga (.str u))(q1:QR (.str y))(q2:QR (.str u)):∃ d,yf [.int m,.int m]=Ga d/\QR d:=by
 show ∃ d,eZ (GA [.val (.int m),.val (.int m),.no])=Ga d/\QR d;unfold GA;rw[yz (e:=si (.int m) _) (tF (Ev rfl))];refine rK (P:=λo=>∃ d,eZ o=Ga d/\QR d) (k:=9) ⟨rfl,by nofun⟩ rfl (j:=9) ⟨rfl,by nofun⟩ (by decide) λL hL=>?_;refine rK (P:=λo=>∃ d,eZ o=Ga d/\QR d) hL rfl (j:=7) ⟨rfl,by nofun⟩ (by decide) λL hL=>?_;refine rK (P:=λo=>∃ d,eZ o=Ga d/\QR d) hL rfl (j:=1) ⟨rfl,by nofun⟩ (by decide) λL hL=>?_;refine rK (P:=λo=>∃ d,eZ o=Ga d/\QR d) hL rfl (j:=7) ⟨rfl,by nofun⟩ (by decide) λL hL=>?_;refine rK (P:=λo=>∃ d,eZ o=Ga d/\QR d) hL (iB ((mi (a:=.str "know a 0 ") (b:=.str x) rfl ((show un gN bC (si (.int m) _)=Ga (.str x) from h1))).trans h2) rfl) (j:=4) ⟨rfl,jo.mpr ⟨q1,by nofun⟩⟩ (by decide) λL hL=>?_;refine rK (P:=λo=>∃ d,eZ o=Ga d/\QR d) hL rfl (j:=3) ⟨rfl,by nofun⟩ (by decide) λL hL=>?_;refine rK (P:=λo=>∃ d,eZ o=Ga d/\QR d) hL rfl (j:=6) ⟨rfl,by nofun⟩ (by decide) λL hL=>?_;refine rK (P:=λo=>∃ d,eZ o=Ga d/\QR d) hL rfl (j:=1) ⟨rfl,by nofun⟩ (by decide) λL hL=>?_;refine rK (P:=λo=>∃ d,eZ o=Ga d/\QR d) hL (iB rfl (iB rfl (iB rfl (iB ((mi (a:=.str "chain a 1 1 ") (b:=.str z) rfl (Xo h3)).trans h4) rfl)))) (j:=4) ⟨rfl,jo.mpr ⟨by nofun,jo.mpr ⟨by nofun,jo.mpr ⟨by nofun,jo.mpr ⟨q2,λ_ h=>absurd h jQ⟩⟩⟩⟩⟩ (by decide) λL hL=>?_;refine rK (P:=λo=>∃ d,eZ o=Ga d/\QR d) hL rfl (j:=5) ⟨rfl,by nofun⟩ (by decide) λL hL=>?_;refine rK (P:=λo=>∃ d,eZ o=Ga d/\QR d) hL rfl (j:=2) ⟨rfl,by nofun⟩ (by decide) λL hL=>?_;refine rK (P:=λo=>∃ d,eZ o=Ga d/\QR d) hL rfl (j:=7) ⟨rfl,by nofun⟩ (by decide) λL hL=>?_;exact zF9 hL h0
abbrev Lf:FX:=iz ac ze
def CF{r:List D}{e1:En}(h1:t x ψ=Ga e1)(h2:k e1=Gb)(h3:g e1=Ga (.nx e)):rV t g k (x::r) ψ=rV t g k r e:=by
 show(t x ψ).bind _=_;rw[h1,jp,h2,h3];rfl
def OK{r:List D}{e1:En}(h1:t x ψ=Ga e1)(h2:k e1=Ga c):rV t g k (x::r) ψ=Ga c:=by
 show(t x ψ).bind _=_;rw[h1,jp,h2]
def zD1 (X:D)(ws:List D)(n:Str)(K:D)(k:Int)(s0:iJ X (.str "run ")=Ga (.bool false))(sp:pd X (.str " ")=Ga ws)(i0:fq (.list ws) (.int 0)=Ga (.str n))(at_:atT hV n=Ga K)(lw:fR (.list ws)=Ga (.int (k+1)))(lk:fR K=Ga (.int k))(ne:gf (.int (k+1)) (.int (k+1))=Ga (.bool false)):DZ [X]=Gb:=by
 show(fV (fU 1 (pY (gW (dY iJ db (dL (.str "run ")))) (io (zp wl db (dL (.str " ")) cG)) (io (HA pd db (dL (.str " ")))))) (gQ (mh (nL hV bj) (gR gf ck (dY eB (ie fR (mO hV bj)) cJ))) (lI "NoRow") (ib))) [.val X,.no]=Gb;have h1:nL hV bj [.val X,.val (.list ws)]=Ga false:=MT (n:=n) (by simp[i0]) at_;have h2:mO hV bj [.val X,.val (.list ws)]=Ga K:=CP (n:=n) (by simp[i0]) at_;generalize hV=TF at *;unfold fV gQ ib;simp[s0,sp,h1,h2,lw,lk,ne]
def zG (X W K w:D)(n:Str)(k j:Int)(kvs:List (Str×D))(hj:k+1=j)(q:fq K (.int k)=Ga (.str n))(p:fq W (.int j)=Ga w):Lf [.val X,.val W,.val K,.dks kvs,.val (.int k)]=ze [.str n,w]:=by
 unfold Lf iz;simp[q,p,hj]
def Qs (X W K:D)(n:Str)(L:List D)(m:Int)(c:Str)(hx:DZ [X]=Gb)(hw:rO [X]=Ga W)(i0:fq W (.int 0)=Ga (.str n))(at_:atT hV n=Ga K)(lk:fR K=Ga (.int m))(hr:fZ (.int m)=Ga L)
  (lp:rV cZ CI Lf L [.val X,.val W,.val K,.dks [],.no]=Ga c):yN [X]=Ga c:=by
 refine(GM hx).trans ?_;rw[wN (e:=[.val X,.val W,.no,.no,.no]) (tF hw),wN (e:=[.val X,.val W,.val K,.no,.no]) (tF (CP ((mi rfl rfl).trans i0) at_)),wN (e:=[.val X,.val W,.val K,.dks [],.no]) rfl];have e1:cy [.val X,.val W,.val K,.dks [],.no]=Ga (.int m):=lk;have e:ip fZ cy [.val X,.val W,.val K,.dks [],.no]=Ga L:=by
  show ky (cy _) _=_;rwa[e1]
 unfold KO;rwa[e]
def Xc (N:Str)(h:jG N=true)(hn:∀ k,k<5->iw k≠N):ze [.str "rounds",.str N]=Ga (S_ "NoRow"):=by
 have e:ze [.str "rounds",.str N]=(ik (.str N) (.list [.str (iw 0),.str (iw 1),.str (iw 2),.str (iw 3),.str (iw 4)]) |>.bind gI |>.bind λt=>if t=true then Ga (S_ "NoRow") else Gb):=by ext
 have ok:pZ (.str N) [.str (iw 0),.str (iw 1),.str (iw 2),.str (iw 3),.str (iw 4)]=true:=by
  unfold pZ;have c:(jL N).canLay0=true:=h;have d:(jL N).depth=0:=by rfl
  rw[c,d,Nat.min_zero];decide +kernel
 have f:∀ k,k<5->kQ (.str (iw k)) (.str N)=false:=λk hk=>by
  show(iw k==N)=false;exact beq_eq_false_iff_ne.mpr (hn k hk)
 rw[e];show ky (ky (if pZ _ _=true then Ga (kP (!(_||(_||(_||(_||(_||false))))))) else Gb) _) _=_;rw[Ge ok];simp only[f 0 (by decide),f 1 (by decide),f 2 (by decide),f 3 (by decide),f 4 (by decide)];rfl
def zD2 (m:Nat):∀ k,k<5->iw k≠nt ((m+5:Nat):Int):=λk hk z=>by
 have:=congrArg (λx=>digitsVal (sg x)) z;have h:∀ k,k<5->digitsVal (sg (iw k))=k:=by nofun
 simp only[pF,Mt,h k hk] at this;omega
def Fo (l:List Nat)(b:Str)(h:l.length+b.length<=10000):eB (.str (iA l)) (.str b)=Ga (.str (iA (l++sg b))):=by
 show(if _ then _ else _)=_;rw[Ge (by rw[lD,nG];exact jX h (by decide))]
 congr 2
 refine yx ?_;show(_++_:Array Nat).toList=_;rw[uv];rfl
def EB (s:String)(b:Str)(h:(W_ s).length+b.length<=10000):eB (.str (jv s)) (.str b)=Ga (.str (iA (W_ s++sg b))):=by
 have:=Fo (W_ s) b h;rw[nO] at this;exact this
def WW:W_ " "=[32]:=by nofun
def PF (w0:Str)(ws:List Str)(K:List D)(x:Str)(hx:x=kK ⟨#[32]⟩ (w0::ws))(fr:∀ w∈w0::ws,32∉sg w)(h1:1<=ws.length)(h5:ws.length<=5)(hl:x.length<=1000)(c:Nat)(r:List Nat)(hc:sg x=c::r)(nc:c≠114)(at_:atT hV w0=Ga (.tuple K))(lk:K.length=ws.length):DZ [.str x]=Gb:=by
 have s0:=Rj x c r hc nc;have sp:=LZ (w0::ws) x hx (by rw[jr];omega) (by rw[jr];omega) fr hl;refine zD1 (.str x) _ w0 (.tuple K) (K.length:Int) (by show Ga (kP _)=_;rw[s0]) sp (by rw[GX];exact atI_nat (j:=0) rfl) at_ ?_ (Po K) (MQ _);rw[Rb,jk,jr,<- lk];rfl
def Vr (a b c d e:Str):sg (kK ⟨#[32]⟩ [a,b,c,d,e])=sg a++32::(sg b++32::(sg c++32::(sg d++32::sg e))):=by
 have h1:=xk 32 a b [c,d,e];rw[show kK ⟨#[32]⟩ [a,b,c,d,e]=uE ⟨#[32]⟩ [a,b,c,d,e] from kU _ _,h1,<- OI b c d e,show kK ⟨#[32]⟩ [b,c,d,e]=uE ⟨#[32]⟩ [b,c,d,e] from kU _ _]
def zD3 (N:Str)(hN:32∉sg N)(hl:N.length<=100)(hk:jG N=true)(h5:∀ k,k<5->iw k≠N):QR (.str (iA (W_ "know a 0 "++sg N))):=by
 have hx:iA (W_ "know a 0 "++sg N)=kK ⟨#[32]⟩ [S_ "know",S_ "a",S_ "0",N]:=by
  refine yx ?_;rw[nG,OI,show W_ "know a 0 "=W_ "know"++32::(W_ "a"++32::(W_ "0"++[32])) by nofun];simp only[ub,kM,vw]
 have fr:∀ w∈[S_ "know",S_ "a",S_ "0",N],32∉sg w:=by
  have a:∀ w∈[S_ "know",S_ "a",S_ "0"],32∉sg w:=by nofun
  intro w hw;rcases kI.mp (show w∈[S_ "know",S_ "a",S_ "0"]++[N] from hw) with h|h
  .exact a w h
  .rwa[jD.mp h]
 have l1:(iA (W_ "know a 0 "++sg N)).length<=1000:=by
  rw[lD,nG,jA,<- lD N,show(W_ "know a 0 ").length=9 by nofun];omega
 have hc:sg (iA (W_ "know a 0 "++sg N))=107::((W_ "know a 0 ").tail++sg N):=by rw[nG,show W_ "know a 0 "=107::(W_ "know a 0 ").tail by nofun];rfl
 have at_:atT hV (S_ "know")=Ga (.tuple [.str "name",.str "hand",.str "rounds"]):=by ext
 have hw:=UN (S_ "know") [S_ "a",S_ "0",N] _ _ hx fr (kB rfl) (kB rfl) l1 107 _ hc (by decide) at_ rfl;have hf:=PF (S_ "know") [S_ "a",S_ "0",N] _ _ hx fr (kB rfl) (kB rfl) l1 107 _ hc (by decide) at_ rfl;refine Qs _ _ _ (S_ "know") [.int 0,.int 1,.int 2] 3 _ hf hw (ly _ 0 _ rfl) at_ rfl rfl ?_;rw[CF rfl ((zG _ _ _ (.str "a") (S_ "name") 0 1 [] rfl (la _ 0 _ rfl) (ly _ 1 _ rfl)).trans nofun) (zO _ _ _ (.str "a") (.str "a") (S_ "name") 0 1 [] .no rfl (la _ 0 _ rfl) (ly _ 1 _ rfl) nofun (by decide)),
  CF rfl ((zG _ _ _ (.str "0") (S_ "hand") 1 2 _ rfl (la _ 1 _ rfl) (ly _ 2 _ rfl)).trans nofun) (zO _ _ _ (.str "0") (.int 0) (S_ "hand") 1 2 _ .no rfl (la _ 1 _ rfl) (ly _ 2 _ rfl) nofun (by decide))]
 exact OK rfl ((zG _ _ _ (.str N) (S_ "rounds") 2 3 _ rfl (la _ 2 _ rfl) (ly _ 3 _ rfl)).trans (Xc N hk h5))
def zBG (N:Str)(hN:32∉sg N)(hl:N.length<=100)(hk:jG N=true)(h5:yQ [.str N]=Ga (S_ "NoText")):QR (.str (iA (W_ "chain a 1 1 "++sg N))):=by
 have hx:iA (W_ "chain a 1 1 "++sg N)=kK ⟨#[32]⟩ [S_ "chain",S_ "a",S_ "1",S_ "1",N]:=by
  refine yx ?_;rw[nG,Vr,show W_ "chain a 1 1 "=W_ "chain"++32::(W_ "a"++32::(W_ "1"++32::(W_ "1"++[32]))) by nofun];simp only[ub,kM,vw]
 have fr:∀ w∈[S_ "chain",S_ "a",S_ "1",S_ "1",N],32∉sg w:=by
  have a:∀ w∈[S_ "chain",S_ "a",S_ "1",S_ "1"],32∉sg w:=by nofun
  intro w hw;rcases kI.mp (show w∈[S_ "chain",S_ "a",S_ "1",S_ "1"]++[N] from hw) with h|h
  .exact a w h
  .rwa[jD.mp h]
 have l1:(iA (W_ "chain a 1 1 "++sg N)).length<=1000:=by
  rw[lD,nG,jA,<- lD N,show(W_ "chain a 1 1 ").length=12 by nofun];omega
 have hc:sg (iA (W_ "chain a 1 1 "++sg N))=99::((W_ "chain a 1 1 ").tail++sg N):=by rw[nG,show W_ "chain a 1 1 "=99::(W_ "chain a 1 1 ").tail by nofun];rfl
 have at_:atT hV (S_ "chain")=Ga (.tuple [.str "name",.str "bound",.str "rounds",.str "number"]):=by ext
 have hw:=UN (S_ "chain") [S_ "a",S_ "1",S_ "1",N] _ _ hx fr (kB rfl) (kB rfl) l1 99 _ hc (by decide) at_ rfl;have hf:=PF (S_ "chain") [S_ "a",S_ "1",S_ "1",N] _ _ hx fr (kB rfl) (kB rfl) l1 99 _ hc (by decide) at_ rfl;refine Qs _ _ _ (S_ "chain") [.int 0,.int 1,.int 2,.int 3] 4 _ hf hw (ly _ 0 _ rfl) at_ rfl rfl ?_;rw[CF rfl ((zG _ _ _ (.str "a") (S_ "name") 0 1 [] rfl (la _ 0 _ rfl) (ly _ 1 _ rfl)).trans nofun) (zO _ _ _ (.str "a") (.str "a") (S_ "name") 0 1 [] .no rfl (la _ 0 _ rfl) (ly _ 1 _ rfl) nofun (by decide)),
  CF rfl ((zG _ _ _ (.str "1") (S_ "bound") 1 2 _ rfl (la _ 1 _ rfl) (ly _ 2 _ rfl)).trans nofun) (zO _ _ _ (.str "1") (.int 1) (S_ "bound") 1 2 _ .no rfl (la _ 1 _ rfl) (ly _ 2 _ rfl) nofun (by decide)),
  CF rfl ((zG _ _ _ (.str "1") (S_ "rounds") 2 3 _ rfl (la _ 2 _ rfl) (ly _ 3 _ rfl)).trans nofun) (zO _ _ _ (.str "1") (.int 1) (S_ "rounds") 2 3 _ .no rfl (la _ 2 _ rfl) (ly _ 3 _ rfl) nofun (by decide))]
 refine OK rfl ((zG _ _ _ (.str N) (S_ "number") 3 4 _ rfl (la _ 3 _ rfl) (ly _ 4 _ rfl)).trans ?_);have e1:ze [.str "number",.str N]=gO (λ_=>Nh [.str N]) (λ_=>Gb) []:=by ext
 rw[e1];refine Bf ?_;show ky (yQ [.str N]) _=_;rw[h5,jp];exact Ge rfl
def zAn (m:Nat)(hm:m<10^50):∃ d,yf [.int (m:Int),.int (m:Int)]=Ga d/\QR d:=by
 have p1:(10:Nat)^50<10^60-5:=by nofun
 have p2:(10:Nat)^60+10^60<10^61:=by nofun
 have l1:=Gp (m+5) (by omega);have l2:(dg (10^60+m)).length<=61:=by
  have:=Gp ((10^60+m)/10) (by omega);unfold dg;rw[zc,Gf (by omega),jA];exact vR this
 have n1:(nt ((m+5:Nat):Int)).length<=100:=by rw[lD,pF];omega
 have n2:(nt ((10^60+m:Nat):Int)).length<=100:=by rw[lD,pF];omega
 refine Zd m (by omega) (nt ((m+5:Nat):Int)) _ (nt ((10^60+m:Nat):Int)) _ (Bz (m+5) (by omega)) (EB _ _ (by rw[show(W_ "know a 0 ").length=9 by nofun];omega)) ?_ (EB _ _ (by rw[show(W_ "chain a 1 1 ").length=12 by nofun];omega)) (zD3 _ (by rw[pF];exact Nu _) n1 (wF _) (zD2 m)) (zBG _ (by rw[pF];exact Nu _) n2 (wF _) ?_)
 .have e:=Bz (10^60+m) (by omega);rw[show((10^60+m:Nat):Int)=10^60+(m:Int) by rw[Int.natCast_add];rfl] at *;exact e
 .exact zFP _ (Nat.le_add_right _ _) (by omega)
abbrev nv (R R':D):List (Str×D):=[(S_ "a",R),(S_ "b",R')]
def zX (o:Option D)(b:Bool):Bool:=match o with
 | some (.bool t)=>t==b
 | _=>false
def xY{b:Bool}(h:zX o b=true):o=Ga (.bool b):=by
 unfold zX at h;split at h
 .rw[eq_of_beq h]
 .cases h
def LI (x:D):Bool:=match lM x with
 | some (w,A)=>zX (eF (.str w) (.str "run")) true&&match ef A (.str "text") with
  | some t=>decide (Ee [t]=Ga (S_ "NoText"))
  | none=>false
 | none=>false
def Hn (n:Str):Bool:=!(n==S_ "a")&&!(n==S_ "b")
def KS (x:D):Bool:=match lM x with
 | some (w,A)=>zX (eF (.str w) (.str "run")) false&&match word A "name" with
  | some n=>Hn n||((n==S_ "a")&&zX (eF (.str w) (.str "alike")) true&&match word A "other" with
   | some m=>Hn m
   | none=>false)
  | none=>false
 | none=>false
def brk (R b k:D):Option Str:=gO (λ_=>FF [R,b,k]) (λ_=>gQ (iO (iL (λ_=>xX [R,b,k]))) (lI (S_ "Closed")) ib []) []
def Cm (R:D)(w:Str)(A:D)(c:Str):Bool:=if w==S_ "break" then match ef A (.str "bound"),ef A (.str "rounds") with
  | some b,Ga k=>decide (brk R b k=Ga c)
  | _,_=>false
 else if w==S_ "close" then match ef A (.str "bound") with
  | some b=>decide (CZ [R,b]=Ga c)
  | _=>false
 else(w==S_ "chain")&&match ef A (.str "bound"),ef A (.str "rounds"),ef A (.str "number") with
  | some b,Ga k,Ga z=>decide (Gu [R,b,k,z]=Ga c)
  | _,_,_=>false
def Hy (R R':D)(x:D)(c:Str):Bool:=match lM x with
 | some (w,A)=>zX (eF (.str w) (.str "run")) false&&zX (eF (.str w) (.str "alike")) false&&match word A "name" with
  | some n=>((n==S_ "a")&&Cm R w A c)||((n==S_ "b")&&Cm R' w A c)
  | none=>false
 | none=>false
def rg:atT (nv R R') (S_ "a")=Ga R:=rfl
def EY:atT (nv R R') (S_ "b")=Ga R':=by ext
def TV (h:Hn n=true):atT (nv R R') n=Gb:=by
 unfold Hn at h;rw[ju,u8,u8,beq_eq_false_iff_ne,beq_eq_false_iff_ne] at h;unfold T3.atT;rw[vL (by rw[decide_eq_true_eq];exact λe=>h.1 e.symm),vL (by rw[decide_eq_true_eq];exact λe=>h.2 e.symm)];rfl
def zGd (h:LI X=true):lU C mk Pt (.dsk C p r kvs) [X]=Ga (S_ "NoText"):=by
 unfold LI at h;split at h
 .rename_i e;rw[ju] at h;obtain⟨h1,h2⟩:=h;split at h2
  .rename_i e2;exact zF5 e (xY h1) e2 (of_decide_eq_true h2)
  .cases h2
 .cases h
def zGe (h:KS X=true):lU C mk Pt (.dsk C p r (nv R R')) [X]=Ga (S_ "NoName"):=by
 unfold KS at h;split at h
 .rename_i e;rw[ju] at h;obtain⟨h1,h2⟩:=h;split at h2
  .rename_i e2;rcases v9 _ _ |>.mp h2 with h3|h3
   .exact zDY e (xY h1) (Dh e2) (TV h3)
   .rw[ju,ju] at h3;obtain⟨⟨h4,h5⟩,h6⟩:=h3;rw[eq_of_beq h4] at e2;split at h6
    .rename_i e3;exact zHi e (xY h1) (Dh e2) rg (xY h5) (Dh e3) (TV h6)
    .cases h6
  .cases h2
 .cases h
def zGf (f:dZ)(φ:D->Option D)(b k:D):Gv f φ [R,b,k]=brk R b k:=by ext
def Pi (h:Cm R w A c=true):rQ mk Pt [.str w,R,A]=Ga c:=by
 unfold Cm at h;split at h
 .rename_i e;rw[eq_of_beq e];split at h
  .rename_i b k e1 e2;exact zBE c e1 e2 λf φ=>(zGf f φ b k).trans (of_decide_eq_true h)
  .cases h
 .split at h
  .rename_i e;rw[eq_of_beq e];split at h
   .rename_i b e1;have e2:rQ mk Pt [.str "close",R,A]=gO (λ_=>(((ef A (.str "bound")).bind λb=>Ga [b]).bind λl=>Ga (R::l)).bind CZ) (λ_=>Gb) []:=by ext
    rw[e2];refine Bf ?_;rw[e1];exact of_decide_eq_true h
   .cases h
  .rw[ju] at h;obtain⟨e,h⟩:=h;rw[eq_of_beq e];split at h
   .rename_i b k z e1 e2 e3;have e4:rQ mk Pt [.str "chain",R,A]=gO (λ_=>(((ef A (.str "bound")).bind λb=>(((ef A (.str "rounds")).bind λk=>(((ef A (.str "number")).bind λz=>Ga [z]).bind λl=>Ga (k::l))).bind λl=>Ga (b::l))).bind λl=>Ga (R::l)).bind Gu) (λ_=>Gb) []:=by ext
    rw[e4];refine Bf ?_;rw[e1,e2,e3];exact of_decide_eq_true h
   .cases h
def Qw (h:Hy R R' X c=true):lU C mk Pt (.dsk C p r (nv R R')) [X]=Ga c:=by
 unfold Hy at h;split at h
 .rename_i e;rw[ju,ju] at h;obtain⟨⟨h1,h2⟩,h3⟩:=h;split at h3
  .rename_i e2;rcases v9 _ _ |>.mp h3 with h4|h4
   .rw[ju] at h4;rw[eq_of_beq h4.1] at e2;rw[Ti e (xY h1) (Dh e2) rg (xY h2)];exact Pi h4.2
   .rw[ju] at h4;rw[eq_of_beq h4.1] at e2;rw[Ti e (xY h1) (Dh e2) EY (xY h2)];exact Pi h4.2
  .cases h3
 .cases h
def zGg (a b:Int)(h1:a/10%3=b/10%3)(h2:a%10=b%10):tN [.int a]=tN [.int b]:=by
 have d:∀ a:Int,ph (.int a) (.int 10)=Ga (.int (a/10)):=λ_=>rfl;have m:∀ a:Int,gG (.int a) (.int 3)=Ga (.int (a%3)):=λ_=>rfl;have m':∀ a:Int,gG (.int a) (.int 10)=Ga (.int (a%10)):=λ_=>rfl;rw[Oa,Oa];unfold Rx;simp[d,m,m',h1,h2]
def zGh (a b:Int)(h2:a%10=b%10):tR [.int a]=tR [.int b]:=by
 have m':∀ a:Int,gG (.int a) (.int 10)=Ga (.int (a%10)):=λ_=>rfl;rw[RL,RL];unfold Pw;simp[m',h2]
def zGi (a b:Int)(h2:a%10=b%10):xV [.int a]=xV [.int b]:=by
 have m':∀ a:Int,gG (.int a) (.int 10)=Ga (.int (a%10)):=λ_=>rfl;rw[OB,OB];unfold Oc;simp[m',h2,Ms,jA,jr,vp,Nat.reduceAdd,JJ]
def EA (f:D->Bool)(o:Option D):Bool:=match o with
 | some x=>f x
 | none=>false
def MX {f:D->Bool}(h:EA f o=true):∃ x,o=Ga x/\f x=true:=by
 unfold EA at h;split at h
 .exact⟨_,rfl,h⟩
 .cases h
def zBH:((kF 30).all λk=>EA LI (tN [.int (k:Int)]))=true:=by ext
def zBI:((kF 10).all λk=>EA KS (tR [.int (k:Int)]))=true:=by ext
def rB:D:=.tuple [.tuple [.int 3,.int 3],.tuple []]
def fl (a b c:Int):D:=.tuple [.int a,.int b,.int c]
def SB (R R':D)(x:D):Bool:=match x with
 | .tuple [x,.str w]=>((w==S_ "bound")&&Hy R R' x (S_ "NoBound"))||((w==S_ "closed")&&Hy R R' x (S_ "Closed"))
 | _=>false
def zD5 (n:Int)(f:D)(h:f∈[fl 0 1 4,fl 1 2 0,fl 2 1 1,fl 0 3 6]):((kF 10).all λk=>EA (SB (rA n f) rB) (xV [.int (k:Int)]))=true:=by
 simp only[jz,jQ,or_false] at h;rcases h with rfl|rfl|rfl|rfl
 .ext
 .ext
 .ext
 .ext
def wG:ir (.int 10) (.int 50)=Ga (.int (10^50)):=by ext
def zBJ (n:Int)(f:D)(hf:f∈[fl 0 1 4,fl 1 2 0,fl 2 1 1,fl 0 3 6])(c:Int):nY C mkx mk Pt (.dsk C p r (nv (rA n f) rB)) [.int c]=Ga (.bool true):=by
 have e50:(10:Int)^50=((10^50:Nat):Int):=by norm_cast
 have hm:0<=c/4%10^50:=qR _ (by rw[e50];exact_mod_cast (by nofun:(10^50:Nat)≠0));have hm2:c/4%10^50<10^50:=ql _ (by rw[e50];exact_mod_cast (by nofun:0<(10^50:Nat)));have⟨m,em⟩:=vE hm;rw[em,e50] at hm2;have d1:ph (.int c) (.int 4)=Ga (.int (c/4)):=rfl;have md:gG (.int (c/4)) (.int (10^50))=Ga (.int (m:Int)):=by rw[<- em];exact Ge (c:=decide ((0:Int)<10^50)=true) (e:=(Gb:Option D)) (by nofun)
 have m4:gG (.int c) (.int 4)=Ga (.int (c%4)):=rfl;have h4:c%4=0\/c%4=1\/c%4=2\/c%4=3:=by omega
 rcases h4 with h|h|h|h<;>rw[h] at m4
 .obtain⟨d,hd,q⟩:=zAn m (by exact_mod_cast hm2);exact WD d1 wG md m4 hd (zHj (zF4 q))
 .have z:=k6.mp zBH (m%30) (kY.mpr (Jn _ (by decide)));have⟨x,hx,q⟩:=MX z;exact Xm d1 wG md m4 ((zGg _ _ (by omega) (by omega)).trans hx) (Yz (zGd q))
 .have z:=k6.mp zBI (m%10) (kY.mpr (Jn _ (by decide)));have⟨x,hx,q⟩:=MX z;exact WX d1 wG md m4 ((zGh _ _ (by omega)).trans hx) (zF8 (zGe q))
 .have z:=k6.mp (zD5 n f hf) (m%10) (kY.mpr (Jn _ (by decide)));have⟨x,hx,q⟩:=MX z;have hr:=(zGi (m:Int) ((m%10:Nat):Int) (by omega)).trans hx;unfold SB at q;split at q
  .rcases v9 _ _ |>.mp q with q|q
   .rw[ju] at q;rw[eq_of_beq q.1] at hr;exact LN d1 wG md m4 hr (zDZ (Qw q.2))
   .rw[ju] at q;rw[eq_of_beq q.1] at hr;exact LN d1 wG md m4 hr (zBF (Qw q.2))
  .cases q
abbrev kN:Str:=jv "name"
abbrev kT:Str:=jv "text"
def Zl (l:List (Str×D))(k:Str)(d:D):(iW l k d).length<=l.length+1:=by
 unfold iW;split
 .rw[jk];omega
 .rw[jA,uk];exact jw _
def lv (X:D)(w0:Str)(a b:Str)(w v w2 v2:D)(hw:rO [X]=Ga (.list [.str w0,w,w2]))(at_:atT hV w0=Ga (.tuple [.str a,.str b]))(h1:wS [.str a,w]=Ga v)(h2:wS [.str b,w2]=Ga v2):nB [X]=Ga (.tuple [.str w0,pC (iW (iW [] a v) b v2)]):=by
 have l1:=Zl [] a v;refine zHe X _ _ w0 [.int 0,.int 1] _ (.val (.int 1)) 2 hw (ly _ 0 _ rfl) at_ rfl rfl ?_;rw[nE (zO X _ _ w v a 0 1 [] _ rfl (la _ 0 _ rfl) (ly _ 1 _ rfl) h1 (by decide)),nE (zO X _ _ w2 v2 b 1 2 _ _ rfl (la _ 1 _ rfl) (ly _ 2 _ rfl) h2 (Jl l1 (by decide)))];rfl
def zD7 (t:Str)(ht:t.length<=1000):nB [.str (iA (W_ "run "++sg (S_ "a")++W_ " "++sg t))]=Ga (.tuple [.str "run",pC (iW (iW [] kN (.str "a")) kT (.str t))]):=by
 have hw:=zDV (S_ "a") t (iA (W_ "run "++sg (S_ "a")++W_ " "++sg t)) (by rw[nG,WW];simp only[ub,kM,vw]) (by nofun) (by rw[lD,nG,jA,<- lD t,show(W_ "run "++sg (S_ "a")++W_ " ").length=6 by nofun];omega);exact lv _ _ kN kT _ _ _ _ hw nofun nofun nofun
def Ht{k:Str}(h:atT kvs k=Ga d):ef (pC kvs) (.str k)=Ga d:=by
 show(AX (pC kvs)).bind _=_;rwa[OG]
abbrev lm (a b:String)(t:Bool):Prop:=eF (.str (S_ a)) (.str (S_ b))=Ga (.bool t)
def NY (s:Sl)(r:Gj)(a b c d:D):oZ 0 r [s,.val a,.val b,.val c,.val d,.no,.no]:=λj C p r' l h=>by
 match j,h with
 | 0,_=>exact .inl rfl
 | 1,h=>cases h
 | 2,h=>cases h
 | 3,h=>cases h
 | 4,h=>cases h
 | 5,h=>cases h
 | 6,h=>cases h
 | j+7,h=>simp at h
def Vb (C p r:Gj)(kvs:List (Str×D))(X A R t:D)(n:Str)(hr:nB [X]=Ga (.tuple [.str "run",A]))(hn:ef A (.str "name")=Ga (.str n))(ht:ef A (.str "text")=Ga t)(hR:wy [t]=Ga R)(hl:kvs.length<1000):mW C (.dsk C p r kvs) [X]=Ga (.str "ok",iW kvs n R):=by
 rw[zsF];unfold FH;have e1:lm "run" "run" true:=by ext
 have i0:fq (.tuple [.str "run",A]) (.int 0)=Ga (.str "run"):=la _ 0 _ rfl;have i1:fq (.tuple [.str "run",A]) (.int 1)=Ga A:=la _ 1 _ rfl;generalize uL [.str "run",A]=TP at *;have h5:zB [r] 0 C (dY ef dm (dL (.str "name"))) (eD wy (dN (dY ef dm (dL (.str "text"))) eS)) [.dsk C p r kvs,.val X,.val TP,.val (.str "run"),.val A,.no,.no]=Ga (.nx [.dsk C p r (iW kvs n R),.val X,.val TP,.val (.str "run"),.val A,.no,.no]):=by
  generalize wy=A2 at *;have hg:eD A2 (dN (dY ef dm (dL (.str "text"))) eS) [.dsk C p r kvs,.val X,.val TP,.val (.str "run"),.val A,.no,.no]=Ga R:=by simp[ht,hR]
  have hf:dY ef dm (dL (.str "name")) [.dsk C p r kvs,.val X,.val TP,.val (.str "run"),.val A,.no,.no]=Ga (.str n):=by simp[hn]
  unfold zB;rw[hg,jp,hf,jp];exact(Ge ⟨rfl,jD.mpr rfl,hl,NY _ _ _ _ _ _⟩)
 have h6:BO C p r (gY.rc (.str "ok") [.dsk C p r (iW kvs n R),.val X,.val TP,.val (.str "run"),.val A,.no,.no])=Ga (.str "ok",iW kvs n R):=by
  show(if C=C/\p=p/\r=r then _ else _)=_;rw[Ge ⟨rfl,rfl,rfl⟩]
 generalize zB [r] 0 C (dY ef dm (dL (.str "name"))) (eD wy (dN (dY ef dm (dL (.str "text"))) eS))=PU at *;generalize nB=A1 at *;simp[hr,i0,i1,e1,h5,wv,Wc,h6,XY]
def sG (n:Nat)(f:F3):Str:=iA (W_ "run "++sg (S_ "a")++W_ " "++sg (tx n f))
def zHk (C p r:Gj)(n:Nat)(h:n<10^60)(f:F3)(hf:f∈oz):mW C (.dsk C p r []) [.str (sG n f)]=Ga (.str "ok",[(S_ "a",rA (n:Int) (td f))]) :=
 Vb C p r [] _ _ _ (.str (tx n f)) (S_ "a") (zD7 _ (RZ n h f hf)) (Ht nofun) (Ht nofun) (zF2 n h f hf) (by decide)
def zHl (C p r:Gj)(R:D):mW C (.dsk C p r [(S_ "a",R)]) [.str "run b 3 3 /"]=Ga (.str "ok",nv R rB) :=
 Vb C p r _ _ (pC (iW (iW [] kN (.str "b")) kT (.str "3 3 /"))) rB (.str "3 3 /") (S_ "b") nofun (Ht nofun) (Ht nofun) nofun (gF rfl)
def v0 (i x:Int):D:=.tuple [.int i,.int x]
def v1 (h:Int)(p q r:D):D:=.tuple [.int h,.tuple [p,q,r]]
abbrev BW:FS:=fW bI (EO 1 di) gb
def Aj (ks:List D)(q:D)(ks':List D):Prop:=∀ L v y,(pK 3 q [L,.dic ks,v,y]).bind BW=Ga (.nx [L,.dic ks',v,.val q])
def Ei (ks:List D):Aj ks .none ks:=λL v y=>by
 show BW [L,.dic ks,v,.val .none]=_;exact(BJ (Wu (x:=.none) (y:=.none) rfl rfl rfl)).trans rfl
variable {k q:D}
def xF(h:(eQ k 8&&Ce k)=true)(hn:nM k .none=Ga (.bool true))(hl:ks.length<1000000)(e:mq ks k=ks'):Aj ks k ks':=λL v y=>by
 show BW [L,.dic ks,v,.val k]=_;refine(XD (Wu (x:=k) (y:=.none) rfl rfl hn)).trans ?_;show(if _ then _ else _)=_;rw[Ge ⟨h,hl⟩,e];rfl
def Ey(h:k∉ks):mq ks k=ks++[k]:=Gf h
def YR(h:k∈ks):mq ks k=ks:=Ge h
def xd (ks:List D)(p q r:D)(ks':List D):Prop:=∃ k1 k2,Aj ks p k1/\Aj k1 q k2/\Aj k2 r ks'
abbrev BL:FS:=pS aZ (pK 3) BW
def EU{p r:D}(H:xd ks p q r ks')(L y z:Sl):∃ z',(pK 2 (v1 h p q r) [L,.dic ks,y,z]).bind BL=Ga (.nx [L,.dic ks',.val (v1 h p q r),z']):=by
 obtain⟨k1,k2,a,b,c⟩:=H;refine⟨.val r,?_⟩;have hs:aZ [L,.dic ks,.val (v1 h p q r),z]=Ga [p,q,r]:=rfl;show BL [L,.dic ks,.val (v1 h p q r),z]=_;refine(Vx hs).trans ?_;rw[nE (a L _ z),nE (b L _ _),nE (c L _ _)];rfl
def RG {L:D}{Vs:List D}{z:Sl}(hs:cT [.val L,.dic [],.no,.no]=Ga Vs)(h:gB (pK 2) BL Vs [.val L,.dic [],.no,.no]=Ga (.nx [.val L,.dic ks,y,z])):tM [L]=Ga (.list ks):=by
 show eZ (LJ [.val L,.no,.no,.no])=_;unfold LJ;rw[yz (e:=[.val L,.dic [],.no,.no]) rfl,yz ((Vx hs).trans h)];have kd:sU (AC ks)=Ga ks:=by
  rw[show AC ks=JL (ks.map λk=>(k,kP true)) from rfl,OW,uz];exact congrArg Ga (List.map_id' _)
 show eZ (eX (fw (ip sU de)) [.val L,.val (AC ks),y,z])=_;exact(congrArg eZ (Zn (Ev ((zGX (a:=AC ks) rfl).trans kd)))).trans rfl
def rS{p r:D}(H:xd [] p q r ks):tM [.list [v1 h p q r]]=Ga (.list ks):=by
 have⟨z',e⟩:=EU (h:=h) H (.val (.list [v1 h p q r])) .no .no;exact RG rfl (nE e)
def De {k0:List D}{p r p' q' r':D}{h':Int}(H:xd [] p q r k0)(H':xd k0 p' q' r' ks):tM [.list [v1 h p q r,v1 h' p' q' r']]=Ga (.list ks):=by
 have⟨z',e⟩:=EU (h:=h) H (.val (.list [v1 h p q r,v1 h' p' q' r'])) .no .no;have⟨z2,e2⟩:=EU (h:=h') H' (.val (.list [v1 h p q r,v1 h' p' q' r'])) (.val (v1 h p q r)) z';exact RG rfl ((nE e).trans (nE e2))
abbrev aD:=dN aV eS
def Mf {A:List D->Option D}{V P:D}(hi:L2.atI Ls (-1)=Ga X)(hp:A [X]=Ga P)(hl:Ls.length<1000000):(iK 2 d [.val V,.own Ls,y]).bind (AS 1 (eD A aD))=Ga (.nx [.val V,.own (Ls++[P]),.val d]):=by
 show AS 1 _ [.val V,.own Ls,.val d]=_;simp[hi,hp,Ge hl]
def Vm {V:D}{k:Int}{Ks:List D}(hr:oB [V]=Ga (.int k))(hk:fZ (.int k)=Ga Ks)(lp:gB cY (AS 1 (eD tM aD)) Ks [.val V,.own [.list [V]],.no]=Ga (.nx [.val V,.own Ls,y])):xS [V]=Ga (.list Ls.reverse):=by
 rw[zqD];unfold Kn;generalize oB=A1 at *;generalize tM=A2 at *;simp[hr,hk,lp]
def EH (V P:D)(hr:oB [V]=Ga (.int 1))(hp:tM [.list [V]]=Ga P):xS [V]=Ga (.list [P,.list [V]]) :=
 Vm (k:=1) hr rfl (nE (Mf rfl hp (gF rfl)))
def ME (V P P':D)(hr:oB [V]=Ga (.int 2))(hp:tM [.list [V]]=Ga P)(hp':tM [P]=Ga P'):xS [V]=Ga (.list [P',P,.list [V]]) :=
 Vm (k:=2) hr rfl ((nE (Mf rfl hp (gF rfl))).trans (nE (Mf rfl hp' (gF rfl))))
def Ef {V:D}{P Q:List D}(h:xS [V]=Ga (.list (.list P::Ls)))(hs:oK P=Ga Q):mE [V]=Ga (.list Q):=by
 rw[ZD];unfold Mr;have i0:gy (.list (.list P::Ls)) (.int 0)=Ga (.list P):=atI_nat (j:=0) rfl;generalize Jd (.list P::Ls)=LL at *;generalize xS=A1 at *;simp[h,i0,hs]
section
variable (a b c:Int)
variable {i x:Int}
def yZ {j y:Int}(h:i≠j):v0 i x≠v0 j y:=λe=>by
 unfold v0 at e;cases e;exact h rfl
def Kr {j:Int}{p r p' q' r':D}(h:i≠j):v1 i p q r≠v1 j p' q' r':=λe=>by
 unfold v1 at e;cases e;exact h rfl
def rP(hl:ks.length<1000000)(h:v0 i x∉ks):Aj ks (v0 i x) (ks++[v0 i x]):=xF rfl rfl hl (Ey h)
def BX(hl:ks.length<1000000)(h:v0 i x∈ks):Aj ks (v0 i x) ks:=xF rfl rfl hl (YR h)
def LD:xd [] (v0 0 a) (v0 1 b) (v0 2 c) [v0 0 a,v0 1 b,v0 2 c]:=⟨_,_,rP (gF rfl) jQ,rP (gF rfl) (by simp[yZ]at⊢),rP (gF rfl) (by simp[yZ]at⊢)⟩
def IC:xd [] .none (v0 1 b) (v0 2 c) [v0 1 b,v0 2 c]:=⟨_,_,Ei _,rP (gF rfl) jQ,rP (gF rfl) (by simp[yZ]at⊢)⟩
def XC:xd [] (v0 0 a) (v0 1 b) .none [v0 0 a,v0 1 b]:=⟨_,_,rP (gF rfl) jQ,rP (gF rfl) (by simp[yZ]at⊢),Ei _⟩
def WE:xd [v0 1 b,v0 2 c] (v0 0 a) (v0 1 b) (v0 2 c) [v0 1 b,v0 2 c,v0 0 a]:=⟨_,_,rP (gF rfl) (by simp[yZ]at⊢),BX (gF rfl) (by simp),BX (gF rfl) (by simp)⟩
def WO:xd [v0 0 a,v0 1 b,v0 2 c] (v0 0 a) (v0 1 b) .none [v0 0 a,v0 1 b,v0 2 c]:=⟨_,_,BX (gF rfl) (by simp),BX (gF rfl) (by simp),Ei _⟩
abbrev wA:D:=v1 1 .none (v0 1 b) (v0 2 c)
abbrev wB:D:=v1 1 (v0 0 a) (v0 1 b) .none
abbrev wC (h:Int):D:=v1 h (v0 0 a) (v0 1 b) (v0 2 c)
def yU (h:Int)(hr:oB [wC a b c h]=Ga (.int 1)):mE [wC a b c h]=Ga (.list [v0 0 a,v0 1 b,v0 2 c]):=Ef (EH _ _ hr (rS (LD a b c))) nofun
def Xu:mE [wA b c]=Ga (.list [v0 1 b,v0 2 c]):=Ef (EH _ _ nofun (rS (IC b c))) nofun
def WY:mE [wB a b]=Ga (.list [v0 0 a,v0 1 b]):=Ef (EH _ _ nofun (rS (XC a b))) nofun
abbrev wD:D:=v1 1 .none (wA b c) (wC a b c 2)
abbrev wE:D:=v1 1 (wC a b c 0) (wB a b) .none
def WC:mE [wD a b c]=Ga (.list [v0 0 a,v0 1 b,v0 2 c]) :=
 Ef (ME _ _ _ nofun (rS ⟨_,_,Ei _,xF nofun rfl (gF rfl) (Ey jQ),xF nofun rfl (gF rfl) (Ey (by simp[Kr]at⊢))⟩) (De (IC b c) (WE a b c))) nofun
def WA:mE [wE a b c]=Ga (.list [v0 0 a,v0 1 b,v0 2 c]) :=
 Ef (ME _ _ _ nofun (rS ⟨_,_,xF nofun rfl (gF rfl) (Ey jQ),xF nofun rfl (gF rfl) (Ey (by simp[Kr]at⊢)),Ei _⟩) (De (LD a b c) (WO a b c))) nofun
def zBK {V:D}{Q:List D}{ms:List D}(h:mE [V]=Ga (.list Q))(hl:Q.length<=1000000)(hc:fI (λ_=>Ga true) br [] Q=Ga ms)(hm:yM ms=Ga (.int m)):yS [V]=Ga (.int m):=by
 rw[znO];unfold Lw;generalize mE=A1 at *;simp[h,Rk,wI,Ge hl,hc,hm]
def WI:∃ m:Int,yM [.int a,.int b,.int c]=Ga (.int m)/\(m=a\/m=b\/m=c):=by
 refine⟨if c<(if b<a then b else a) then c else(if b<a then b else a),rfl,?_⟩;by_cases h1:b<a
 .rw[Ge h1];by_cases h2:c<b
  .rw[Ge h2];exact .inr (.inr rfl)
  .rw[Gf h2];exact .inr (.inl rfl)
 .rw[Gf h1];by_cases h2:c<a
  .rw[Ge h2];exact .inr (.inr rfl)
  .rw[Gf h2];exact .inl rfl
end
def Bw (v:Int):Prop:=gN (.int v)=Ga (.str (nt v))/\(nt v).length<=61
def pr (o:Nat)(v:Int):Str:=iA (sg (iw o)++[58]++sg (nt v))
def Wi (o:Nat)(v:Int)(h:Bw v):(pr o v).length<=63:=by
 have l:=h.2;unfold pr;rw[lD,nG];simp only[jA];rw[<- lD (nt v)];show 1+1+(nt v).length<=63;omega
def NK:S_ ":"=iA [58]:=by nofun
def Wy (a b c:Str):wo qg [a,b,c]=iA (sg a++sg b++sg c):=by
 refine yx ?_;show sg (((qg++a)++b)++c)=_;rw[nG];show(((#[]++a.cps)++b.cps)++c.cps:Array Nat).toList=_;rw[uv,uv,uv];rfl
def zD8 (F h v a b c Z:D)(i0:fq F (.int 0)=Ga h)(i1:fq F (.int 1)=Ga v)(f1:rj h=Ga a)(f2:rj v=Ga b)(hg:Cp [a,.str ":",b]=Ga Z):oU [F]=Ga Z:=by
 rw[zqG];unfold Lp;simp[i0,i1,f1,f2,hg]
def zD9 (o:Nat)(v:Int)(ho:o<10)(h:Bw v):oU [.tuple [.int (o:Int),.int v]]=Ga (.str (pr o v)):=by
 refine zD8 _ (.int (o:Int)) (.int v) (.str (iw o)) (.str (nt v)) .none _ (la _ 0 _ rfl) (la _ 1 _ rfl) (zAc o ho) h.1 ?_;have e:wo qg [iw o,S_ ":",nt v]=pr o v:=by rw[Wy,NK,nG];rfl
 show(if _ then _ else _)=_;rw[e,Ge (jX (Wi o v h) (by decide))]
def zGl (R k q V v K S:D)(L LK ys:List D)(hw:Ad [R,q]=Ga L)(hn:ik k (.list L)=Ga (.bool false))(hv:AK [R,q]=Ga V)(iv:fq V k=Ga v)(hk:mE [v]=Ga K)(tk:gp K=Ga LK)(lk:LK.length<=1000000)(hc:fI (λ_=>Ga true) (eD oU bZ) [] LK=Ga ys)(hj:tq (.str " ") ys=Ga S):tH [R,k,q]=Ga S:=by
 rw[zz9];unfold Ng;generalize Ad=A at *;generalize AK=A1 at *;generalize mE=A2 at *;generalize oU=A3 at *;simp[hw,hn,hv,iv,hk,tk,wI,Ge lk,hc,hj]
def VD (P:List D->Option D)(c:dZ)(φ:D->Option D)(v k d X:D)(y3:Sl)(h:P [v,k]=Ga d)(h2:φ d=Ga X):(mS 0 c φ (eD P bK)) [.fn c,.val v,.val k,y3]=Ga X:=by
 simp[h];exact h2
def zBL (R P:List D->Option D)(c:dZ)(φ:D->Option D)(v X:D)(ri:Int)(Ks:List D)(hR:R [v]=Ga (.int ri))(h0:fZ (.int (ri+1))=Ga Ks)(q:mT (gB cY (eK (fU 3 (mS 0 c φ (eD P bK))) ae) Ks [.fn c,.val v,.no,.no]) cj=Ga (.rt X)) :
  eZ ((eK (nD (iY fZ (dY eB (eD R cg) cJ)) cY (eK (fU 3 (mS 0 c φ (eD P bK))) ae)) cj) [.fn c,.val v,.no,.no])=Ga X:=by
 simp[hR,h0];rw[q,Rt]
def XW (C:dZ->(D->Option D)->List D->Option D)(M L:List D->Option D)(c:dZ)(φ:D->Option D)(Rn R:D)(n:Int)(Ks ds:List D)(hM:M [Rn]=Ga (.int n))(h0:fZ (.int n)=Ga Ks)(hl:Ks.length<=1000000)(q:fI (λ_=>Ga true) (mD 2 c (C c φ) (dN (eD L aL) eS)) [.val R,.fn c,.val Rn] Ks=Ga ds) :
  eZ ((fX (io (fB (iY fZ (eD M cg)) (λ_=>Ga true) (mD 2 c (C c φ) (dN (eD L aL) eS)) [2,0,1]))) [.fn c,.val Rn,.val R])=Ga (.list ds):=by
 have e:fB (iY fZ (eD M cg)) (λ_=>Ga true) (mD 2 c (C c φ) (dN (eD L aL) eS)) [2,0,1] [.fn c,.val Rn,.val R]=Ga ds:=by
  rw[wI];have:iY fZ (eD M cg) [.fn c,.val Rn,.val R]=Ga Ks:=by simp[hM,h0]
  rwa[this,jp,Ge hl]
 simp[e]
def LS (C:dZ->(D->Option D)->List D->Option D)(L:List D->Option D)(c:dZ)(φ:D->Option D)(Rn R k v X:D)(h1:L [Rn,k,R]=Ga v)(h2:C c φ [v]=Ga X):(mD 2 c (C c φ) (dN (eD L aL) eS)) [.val k,.val R,.fn c,.val Rn]=Ga X:=by
 simp[h1,h2]
def zHn (o:Nat)(v:Int)(ho:o<10):jG (pr o v)=true:=by
 refine(CV _).mpr λd hd=>?_;unfold pr at hd;rw[nG] at hd;rcases kI.mp hd with hd|hd
 .rcases kI.mp hd with hd|hd
  .have:d=48+o:=jD.mp hd;omega
  .have:d=58:=jD.mp hd;omega
 .exact(CV _).mp (wF _) d hd
def Tx (E:FV)(d:D):Prop:=∃ s:Str,E [.val d]=Ga (.str s)/\s.length<=63/\jG s=true
def UD (E:FV):∀ l:List D,(∀ d∈l,Tx E d)->∃ ss:List Str,fI (λ_=>Ga true) E [] l=Ga (ss.map jL)/\ss.length=l.length/\∀ s∈ss,s.length<=63/\jG s=true
 | [],_=>⟨[],rfl,rfl,λ_ h=>absurd h jQ⟩
 | d::l,h=>by
  have⟨s,e,a,b⟩:=h d jh;have⟨ss,e2,l2,q⟩:=UD E l λd hd=>h d (jd _ hd);refine⟨s::ss,?_,by rw[jr,jr,l2],jo.mpr ⟨⟨a,b⟩,q⟩⟩;unfold fI;rw[jp,Ge rfl,e,jp,e2];rfl
def Sy (E:FV)(l:List D)(hl:l.length<=11)(h:∀ d∈l,Tx E d):∃ (ys:List D) (x:Str),fI (λ_=>Ga true) E [] l=Ga ys/\tq (.str " ") ys=Ga (.str x)/\jG x=true:=by
 have⟨ss,e,l2,q⟩:=UD E l h;exact⟨_,_,e,TB ss (by omega) (λy hy=>(q y hy).1),Uh ss λw hw=>(q w hw).2⟩
def Pa (o:Nat)(v:Int)(ho:o<10)(h:Bw v):Tx (eD oU bZ) (.tuple [.int (o:Int),.int v]):=⟨pr o v,wU _ _ _ (zD9 o v ho h),Wi o v h,zHn o v ho⟩
def Gy (R V v:D)(L Q:List D)(hw:Ad [R,.int 1]=Ga L)(hn:ik (.int 1) (.list L)=Ga (.bool false))(hv:AK [R,.int 1]=Ga V)(iv:fq V (.int 1)=Ga v)(hk:mE [v]=Ga (.list Q))(hl:Q.length<=11)(hq:∀ d∈Q,∃ (i:Nat) (x:Int),i<10/\Bw x/\d=v0 i x):∃ x:Str,tH [R,.int 1,.int 1]=Ga (.str x)/\jG x=true:=by
 obtain⟨ys,x,e1,e2,e3⟩:=Sy (eD oU bZ) Q hl λd hd=>by
  obtain⟨i,x,a,b,rfl⟩:=hq d hd;exact Pa i x a b
 exact⟨x,zGl R (.int 1) (.int 1) V v (.list Q) _ L Q ys hw hn hv iv hk rfl (by omega) e1 e2,e3⟩
def CH (d:D):Prop:=d=.none\/∃ (k:Nat) (i:Int),k<10/\Bw i/\d=.tuple [.int (k:Int),.int i]
abbrev zt:FV:=pY bN (dL (.str "-")) (eD oU bZ)
def Yk (d:D)(h:CH d):Tx zt d:=by
 rcases h with rfl|⟨k,i,a,b,rfl⟩
 .exact⟨S_ "-",by
   unfold zt;generalize oU=A;simp[],by nofun,by nofun⟩
 .obtain⟨s,e,l,o⟩:=Pa k i a b;have t:sA (.tuple [.int (k:Int),.int i]) .none=Ga (.bool false):=rfl;refine⟨s,?_,l,o⟩;unfold zt;generalize uL [.int (k:Int),.int i]=TT at *;generalize eD oU bZ=A at *;simp[t,e]
def zAt (c:dZ)(φ:D->Option D)(R:D)(Cs:List D)(h:BA c φ [R,.int 2]=Ga (.list Cs))(hl:Cs.length<=11)(hc:∀ d∈Cs,CH d):∃ x:Str,xq c φ [R,.int 2]=Ga (.str x)/\jG x=true:=by
 have⟨ys,x,e1,e2,e3⟩:=Sy zt Cs hl λd hd=>Yk d (hc d hd);refine⟨x,?_,e3⟩;rw[XN];unfold LW;have cp:mD 0 c (BA c φ) bK [.fn c,.val R,.val (.int 2)]=Ga (.list Cs):=(Ge rfl).trans h;have tl:gp (.list Cs)=Ga Cs:=rfl;unfold zt at e1;generalize mD 0 c (BA c φ) bK=A1 at *;generalize pY bN (dL (.str "-")) (eD oU bZ)=A2 at *;have l6:Cs.length<=1000000:=by omega
 simp[cp,tl,wI,Ge l6,e1,e2]
abbrev KR (c:dZ)(φ:D->Option D):FS:=eK (fU 3 (mS 0 c φ aS)) ae
def CG (c:dZ)(φ:D->Option D)(V:D)(ks:List D):Prop:=∀ y2 y3,∃ X,mT (gB cY (KR c φ) ks [.fn c,.val V,y2,y3]) cj=Ga (.rt X)/\CH X
section
variable {c:dZ}{φ:D->Option D}{V d:D}{ks:List D}
def zGm:CG c φ V []:=λy2 y3=>⟨.none,rfl,.inl rfl⟩
def GP {k:Int}(h:rF [V,.int k]=Ga d)(hφ:φ d=Ga .none)(q:CG c φ V ks):CG c φ V (.int k::ks):=λy2 y3=>by
 have⟨X,e,hX⟩:=q (.val (.int k)) (.val .none);refine⟨X,?_,hX⟩;have ha:=VD rF c φ V (.int k) d .none y3 h hφ;rw[<- e]
 conv=>lhs;unfold gB
 unfold KR;generalize mS 0 c φ aS=F at *;simp[ha]
def VP {k:Nat}{i:Int}(h:rF [V,.int (k:Int)]=Ga d)(hφ:φ d=Ga (.int i))(hk:k<10)(hi:Bw i):CG c φ V (.int (k:Int)::ks):=λy2 y3=>by
 refine⟨.tuple [.int (k:Int),.int i],?_,.inr ⟨k,i,hk,hi,rfl⟩⟩;have ha:=VD rF c φ V (.int (k:Int)) d (.int i) y3 h hφ;unfold gB KR;generalize mS 0 c φ aS=F at *;simp[ha]
def KI {r:Int}(hr:oB [V]=Ga (.int r))(h0:fZ (.int (r+1))=Ga ks)(q:CG c φ V ks):∃ X,oP c φ [V]=Ga X/\CH X:=by
 have⟨X,e,hX⟩:=q .no .no;refine⟨X,?_,hX⟩;rw[YJ];unfold No;exact zBL oB rF c φ V X r ks hr h0 e
def Hq {V0 V1 V2:D}(hm:mG [R]=Ga (.int 3))(l0:xp [R,.int 0,.int 2]=Ga V0)(l1:xp [R,.int 1,.int 2]=Ga V1)(l2:xp [R,.int 2,.int 2]=Ga V2)
  (q0:∃ X,oP c φ [V0]=Ga X/\CH X) (q1:∃ X,oP c φ [V1]=Ga X/\CH X) (q2:∃ X,oP c φ [V2]=Ga X/\CH X):∃ x:Str,xq c φ [R,.int 2]=Ga (.str x)/\jG x=true:=by
 obtain⟨X0,e0,h0⟩:=q0;obtain⟨X1,e1,h1⟩:=q1;obtain⟨X2,e2,h2⟩:=q2;refine zAt c φ R [X0,X1,X2] ?_ (gF rfl) (jo.mpr ⟨h0,jo.mpr ⟨h1,jo.mpr ⟨h2,λ_ h=>absurd h jQ⟩⟩⟩);rw[ztW];unfold MK;refine XW oP mG xp c φ _ _ 3 [.int 0,.int 1,.int 2] _ hm rfl (gF rfl) ?_;have a:=LS oP xp c φ R (.int 2) (.int 0) _ _ l0 e0;have b:=LS oP xp c φ R (.int 2) (.int 1) _ _ l1 e1;have d:=LS oP xp c φ R (.int 2) (.int 2) _ _ l2 e2;simp only[fI,jp,a,b,d,if_true]
end
def zEc {V:D}{t1 t2:Bool}(hb:Bh [V,.int 1]=Ga (.bool t1))(hc:Br [V]=Ga (.bool t2))(ht:(t1||t2)=true)(hl:yS [V]=Ga (.int m)):rC [V,.int 1]=Ga (.int m):=by
 have hw:Dd [.bool true,V]=Ga (.int m):=by
  rw[znR];unfold Nn;generalize yS=A at *;simp[hl]
 rw[YQ];unfold MS;generalize Bh=A at *;generalize Dd=B at *;generalize Br=E at *;cases t1 with
 | true=>simp[hb,hw,hc,Bool.true_or]
 | false =>
  rw[Bool.false_or] at ht;subst ht;simp[hb,hw,hc,Bool.false_or]
def zEd(h1:ef A (.str "rule")=Ga (.str "soon"))(h2:ef A (.str "bound")=Ga (.int 1))(h:rC [d,.int 1]=Ga x):lr [A] sd d=Ga x:=by
 have e1:lm "soon" "plain" false:=by ext
 have e2:lm "soon" "soon" true:=by ext
 have n:DI [.str "soon",d,.int 1]=Ga x:=by
  rw[zqF];unfold KQ;generalize rC=B at *;simp[e1,e2,h]
 show er DI _ [.val d,.val A]=_;rwa[zEy (iB ((mi rfl rfl).trans h1) (iB (d:=d) rfl (iB ((mi rfl rfl).trans h2) rfl)))]
section
variable (a b c:Int)
def ls3 {V:D}(hk:mE [V]=Ga (.list [v0 0 a,v0 1 b,v0 2 c]))(ha:Bw a)(hb:Bw b)(hc:Bw c):∃ m,yS [V]=Ga (.int m)/\Bw m:=by
 have⟨m,e,q⟩:=WI a b c;refine⟨m,zBK (ms:=[.int a,.int b,.int c]) hk (gF rfl) rfl e,?_⟩;rcases q with rfl|rfl|rfl<;>assumption
def FG {V:D}{t1 t2:Bool}(hk:mE [V]=Ga (.list [v0 0 a,v0 1 b,v0 2 c]))(h1:Bh [V,.int 1]=Ga (.bool t1))(h2:Br [V]=Ga (.bool t2))(ht:(t1||t2)=true)(ha:Bw a)(hb:Bw b)(hc:Bw c):∃ m,rC [V,.int 1]=Ga (.int m)/\Bw m:=by
 have⟨m,e,q⟩:=ls3 a b c hk ha hb hc;exact⟨m,zEc h1 h2 ht e,q⟩
def WH (h:Int)(hh:h=0\/h=1\/h=2)(ha:Bw a)(hb:Bw b)(hc:Bw c):∃ m,rC [wC a b c h,.int 1]=Ga (.int m)/\Bw m:=by
 rcases hh with rfl|rfl|rfl
 .exact FG a b c (t1:=false) (t2:=true) (yU a b c 0 nofun) nofun nofun rfl ha hb hc
 .exact FG a b c (t1:=false) (t2:=true) (yU a b c 1 nofun) nofun nofun rfl ha hb hc
 .exact FG a b c (t1:=false) (t2:=true) (yU a b c 2 nofun) nofun nofun rfl ha hb hc
def EX (h x:Int):rC [v0 h x,.int 1]=Ga .none:=by ext
end
section
variable {f:dZ}{φ:D->Option D}(hφ:∀ d x,rC [d,.int 1]=Ga x->φ d=Ga x)
include hφ
def KY (h x:Int):∃ X,oP f φ [v0 h x]=Ga X/\CH X:=KI (r:=0) nofun rfl (GP (d:=v0 h x) nofun (hφ _ _ (EX h x)) zGm)
def sN {V:D}{x a b c r:Int}(hr:oB [V]=Ga (.int r))(h0:fZ (.int (r+1))=Ga (.int 0::.int 1::ks))(p0:rF [V,.int 0]=Ga (v0 h x))(p1:rF [V,.int 1]=Ga (wC a b c h))(hh:h=0\/h=1\/h=2)(ha:Bw a)(hb:Bw b)(hc:Bw c):∃ X,oP f φ [V]=Ga X/\CH X:=by
 have⟨m,e,q⟩:=WH a b c h hh ha hb hc;exact KI hr h0 (GP p0 (hφ _ _ (EX h x)) (VP (k:=1) p1 (hφ _ _ e) (by decide) q))
def Il {V W:D}{x a b c:Int}{t1 t2:Bool}(hr:oB [V]=Ga (.int 2))(p0:rF [V,.int 0]=Ga (v0 h x))(p1:rF [V,.int 1]=Ga W)(p2:rF [V,.int 2]=Ga V)(s1:rC [W,.int 1]=Ga .none)(hk:mE [V]=Ga (.list [v0 0 a,v0 1 b,v0 2 c]))(h1:Bh [V,.int 1]=Ga (.bool t1))(h2:Br [V]=Ga (.bool t2))(ht:(t1||t2)=true)(ha:Bw a)(hb:Bw b)(hc:Bw c):∃ X,oP f φ [V]=Ga X/\CH X:=by
 have⟨m,e,q⟩:=FG a b c hk h1 h2 ht ha hb hc;exact KI (r:=2) hr rfl (GP p0 (hφ _ _ (EX h x)) (GP p1 (hφ _ _ s1) (VP (k:=2) p2 (hφ _ _ e) (by decide) q)))
end
def b5:Bw 5:=⟨by ext,by nofun⟩
def b7:Bw (-7):=⟨by ext,by nofun⟩
def zBO {f:dZ}{φ:D->Option D}(hφ:∀ d x,rC [d,.int 1]=Ga x->φ d=Ga x)(n:Int)(hn:Bw n):∀ g∈oz,∃ x:Str,xq f φ [rA n (td g),.int 2]=Ga (.str x)/\jG x=true:=by
 refine rZ ?_ ?_ ?_ ?_
 .exact Hq (V0:=v0 0 5) (V1:=wD 5 n (-7)) (V2:=(v1 2 .none (wA n (-7)) (wC 5 n (-7) 2))) nofun nofun nofun nofun (KY hφ 0 5) (Il hφ (W:=wA n (-7)) (h:=1) (x:=n) (t1:=true) (t2:=true) nofun nofun nofun nofun nofun (WC 5 n (-7)) nofun nofun rfl b5 hn b7) (sN hφ (V:=(v1 2 .none (wA n (-7)) (wC 5 n (-7) 2))) (h:=2) (x:=-7) (r:=2) (a:=5) (b:=n) (c:=-7) nofun rfl nofun nofun (.inr (.inr rfl)) b5 hn b7)
 .exact Hq (V0:=(v1 0 (wC 5 n (-7) 0) .none (wC 5 n (-7) 2))) (V1:=wC 5 n (-7) 1) (V2:=(v1 2 (wC 5 n (-7) 0) .none (wC 5 n (-7) 2))) nofun nofun nofun nofun (sN hφ (V:=(v1 0 (wC 5 n (-7) 0) .none (wC 5 n (-7) 2))) (h:=0) (x:=5) (r:=2) (a:=5) (b:=n) (c:=-7) nofun rfl nofun nofun (.inl rfl) b5 hn b7) (sN hφ (V:=wC 5 n (-7) 1) (h:=1) (x:=n) (r:=1) (a:=5) (b:=n) (c:=-7) nofun rfl nofun nofun (.inr (.inl rfl)) b5 hn b7) (sN hφ (V:=(v1 2 (wC 5 n (-7) 0) .none (wC 5 n (-7) 2))) (h:=2) (x:=-7) (r:=2) (a:=5) (b:=n) (c:=-7) nofun rfl nofun nofun (.inr (.inr rfl)) b5 hn b7)
 .exact Hq (V0:=(v1 0 (wC 5 n (-7) 0) (wB 5 n) .none)) (V1:=wE 5 n (-7)) (V2:=v0 2 (-7)) nofun nofun nofun nofun (sN hφ (V:=(v1 0 (wC 5 n (-7) 0) (wB 5 n) .none)) (h:=0) (x:=5) (r:=2) (a:=5) (b:=n) (c:=-7) nofun rfl nofun nofun (.inl rfl) b5 hn b7) (Il hφ (W:=wB 5 n) (h:=1) (x:=n) (t1:=true) (t2:=true) nofun nofun nofun nofun nofun (WA 5 n (-7)) nofun nofun rfl b5 hn b7) (KY hφ 2 (-7))
 .exact Hq (V0:=(v1 0 (wC 5 n (-7) 0) (wC 5 n (-7) 1) (wC 5 n (-7) 2))) (V1:=(v1 1 (wC 5 n (-7) 0) (wC 5 n (-7) 1) (wC 5 n (-7) 2))) (V2:=(v1 2 (wC 5 n (-7) 0) (wC 5 n (-7) 1) (wC 5 n (-7) 2))) nofun nofun nofun nofun (sN hφ (V:=(v1 0 (wC 5 n (-7) 0) (wC 5 n (-7) 1) (wC 5 n (-7) 2))) (h:=0) (x:=5) (r:=2) (a:=5) (b:=n) (c:=-7) nofun rfl nofun nofun (.inl rfl) b5 hn b7) (sN hφ (V:=(v1 1 (wC 5 n (-7) 0) (wC 5 n (-7) 1) (wC 5 n (-7) 2))) (h:=1) (x:=n) (r:=2) (a:=5) (b:=n) (c:=-7) nofun rfl nofun nofun (.inr (.inl rfl)) b5 hn b7) (sN hφ (V:=(v1 2 (wC 5 n (-7) 0) (wC 5 n (-7) 1) (wC 5 n (-7) 2))) (h:=2) (x:=-7) (r:=2) (a:=5) (b:=n) (c:=-7) nofun rfl nofun nofun (.inr (.inr rfl)) b5 hn b7)
def zGn (n:Int)(hn:Bw n):∀ g∈oz,∃ x:Str,tH [rA n (td g),.int 1,.int 1]=Ga (.str x)/\jG x=true:=by
 have q3:∀ d∈[v0 0 5,v0 1 n,v0 2 (-7)],∃ (i:Nat) (x:Int),i<10/\Bw x/\d=v0 i x:=jo.mpr ⟨⟨0,5,by decide,b5,rfl⟩,jo.mpr ⟨⟨1,n,by decide,hn,rfl⟩,jo.mpr ⟨⟨2,-7,by decide,b7,rfl⟩,λ_ h=>absurd h jQ⟩⟩⟩;refine rZ ?_ ?_ ?_ ?_
 .exact Gy _ (.list [.none,wA n (-7),wC 5 n (-7) 2]) (wA n (-7)) [.int 1,.int 2] _ nofun nofun nofun (ly _ 1 _ rfl) (Xu n (-7)) (gF rfl) λd h=>q3 d (jd _ h)
 .exact Gy _ (.list [wC 5 n (-7) 0,wC 5 n (-7) 1,wC 5 n (-7) 2]) (wC 5 n (-7) 1) [.int 0,.int 1,.int 2] _ nofun nofun nofun (ly _ 1 _ rfl) (yU 5 n (-7) 1 nofun) (gF rfl) q3
 .exact Gy _ (.list [wC 5 n (-7) 0,wB 5 n,.none]) (wB 5 n) [.int 0,.int 1] _ nofun nofun nofun (ly _ 1 _ rfl) (WY 5 n) (gF rfl) λd h=>q3 d (u9 [v0 2 (-7)] h)
 .exact Gy _ (.list [wC 5 n (-7) 0,wC 5 n (-7) 1,wC 5 n (-7) 2]) (wC 5 n (-7) 1) [.int 0,.int 1,.int 2] _ nofun nofun nofun (ly _ 1 _ rfl) (yU 5 n (-7) 1 nofun) (gF rfl) q3
def rN (x y z:Int):D:=.tuple [.tuple [.int x,.int y,.int z],.tuple []]
def ZO (a b:Int):gf (.int a) (.int b)=Ga (.bool (!decide (a=b))):=by
 show(if _ then Ga (kP (!(_:Bool))) else _)=_;rw[Ge (by rfl)]
 congr 3
def zHq (n:Int)(f:D)(hf:xr (rN 5 n (-7)) (rA n f)=true):gf (rN 5 n (-7)) (rA n f)=Ga (.bool true):=by
 have e:kQ (rN 5 n (-7)) (rA n f)=(kQ (.tuple [.int 5,.int n,.int (-7)]) (.tuple [.int 5,.int n,.int (-7)])&&false):=by ext
 unfold gf;rw[Ge hf,e,qZ];rfl
def zEe(hw:DL [R,.int 0]=Ga S)(ne:gf S R=Ga (.bool true)):Bx [R,.int 1,.int 0]=Ga (.list [R,S]):=by
 rw[ZP];unfold Mi;have r0:fZ (.int 0)=Ga []:=rfl;generalize DL=A at *;simp[hw,ne,r0];rfl
abbrev yt:FS:=eK aF (fH af (eK (fU 6 (eD yX am)) (GW 3 (zY (eD zb ag) bY su))) fF)
def Yv {last y:D}(hi:L2.atI path (-1)=Ga last)(e0:gy last (.int 0)=Ga N)(e1:gy N (.int h)=Ga x)(e2:gy T (.int h)=Ga y)(ne:gf x y=Ga (.bool false)):(iK 4 (.int h) [.val R,.val T,.val q,.own path,y4,y5,y6]).bind yt=Ga (.nx [.val R,.val T,.val q,.own path,.val (.int h),.val last,y6]):=by
 show yt [.val R,.val T,.val q,.own path,.val (.int h),y5,y6]=_;unfold yt;generalize yX=A1 at *;generalize zb=A2 at *;simp[hi,e0,e1,e2,ne]
def We {last y O:D}{L':List D}(hi:L2.atI path (-1)=Ga last)(e0:gy last (.int 0)=Ga N)(e1:gy N (.int h)=Ga x)(e2:gy T (.int h)=Ga y)(ne:gf x y=Ga (.bool true))(hw:yX [last,.int h,y]=Ga O)(hc:zb [last,O,.int h,.int 1,q]=Ga (.list L))(hs:BF (.list L) (Ga 1) Gb=Ga (.list L'))(hx:Cb path L'=Ga (path++L')):(iK 4 (.int h) [.val R,.val T,.val q,.own path,y4,y5,y6]).bind yt=Ga (.nx [.val R,.val T,.val q,.own (path++L'),.val (.int h),.val last,.val O]):=by
 show yt [.val R,.val T,.val q,.own path,.val (.int h),y5,y6]=_;unfold yt;generalize yX=A1 at *;generalize zb=A2 at *;simp[hi,e0,e1,e2,ne,hw,hc,hs,hx]
def zHs(hm:mG [R]=Ga (.int 3))(lp:gB cZ yt [.int 0,.int 1,.int 2] [.val R,.val T,.val q,.own [R],.no,.no,.no]=Ga (.nx [.val R,.val T,.val q,.own path,y4,y5,y6])):zj [R,T,q]=Ga (.list path):=by
 rw[zo9];unfold Lv;have r0:fZ (.int 3)=Ga [.int 0,.int 1,.int 2]:=rfl;unfold yt at lp;generalize eK aF (fH af (eK (fU 6 (eD yX am)) (GW 3 (zY (eD zb ag) bY su))) fF)=B at *;generalize mG=A at *;simp[hm,r0,lp]
def zHt{P Q Z:List D}(ho:xX [R,.int 1,.int 0]=Ga (.bool true))(ha:Bo [R,T]=Ga (.bool true))(hh:Bx [R,.int 1,.int 0]=Ga (.list P))(hi:L2.atI P (-1)=Ga S)(hr:zj [S,T,.int 0]=Ga (.list Q))(hs:BF (.list Q) (Ga 1) Gb=Ga (.list Z))(hl:P.length+Z.length<=1000):AG [R,.int 1,.int 0,T]=Ga (.list (P++Z)):=by
 rw[zsB];unfold Kv;have a:=Ms P Z hl;have i:gy (.list P) (.int (-1))=Ga S:=hi;generalize xX=A1 at *;generalize Bo=A2 at *;generalize Bx=A3 at *;generalize zj=A4 at *;generalize Jd P=PP at *;simp[ho,ha,hh,i,hr,hs,a]
variable {x m:Str}
def ZQ(hm:mG [R]=Ga (.int 3))(hc:AG [R,.int 1,.int 0,.tuple [.int 5,.int 5,.int 5]]=Ga (.list L))(hx:gN (.int (L.length:Int))=Ga (.str x)):xZ [R,.int 1,.int 0,.int 5]=Ga (.str x):=by
 rw[znS];unfold Kl;have r0:fZ (.int 3)=Ga [.int 0,.int 1,.int 2]:=rfl;have l:fR (.list L)=Ga (.int (L.length:Int)):=rfl;have c:fI (λ_=>Ga true) de [.val (.int 5)] [.int 0,.int 1,.int 2]=Ga [.int 5,.int 5,.int 5]:=rfl;have t:nN [.int 5,.int 5,.int 5]=Ga (.tuple [.int 5,.int 5,.int 5]):=rfl;generalize mG=A1 at *;generalize AG=A2 at *;generalize Jd L=LL at *;simp[hm,r0,wI,jr,vp,Nat.reduceAdd,JJ,c,t,hc,l,hx]
def YV (n:Int)(h:n≠5):zj [rN 5 n (-7),.tuple [.int 5,.int 5,.int 5],.int 0]=Ga (.list [rN 5 n (-7),rN 5 5 (-7),rN 5 5 5]):=by
 refine zHs (y4:=.val (.int 2)) (y5:=.val (rN 5 5 (-7))) (y6:=.val (rN 5 5 5)) nofun ?_;have ne:=ZO n 5;rw[Gd h] at ne;rw[nE (Yv (last:=rN 5 n (-7)) rfl rfl (x:=.int 5) rfl (y:=.int 5) rfl nofun),
  nE (We (last:=rN 5 n (-7)) rfl rfl (x:=.int n) rfl (y:=.int 5) rfl ne (O:=rN 5 5 (-7)) nofun (L:=[rN 5 n (-7),rN 5 5 (-7)]) nofun (L':=[rN 5 5 (-7)]) rfl rfl),
  nE (We (last:=rN 5 5 (-7)) rfl rfl (x:=.int (-7)) rfl (y:=.int 5) rfl nofun (O:=rN 5 5 5) nofun (L:=[rN 5 5 (-7),rN 5 5 5]) nofun (L':=[rN 5 5 5]) rfl rfl)]
 rfl
def zEf (n:Int):∀ g∈oz,∃ x:Str,xZ [rA n (td g),.int 1,.int 0,.int 5]=Ga (.str x)/\jG x=true:=by
 by_cases h:n=5
 .subst h;exact rZ ⟨S_ "3",by ext,by nofun⟩ ⟨S_ "3",by ext,by nofun⟩ ⟨S_ "3",by ext,by nofun⟩ ⟨S_ "3",by ext,by nofun⟩
 .have key:∀ f:D,mG [rA n f]=Ga (.int 3)->DL [rA n f,.int 0]=Ga (rN 5 n (-7))->xr (rN 5 n (-7)) (rA n f)=true->xX [rA n f,.int 1,.int 0]=Ga (.bool true)->Bo [rA n f,.tuple [.int 5,.int 5,.int 5]]=Ga (.bool true)->∃ x:Str,xZ [rA n f,.int 1,.int 0,.int 5]=Ga (.str x)/\jG x=true:=λf h1 h2 h3 h4 h5 =>
   ⟨S_ "4",ZQ h1 (zHt h4 h5 (zEe h2 (zHq n f h3)) rfl (YV n h) (Z:=[rN 5 5 (-7),rN 5 5 5]) rfl (gF rfl)) nofun,by nofun⟩
  exact rZ (key _ nofun nofun nofun nofun nofun) (key _ nofun nofun nofun nofun nofun) (key _ nofun nofun nofun nofun nofun) (key _ nofun nofun nofun nofun nofun)
def zf (w:String)(hr:nB [X]=Ga (.tuple [.str (S_ w),A]))(e1:lm w "run" false)(e2:lm w "alike" false)(hn:ef A (.str "name")=Ga (.str n))(hk:atT kvs n=Ga R)(ha:rM mk Pt [.str (S_ w),R,A]=Ga T):lT C mk Pt (.dsk C p r kvs) [X]=Ga T:=by
 have hb:=(GR C p r kvs n R hk).1;rw[OV];unfold FW;have i0:fq (.tuple [.str (S_ w),A]) (.int 0)=Ga (.str (S_ w)):=la _ 0 _ rfl;have i1:fq (.tuple [.str (S_ w),A]) (.int 1)=Ga A:=la _ 1 _ rfl;generalize uL [.str (S_ w),A]=TP at *;have h5:eW 0 C (pE C) (dN (dY ef dm (dL (.str "name"))) eS) [.dsk C p r kvs,.val X,.val TP,.val (.str (S_ w)),.val A,.no,.tab Pt]=Ga R:=yA rfl (by simp[hn]) hb;have h6:wH 6 Pt (rM mk Pt) aN [.dsk C p r kvs,.val X,.val TP,.val (.str (S_ w)),.val A,.val R,.tab Pt]=Ga T:=(Ge rfl).trans ha;generalize eW 0 C (pE C) (dN (dY ef dm (dL (.str "name"))) eS)=MV at *;generalize wH 6 Pt (rM mk Pt) aN=CT at *;generalize nB=A1 at *;simp[hr,i0,i1,e1,e2,h5,h6,wv,Bc]
def zHw (hr:nB [X]=Ga (.tuple [.str "alike",A]))(hn:ef A (.str "name")=Ga (.str n))(hk:atT kvs n=Ga R)(hn':ef A (.str "other")=Ga (.str m))(hk':atT kvs m=Ga R')(hq:ef A (.str "rounds")=Ga k)(ha:Dm [R,R',k]=Ga T):lT C mk Pt (.dsk C p r kvs) [X]=Ga T:=by
 have hb:=(GR C p r kvs n R hk).1;have hb':=(GR C p r kvs m R' hk').1;rw[OV];unfold FW;have e1:lm "alike" "run" false:=by ext
 have e2:lm "alike" "alike" true:=by ext
 have i0:fq (.tuple [.str "alike",A]) (.int 0)=Ga (.str "alike"):=la _ 0 _ rfl;have i1:fq (.tuple [.str "alike",A]) (.int 1)=Ga A:=la _ 1 _ rfl;generalize uL [.str "alike",A]=TP at *;have h5:eW 0 C (pE C) (dN (dY ef dm (dL (.str "name"))) eS) [.dsk C p r kvs,.val X,.val TP,.val (.str "alike"),.val A,.no,.tab Pt]=Ga R:=yA rfl (by simp[hn]) hb;have h6:eW 0 C (pE C) (dN (dY ef dm (dL (.str "other"))) eS) [.dsk C p r kvs,.val X,.val TP,.val (.str "alike"),.val A,.val R,.tab Pt]=Ga R':=yA rfl (by simp[hn']) hb';generalize eW 0 C (pE C) (dN (dY ef dm (dL (.str "name"))) eS)=MV at *;generalize eW 0 C (pE C) (dN (dY ef dm (dL (.str "other"))) eS)=MW at *;generalize nB=A1 at *;generalize Dm=A2 at *;simp[hr,i0,i1,e1,e2,h5,h6,hq,ha,wv,Bc]
def TC (h:oN [R]=Ga T):rM mk Pt [.str "show",R,A]=Ga T:=by
 have e0:lm "show" "show" true:=by ext
 rw[Ha];unfold Ax;generalize oN=B0 at *;simp[h,e0]
def zBP(i1:ef A (.str "hand")=Ga k)(i2:ef A (.str "rounds")=Ga q)(h:tH [R,k,q]=Ga T):rM mk Pt [.str "know",R,A]=Ga T:=by
 have e0:lm "know" "show" false:=by ext
 have e1:lm "know" "waste" false:=by ext
 have e2:lm "know" "close" false:=by ext
 have e3:lm "know" "know" true:=by ext
 rw[Ha];unfold Ax;generalize oN=B0 at *;generalize Bn=B1 at *;generalize AU=B2 at *;generalize tH=B3 at *;simp[h,i1,i2,e0,e1,e2,e3]
def zAu {z:D}(i1:ef A (.str "bound")=Ga b)(i2:ef A (.str "rounds")=Ga q)(i3:ef A (.str "number")=Ga z)(h:xZ [R,b,q,z]=Ga T):rM mk Pt [.str "chain",R,A]=Ga T:=by
 have e0:lm "chain" "show" false:=by ext
 have e1:lm "chain" "waste" false:=by ext
 have e2:lm "chain" "close" false:=by ext
 have e3:lm "chain" "know" false:=by ext
 have e4:lm "chain" "choose" false:=by ext
 have e5:lm "chain" "chain" true:=by ext
 rw[Ha];unfold Ax;generalize oN=B0 at *;generalize Bn=B1 at *;generalize AU=B2 at *;generalize tH=B3 at *;generalize xZ=B4 at *;simp[h,i1,i2,i3,e0,e1,e2,e3,e4,e5]
def zxC(i2:ef A (.str "rounds")=Ga q)(h:xq (mk (lr [A] sd)) (lr [A] sd) [R,q]=Ga T):rM mk Pt [.str "choose",R,A]=Ga T:=by
 have e0:lm "choose" "show" false:=by ext
 have e1:lm "choose" "waste" false:=by ext
 have e2:lm "choose" "close" false:=by ext
 have e3:lm "choose" "know" false:=by ext
 have e4:lm "choose" "choose" true:=by ext
 rw[Ha];unfold Ax;have cr:xn 3 Pt mk sd xq cb (dN de (dN (dY ef df (dL (.str "rounds"))) eS)) [.val (.str "choose"),.val R,.val A,.tab Pt]=Ga T:=by
  refine(Ge (show([.val (.str "choose"),.val R,.val A,.tab Pt]:En)[3]?=Ga (.tab Pt) from rfl)).trans ?_;have a1:cb [.val (.str "choose"),.val R,.val A,.tab Pt]=Ga [A]:=rfl;have a2:dN de (dN (dY ef df (dL (.str "rounds"))) eS) [.val (.str "choose"),.val R,.val A,.tab Pt]=Ga [R,q]:=by simp[i2]
  rwa[a1,jp,a2,jp]
 generalize xn 3 Pt mk sd xq cb (dN de (dN (dY ef df (dL (.str "rounds"))) eS))=CR at *;generalize oN=B0 at *;generalize Bn=B1 at *;generalize AU=B2 at *;generalize tH=B3 at *;simp[cr,e0,e1,e2,e3,e4]
def FR (C Pt:Gj)(mk:(D->Option D)->dZ)(kvs:List (Str×D))(X:D):Prop:=∃ x:Str,jG x=true/\∀ p r,lT C mk Pt (.dsk C p r kvs) [X]=Ga (.str x)
abbrev rL (l:List (String×D)):D:=pC (l.map λe=>(S_ e.1,e.2))
def Ye (C Pt:Gj)(mk:(D->Option D)->dZ)(n:Nat)(h:n<10^60)(g:F3)(hg:g∈oz):∀ X∈["show a","show b","waste a","close a 1","know a 1 1","choose a soon 1 2","alike a b 1","chain a 1 0 5"].map (λs=>jL (S_ s)),FR C Pt mk (nv (rA (n:Int) (td g)) rB) X:=by
 have hn:Bw (n:Int):=⟨Bz n (by omega),jX (Iw n h) (by decide)⟩;have k1:jG (S_ "0")=true/\jG (S_ "2")=true/\jG (S_ "none")=true/\jG (S_ "3 3 /")=true:=by nofun
 refine jo.mpr ⟨?_,jo.mpr ⟨?_,jo.mpr ⟨?_,jo.mpr ⟨?_,jo.mpr ⟨?_,jo.mpr ⟨?_,jo.mpr ⟨?_,jo.mpr ⟨?_,λ_ h=>absurd h jQ⟩⟩⟩⟩⟩⟩⟩⟩
 .exact⟨tx n g,Wd n g hg,λp r=>zf (A:=rL [("name",.str "a")]) "show" nofun nofun nofun nofun rg (TC (Ve n h g hg))⟩
 .exact⟨S_ "3 3 /",k1.2.2.2,λp r=>zf (A:=rL [("name",.str "b")]) "show" nofun nofun nofun nofun EY (TC nofun)⟩
 .exact⟨S_ "0",k1.1,λp r=>zf (A:=rL [("name",.str "a")]) "waste" nofun nofun nofun nofun rg (rZ (P:=λg=>rM mk Pt [.str "waste",rA (n:Int) (td g),rL [("name",.str "a")]]=Ga (.str "0")) nofun nofun nofun nofun g hg)⟩
 .exact⟨S_ "2",k1.2.1,λp r=>zf (A:=rL [("name",.str "a"),("bound",.int 1)]) "close" nofun nofun nofun nofun rg (rZ (P:=λg=>rM mk Pt [.str "close",rA (n:Int) (td g),rL [("name",.str "a"),("bound",.int 1)]]=Ga (.str "2")) nofun nofun nofun nofun g hg)⟩
 .obtain⟨x,e,o⟩:=zGn (n:Int) hn g hg;exact⟨x,o,λp r=>zf (A:=rL [("name",.str "a"),("hand",.int 1),("rounds",.int 1)]) "know" nofun nofun nofun nofun rg (zBP (k:=.int 1) (q:=.int 1) nofun nofun e)⟩
 .obtain⟨x,e,o⟩:=zBO (f:=mk (lr [rL [("name",.str "a"),("rule",.str "soon"),("bound",.int 1),("rounds",.int 2)]] sd)) (φ:=lr [rL [("name",.str "a"),("rule",.str "soon"),("bound",.int 1),("rounds",.int 2)]] sd) (λd x h=>zEd nofun nofun h) (n:Int) hn g hg;exact⟨x,o,λp r=>zf (A:=rL [("name",.str "a"),("rule",.str "soon"),("bound",.int 1),("rounds",.int 2)]) "choose" nofun nofun nofun nofun rg (zxC (q:=.int 2) nofun e)⟩
 .exact⟨S_ "none",k1.2.2.1,λp r=>zHw (A:=rL [("name",.str "a"),("other",.str "b"),("rounds",.int 1)]) (n:=S_ "a") (m:=S_ "b") (k:=.int 1) nofun nofun rg nofun EY nofun (rZ (P:=λg=>Dm [rA (n:Int) (td g),rB,.int 1]=Ga (.str "none")) nofun nofun nofun nofun g hg)⟩
 .obtain⟨x,e,o⟩:=zEf (n:Int) g hg;exact⟨x,o,λp r=>zf (A:=rL [("name",.str "a"),("bound",.int 1),("rounds",.int 0),("number",.int 5)]) "chain" nofun nofun nofun nofun rg (zAu (b:=.int 1) (q:=.int 0) (z:=.int 5) nofun nofun nofun e)⟩
def So (S:D)(k len a:Int)(hl:lN S=Ga (.int len))(h:(k<len/\gy S (.int k)=Ga (.int a))\/(¬k<len/\a=0)):xo [S,.int k]=Ga (.int a):=by
 rw[XO];unfold Kw;rcases h with ⟨c,d⟩|⟨c,rfl⟩
 .simp[hl,Gc c,d]
 .simp[hl,Gd c]
def Ul (ns:List Int)(k:Nat):∃ a,xo [.list (ns.map jO),.int (k:Int)]=Ga (.int a):=by
 by_cases c:k<ns.length
 .exact⟨ns[k],So _ _ (ns.length:Int) _ (by show Ga (jO (((ns.map jO).length:Nat):Int))=_;rw[jk]) (.inl ⟨by omega,L2.atI_nat (by rw[jE,jn c];rfl)⟩)⟩
 .exact⟨0,So _ _ (ns.length:Int) _ (by show Ga (jO (((ns.map jO).length:Nat):Int))=_;rw[jk]) (.inr ⟨by omega,rfl⟩)⟩
def Oh{k:Gj->FS}(r0:Gj)(ha:wL r0 ψ)(h1:∀ s∈ψ,sy s)(h2:∀ p r,wL r ψ->k r (ψ.set i (.dsk C p r []))=Ga (.rt d)):mL i C k ψ=Ga (.rt d):=by
 unfold mL;have h:∃ d,(∀ s∈ψ,sy s)/\∀ p r,wL r ψ->k r (ψ.set i (.dsk C p r []))=Ga (.rt d):=⟨d,h1,h2⟩;rw[dif_pos h];have:=h.choose_spec.2 0 r0 ha;rw[h2 0 r0 ha] at this;cases this;rfl
def TN {R:List Gj}{kvs':List (Str×D)}{fm:Sl->List D->Option (D×List (Str×D))}(e:ψ[i]?=Ga (.dsk C p r kvs))(hR:r∈R)(o:oZ i r ψ)(h:ga ψ=Ga ds)(q:fm (.dsk C p r kvs) ds=Ga (d,kvs')):iE R i C fm ga ψ=Ga (d,ψ.set i (.dsk C p r kvs')):=by
 unfold iE;rw[e];refine(Ge ⟨rfl,hR,o⟩).trans ?_;rw[h,jp,q];rfl
abbrev lE (C p r p1 r1 Pt:Gj)(S N F R:Sl)(kvs kvs1:List (Str×D))(a b c:Sl):En:=[S,N,F,R,.dsk C p r kvs,.dsk C p1 r1 kvs1,a,b,c,.tab Pt]
def RB (h:r≠r1)(S N F R X:D)(kvs kvs1:List (Str×D)):oZ 4 r (lE C p r p1 r1 Pt (.val S) (.val N) (.val F) (.val R) kvs kvs1 (.val X) .no .no)/\oZ 5 r1 (lE C p r p1 r1 Pt (.val S) (.val N) (.val F) (.val R) kvs kvs1 (.val X) .no .no):=by
 constructor<;>intro j C' p' r' l e<;>match j,e with
 | 0,h=>cases h
 | 1,h=>cases h
 | 2,h=>cases h
 | 3,h=>cases h
 | 4,e=>cases e;first|exact .inl rfl|exact .inr h
 | 5,e=>cases e;first|exact .inl rfl|exact .inr h.symm
 | 6,h=>cases h
 | 7,h=>cases h
 | 8,h=>cases h
 | 9,h=>cases h
 | j+10,h=>simp at h
abbrev CN (C r r1:Gj):FS:=zm (zn (rJ (iE [r1,r] 4 C (mW C) cm) (dL (.str "ok"))) (rJ (iE [r1,r] 5 C (mW C) cm) (dL (.str "ok")))) bP (fF)
abbrev Bg (C Pt:Gj)(mkx:Str->dZ)(mk:(D->Option D)->dZ):FS:=fH (lJ (gW (gi 9 Pt (eW 4 C (nY C mkx mk Pt) cq)))) bP (fF)
abbrev AV (C Pt:Gj)(mk:(D->Option D)->dZ):FS:=eK (fU 8 (gi 9 Pt (eW 4 C (lT C mk Pt) cm))) (fH (mh (lJ (gW (ie (lO "str") dt))) (gR gf dt (gi 9 Pt (eW 5 C (lT C mk Pt) cm)))) bP fF)
abbrev wR (C Pt:Gj)(mkx:Str->dZ)(mk:(D->Option D)->dZ)(r r1:Gj):FS:=eK (nD cz da (zm (zn (rJ (iE [r1,r] 4 C (mW C) cm) (dL (.str "ok"))) (rJ (iE [r1,r] 5 C (mW C) cm) (dL (.str "ok")))) bP fF)) (eK (nD al (iK 7) (fH (lJ (gW (gi 9 Pt (eW 4 C (nY C mkx mk Pt) cq)))) bP fF)) (eK (fU 3 (io (yb ["show a","show b","waste a","close a 1","know a 1 1","choose a soon 1 2","alike a b 1"]))) (eK (nD (iY gp (dY eB di (io (dN (dL (.str "chain a 1 0 5")) eS)))) da (eK (fU 8 (gi 9 Pt (eW 4 C (lT C mk Pt) cm))) (fH (mh (lJ (gW (ie (lO "str") dt))) (gR gf dt (gi 9 Pt (eW 5 C (lT C mk Pt) cm)))) bP fF))) bU)))
def SK (hr:r≠r1){F:D}{kvs2:List (Str×D)}(y:Sl)(h:∀ p r,mW C (.dsk C p r kvs) [X]=Ga (.str "ok",kvs2)):(iK 6 X (lE C p r p1 r1 Pt (.val S) (.val N) (.val F) (.val R) kvs kvs y .no .no)).bind (CN C r r1)=Ga (.nx (lE C p r p1 r1 Pt (.val S) (.val N) (.val F) (.val R) kvs2 kvs2 (.val X) .no .no)):=by
 show CN C r r1 (lE C p r p1 r1 Pt (.val S) (.val N) (.val F) (.val R) kvs kvs (.val X) .no .no)=_;have ne:gf (.str "ok") (.str "ok")=Ga (.bool false):=by ext
 have m1:=TN (R:=[r1,r]) (i:=4) (ga:=dN (gv 6) eS) (ψ:=lE C p r p1 r1 Pt (.val S) (.val N) (.val F) (.val R) kvs kvs (.val X) .no .no) rfl (by simp) (RB hr S N F R X kvs kvs).1 rfl (h p r);have m2:=TN (R:=[r1,r]) (i:=5) (ga:=dN (gv 6) eS) (ψ:=lE C p r p1 r1 Pt (.val S) (.val N) (.val F) (.val R) kvs2 kvs (.val X) .no .no) rfl (by simp) (RB hr S N F R X kvs2 kvs).2 rfl (h p1 r1);unfold CN zm zn rJ;rw[m1,jp];show ky (ky (ky (gf _ _) _) _) _=_;rw[ne,jp];show ky (ky (iE [r1,r] 5 C (mW C) _ (lE C p r p1 r1 Pt (.val S) (.val N) (.val F) (.val R) kvs2 kvs (.val X) .no .no)) _) _=_;rw[m2,jp];show ky (ky (gf _ _) _) _=_;rw[ne];rfl
def Zh {S N F R:Sl}{kvs1:List (Str×D)}{a b c:Sl}(f:ia S=S)(f1:ia N=N)(f2:ia F=F)(f3:ia R=R)(f6:ia a=a)(f8:ia c=c)(h:nY C mkx mk Pt (.dsk C p r kvs) [d]=Ga (.bool true)):(iK 7 d (lE C p r p1 r1 Pt S N F R kvs kvs1 a b c)).bind (Bg C Pt mkx mk)=Ga (.nx (lE C p r p1 r1 Pt S N F R kvs kvs1 a (.val d) c)):=by
 show Bg C Pt mkx mk (lE C p r p1 r1 Pt S N F R kvs kvs1 a (.val d) c)=_;have m:gi 9 Pt (eW 4 C (nY C mkx mk Pt) cq) (lE C p r p1 r1 Pt S N F R kvs kvs1 a (.val d) c)=Ga (.bool true):=(AD rfl).trans (yA rfl (iB (d:=d) rfl rfl) h);have ft:ia (.tab Pt)=.tab Pt:=rfl;unfold Bg;generalize gi 9 Pt (eW 4 C (nY C mkx mk Pt) cq)=M at *;simp[m,wv,f,f1,f2,f3,f6,f8,ft]
def zHy {S N F R:Sl}{a b c:Sl}(f:ia S=S)(f1:ia N=N)(f2:ia F=F)(f3:ia R=R)(f7:ia b=b)(ok:jG x=true)(h:∀ p r,lT C mk Pt (.dsk C p r kvs) [X]=Ga (.str x)):(iK 6 X (lE C p r p1 r1 Pt S N F R kvs kvs a b c)).bind (AV C Pt mk)=Ga (.nx (lE C p r p1 r1 Pt S N F R kvs kvs (.val X) b (.val (.str x)))):=by
 show AV C Pt mk (lE C p r p1 r1 Pt S N F R kvs kvs (.val X) b c)=_;have m1:gi 9 Pt (eW 4 C (lT C mk Pt) cm) (lE C p r p1 r1 Pt S N F R kvs kvs (.val X) b c)=Ga (.str x):=(AD rfl).trans (yA rfl (iB (d:=X) rfl rfl) (h p r));have m2:gi 9 Pt (eW 5 C (lT C mk Pt) cm) (lE C p r p1 r1 Pt S N F R kvs kvs (.val X) b (.val (.str x)))=Ga (.str x):=(AD rfl).trans (yA rfl (iB (d:=X) rfl rfl) (h p1 r1));have ft:ia (.tab Pt)=.tab Pt:=rfl;have ne:gf (.str x) (.str x)=Ga (.bool false):=by
  rw[Ol ok ok,Gc rfl];rfl
 have t:lO "str" (.str x)=Ga (.bool true):=rfl;unfold AV;generalize gi 9 Pt (eW 4 C (lT C mk Pt) cm)=M1 at *;generalize gi 9 Pt (eW 5 C (lT C mk Pt) cm)=M2 at *;simp[m1,m2,ne,t,wv,f,f1,f2,f3,f7,ft]
def l8:List D:=["show a","show b","waste a","close a 1","know a 1 1","choose a soon 1 2","alike a b 1","chain a 1 0 5"].map λs=>jL (S_ s)
def l7:List D:=["show a","show b","waste a","close a 1","know a 1 1","choose a soon 1 2","alike a b 1"].map λs=>jL (S_ s)
def ZY {xs:List D}{lo hi:Option Int}(h:d∈T3.cutD xs lo hi):d∈xs:=List.mem_of_mem_drop (List.mem_of_mem_take h)
def zEi {F X1 X2:D}{S2:List D}{y7 z6 z7 z8:Sl}(sl:xJ S (Ga 2) (Ga 63)=Ga (.list S2))
  (lp1:gB da (CN C r r1) [X1,X2] (lE C p r p1 r1 Pt (.val S) (.val N) (.val F) (.val (.list [X1,X2])) [] [] .no .no .no)=Ga (.nx (lE C p r p1 r1 Pt (.val S) (.val N) (.val F) (.val (.list [X1,X2])) kvs kvs y6 .no .no)))
  (lp2:gB (iK 7) (Bg C Pt mkx mk) S2 (lE C p r p1 r1 Pt (.val S) (.val N) (.val F) (.val (.list [X1,X2])) kvs kvs y6 .no .no)=Ga (.nx (lE C p r p1 r1 Pt (.val S) (.val N) (.val F) (.val (.list [X1,X2])) kvs kvs y6 y7 .no)))
  (lp3:gB da (AV C Pt mk) l8 (lE C p r p1 r1 Pt (.val S) (.val N) (.val F) (.val (.list l7)) kvs kvs y6 y7 .no)=Ga (.nx (lE C p r p1 r1 Pt (.val S) (.val N) (.val F) (.val (.list l7)) kvs kvs z6 z7 z8))) :
  wR C Pt mkx mk r r1 (lE C p r p1 r1 Pt (.val S) (.val N) (.val F) (.val (.list [X1,X2])) [] [] .no .no .no)=Ga (.rt (.bool true)):=by
 have t1:gp (.list [X1,X2])=Ga [X1,X2]:=rfl;have t2:gp (.list S2)=Ga S2:=rfl;have c7:yb ["show a","show b","waste a","close a 1","know a 1 1","choose a soon 1 2","alike a b 1"] (lE C p r p1 r1 Pt (.val S) (.val N) (.val F) (.val (.list [X1,X2])) kvs kvs y6 y7 .no)=Ga l7:=rfl;have a8:eB (.list l7) (.list [.str "chain a 1 0 5"])=Ga (.list l8):=rfl;have t3:gp (.list l8)=Ga l8:=rfl;generalize l7=L7 at *;generalize l8=L8 at *;unfold wR;unfold CN at lp1;unfold Bg at lp2;unfold AV at lp3;generalize zm (zn (rJ (iE [r1,r] 4 C (mW C) cm) (dL (.str "ok"))) (rJ (iE [r1,r] 5 C (mW C) cm) (dL (.str "ok")))) bP (fF)=B1 at *;generalize fH (lJ (gW (gi 9 Pt (eW 4 C (nY C mkx mk Pt) cq)))) bP (fF)=B2 at *;generalize eK (fU 8 (gi 9 Pt (eW 4 C (lT C mk Pt) cm))) (fH (mh (lJ (gW (ie (lO "str") dt))) (gR gf dt (gi 9 Pt (eW 5 C (lT C mk Pt) cm)))) bP fF)=B3 at *;generalize yb ["show a","show b","waste a","close a 1","know a 1 1","choose a soon 1 2","alike a b 1"]=C7 at *;simp[t1,t2,sl,c7,a8,t3,lp1,lp2,lp3]
def zBQ (hr:r≠r1)(ns:List Int)(N F:D)(n:Nat)(h:n<10^60)(g:F3)(hg:g∈oz):wR C Pt mkx mk r r1 (lE C p r p1 r1 Pt (.val (.list (ns.map jO))) (.val N) (.val F) (.val (.list [.str (sG n g),.str "run b 3 3 /"])) [] [] .no .no .no)=Ga (.rt (.bool true)):=by
 have hmem:∀ d∈T3.cutD (ns.map jO) (Ga 2) (Ga 63),∃ i:Int,d=.int i:=λd hd=>by
  obtain⟨i,_,rfl⟩:=ue.mp (ZY hd);exact⟨i,rfl⟩
 have sl:xJ (.list (ns.map jO)) (Ga 2) (Ga 63)=Ga (.list (T3.cutD (ns.map jO) (Ga 2) (Ga 63))):=rfl;generalize Jd (ns.map jO)=S at *;generalize T3.cutD (ns.map jO) (Ga 2) (Ga 63)=S2 at *;have lp1:=(nE (r:=[.str "run b 3 3 /"]) (SK (C:=C) (p:=p) (p1:=p1) (Pt:=Pt) hr (S:=S) (N:=N) (F:=F) (R:=.list [.str (sG n g),.str "run b 3 3 /"]) .no λp r=>zHk C p r n h g hg)).trans (nE (r:=[]) (SK hr _ λp r=>zHl C p r (rA (n:Int) (td g))));have hf:td g∈[fl 0 1 4,fl 1 2 0,fl 2 1 1,fl 0 3 6]:=List.mem_map_of_mem (f:=td) hg;obtain⟨_,lp2,y7,rfl,f7⟩:=UA (t:=iK 7) (g:=Bg C Pt mkx mk) (ds:=S2) (ψ:=lE C p r p1 r1 Pt (.val S) (.val N) (.val F) (.val (.list [.str (sG n g),.str "run b 3 3 /"])) (nv (rA (n:Int) (td g)) rB) (nv (rA (n:Int) (td g)) rB) (.val (.str "run b 3 3 /")) .no .no)
  (λe=>∃ y7,e=lE C p r p1 r1 Pt (.val S) (.val N) (.val F) (.val (.list [.str (sG n g),.str "run b 3 3 /"])) (nv (rA (n:Int) (td g)) rB) (nv (rA (n:Int) (td g)) rB) (.val (.str "run b 3 3 /")) y7 .no/\ia y7=y7) ⟨_,rfl,rfl⟩ λd hd e ⟨y7,h',f7⟩=>by
   subst h';obtain⟨i,rfl⟩:=hmem d hd;exact⟨_,Zh rfl rfl rfl rfl rfl rfl (zBJ (n:Int) (td g) hf i),_,rfl,rfl⟩
 obtain⟨_,lp3,z6,z8,rfl⟩:=UA (t:=iK 6) (g:=AV C Pt mk) (ds:=l8) (ψ:=lE C p r p1 r1 Pt (.val S) (.val N) (.val F) (.val (.list l7)) (nv (rA (n:Int) (td g)) rB) (nv (rA (n:Int) (td g)) rB) (.val (.str "run b 3 3 /")) y7 .no)
  (λe=>∃ z6 z8,e=lE C p r p1 r1 Pt (.val S) (.val N) (.val F) (.val (.list l7)) (nv (rA (n:Int) (td g)) rB) (nv (rA (n:Int) (td g)) rB) z6 y7 z8) ⟨_,_,rfl⟩ λd hd e ⟨z6,z8,h'⟩=>by
   subst h';have⟨x,ok,hx⟩:=Ye C Pt mk n h g hg d hd;exact⟨_,zHy rfl rfl rfl rfl f7 ok hx,_,_,rfl⟩
 exact zEi sl lp1 lp2 lp3
def zGq (n:Nat)(g:F3):iA (W_ "run a 5 "++sg (nt (n:Int))++W_ " -7 / "++sg (lY g))=sG n g:=by
 refine yx ?_;unfold sG;have j:sg (tx n g)=_:=(congrArg sg (show kK (jv " ") (W5 n g)=kK ⟨#[32]⟩ (W5 n g) by rw[show jv " "=⟨#[32]⟩ by nofun])).trans (Vr _ _ _ _ _);rw[nG,nG,j,show W_ "run a 5 "=W_ "run "++sg (S_ "a")++W_ " "++W_ "5"++[32] by nofun,show W_ " -7 / "=32::W_ "-7"++32::W_ "/"++[32] by nofun];simp only[ub,kM,vw]
def zEj (c:Int):∃ g∈oz,fq (.list [.str "0@1>2",.str "1@2>",.str "2@1>0",.str "0@3>12"]) (.int (c%4))=Ga (.str (lY g)):=by
 have h4:c%4=0\/c%4=1\/c%4=2\/c%4=3:=by omega
 rcases h4 with h|h|h|h<;>rw[h]
 .exact⟨(0,1,4),jh,by ext⟩
 .exact⟨(1,2,0),jd _ jh,by ext⟩
 .exact⟨(2,1,1),jd _ (jd _ jh),by ext⟩
 .exact⟨(0,3,6),jd _ (jd _ (jd _ jh)),by ext⟩
def zGr{F X1 M1 M2:D}{c0 c1 m n:Int}(h0:xo [S,.int 0]=Ga (.int c0))(h1:xo [S,.int 1]=Ga (.int c1))(pw:ir (.int 10) (.int 60)=Ga (.int m))(md:gG (.int c0) (.int m)=Ga (.int n))(hs:gN (.int n)=Ga N)
  (m4:gG (.int c1) (.int 4)=Ga M2) (ix:fq (.list [.str "0@1>2",.str "1@2>",.str "2@1>0",.str "0@3>12"]) M2=Ga F) (a1:eB (.str "run a 5 ") N=Ga M1) {M3:D} (a2:eB M1 (.str " -7 / ")=Ga M3) (a3:eB M3 F=Ga X1)
  (hu:mL 4 C (λr=>mL 5 C λr1=>wR C Pt mkx mk r r1) [.val S,.val N,.val F,.val (.list [X1,.str "run b 3 3 /"]),.no,.no,.no,.no,.no,.tab Pt]=Ga (.rt (.bool true))):ziW C mkx mk Pt [S]=Ga (.bool true):=by
 rw[Zm];unfold LH;unfold wR at hu;generalize (mL 4 C λr=>mL 5 C λr1=>eK (nD cz da (zm (zn (rJ (iE [r1,r] 4 C (mW C) cm) (dL (.str "ok"))) (rJ (iE [r1,r] 5 C (mW C) cm) (dL (.str "ok")))) bP fF)) (eK (nD al (iK 7) (fH (lJ (gW (gi 9 Pt (eW 4 C (nY C mkx mk Pt) cq)))) bP fF)) (eK (fU 3 (io (yb ["show a","show b","waste a","close a 1","know a 1 1","choose a soon 1 2","alike a b 1"]))) (eK (nD (iY gp (dY eB di (io (dN (dL (.str "chain a 1 0 5")) eS)))) da (eK (fU 8 (gi 9 Pt (eW 4 C (lT C mk Pt) cm))) (fH (mh (lJ (gW (ie (lO "str") dt))) (gR gf dt (gi 9 Pt (eW 5 C (lT C mk Pt) cm)))) bP fF))) bU))))=U at *;generalize xo=A1 at *;generalize ir=dp at *;simp[h0,h1,pw,md,hs,m4,ix,a1,a2,a3,hu]
def zAy (C Pt:Gj)(mkx:Str->dZ)(mk:(D->Option D)->dZ)(ns:List Int):ziW C mkx mk Pt [.list (ns.map jO)]=Ga (.bool true):=by
 have⟨c0,h0⟩:=Ul ns 0;have⟨c1,h1⟩:=Ul ns 1;have e60:(10:Int)^60=((10^60:Nat):Int):=by norm_cast
 have p60:0<(10:Int)^60:=by nofun
 have hm:0<=c0%10^60:=qR _ (by omega);have hm2:c0%10^60<10^60:=ql _ p60;have md:gG (.int c0) (.int (10^60))=Ga (.int (c0%10^60)):=Ge (c:=decide ((0:Int)<10^60)=true) (e:=(Gb:Option D)) (Gc p60);have⟨n,en⟩:=vE hm;rw[en] at md;have h:n<10^60:=by rw[en,e60] at hm2;exact_mod_cast hm2
 have⟨g,hg,ix⟩:=zEj c1;have l1:=Iw n h;have l2:=(HC g hg).1;have w1:(W_ "run a 5 ").length=8:=by nofun
 have w2:(W_ " -7 / ").length=6:=by nofun
 have a1:=EB "run a 5 " (nt (n:Int)) (by rw[w1];omega);have a2:=Fo (W_ "run a 5 "++sg (nt (n:Int))) (S_ " -7 / ") (by rw[jA,w1,<- lD (nt (n:Int)),lD (S_ " -7 / "),w2];omega);have a3:=Fo (W_ "run a 5 "++sg (nt (n:Int))++W_ " -7 / ") (lY g) (by rw[jA,jA,w1,<- lD (nt (n:Int)),w2];omega);rw[zGq] at a3;refine zGr h0 h1 BG md (Bz n (by omega)) rfl ix a1 a2 a3 ?_;have pl:∀ s∈([.val (.list (ns.map jO)),.val (.str (nt (n:Int))),.val (.str (lY g)),.val (.list [.str (sG n g),.str "run b 3 3 /"]),.no,.no,.no,.no,.no,.tab Pt]:En),sy s:=by
  simp[sy]at⊢
 refine Oh 0 (λj C p r' l e=>?_) pl λp r ha=>Oh (r+1) (λj C' p' r' l e=>?_) ?_ λp1 r1 ha1=>zBQ (ha1 4 C p r [] rfl) ns _ _ n h g hg
 .match j,e with
  | 0,h=>cases h
  | 1,h=>cases h
  | 2,h=>cases h
  | 3,h=>cases h
  | 4,h=>cases h
  | 5,h=>cases h
  | 6,h=>cases h
  | 7,h=>cases h
  | 8,h=>cases h
  | 9,h=>cases h
  | j+10,h=>simp at h
 .match j,e with
  | 0,h=>cases h
  | 1,h=>cases h
  | 2,h=>cases h
  | 3,h=>cases h
  | 4,h=>cases h;exact jB (uP _)
  | 5,h=>cases h
  | 6,h=>cases h
  | 7,h=>cases h
  | 8,h=>cases h
  | 9,h=>cases h
  | j+10,h=>simp at h
 .intro s hs;rcases List.mem_or_eq_of_mem_set hs with hs|rfl
  .exact pl s hs
  .trivial
end
end
noncomputable section
open PySem PySem.W PySem.Spec PyProof.Rows L2
def Df (P:Params):(G1 P).lookup 57=Ga (T7 P):=by ext
def Et (P:Params):(G1 P).lookup 56=Ga (S3 P):=by ext
def YO (P:Params):(G1 P).lookup 82=Ga (S5 P):=by ext
def zHA (P:Params):(G1 P).lookup 81=Ga (R3 P):=by ext
def zGs (P:Params):(G1 P).lookup 106=Ga (S9 P):=by ext
def zGt (P:Params):(G1 P).lookup 105=Ga (S7 P):=by ext
def ZJ (P:Params):(G1 P).lookup 118=Ga (Q7 P):=by ext
def Zf (P:Params):(G1 P).lookup 117=Ga (Q4 P):=by ext
def zGw (P:Params):(G1 P).lookup 130=Ga (S6 P):=by ext
def zGx (P:Params):(G1 P).lookup 129=Ga (Q6 P):=by ext
def zGy (P:Params):(G1 P).lookup 142=Ga (N9 P):=by ext
def zGz (P:Params):(G1 P).lookup 141=Ga (N8 P):=by ext
def zxD (P:Params):T3.ClsF (G1 P) "NoBound" 82:=T3.zyT (YO P) (zHA P) (T3.strK nofun) nofun (Df P) (Et P) (T3.strK nofun) nofun ⟨by ext,by ext,by ext,by ext,by ext,by ext⟩
def zAB (P:Params):T3.ClsF (G1 P) "Closed" 106:=T3.zyT (zGs P) (zGt P) (T3.strK nofun) nofun (Df P) (Et P) (T3.strK nofun) nofun ⟨by ext,by ext,by ext,by ext,by ext,by ext⟩
def zAC (P:Params):T3.ClsF (G1 P) "NoText" 118:=T3.zyT (ZJ P) (Zf P) (T3.strK nofun) nofun (Df P) (Et P) (T3.strK nofun) nofun ⟨by ext,by ext,by ext,by ext,by ext,by ext⟩
def zBR (P:Params):T3.ClsF (G1 P) "NoRow" 130:=T3.zyT (zGw P) (zGx P) (T3.strK nofun) nofun (Df P) (Et P) (T3.strK nofun) nofun ⟨by ext,by ext,by ext,by ext,by ext,by ext⟩
def zAD (P:Params):T3.ClsF (G1 P) "NoName" 142:=T3.zyT (zGy P) (zGz P) (T3.strK nofun) nofun (Df P) (Et P) (T3.strK nofun) nofun ⟨by ext,by ext,by ext,by ext,by ext,by ext⟩
def zGA (P:Params):(G1 P).lookup 573=Ga (S0 P):=by ext
def zGB (P:Params):(G1 P).lookup 574=Ga (N7 P):=by ext
def zGC (P:Params):(G1 P).lookup 575=Ga (R5 P):=by ext
def zGD (P:Params):(G1 P).lookup 576=Ga (P1 P):=by ext
def zGE (P:Params):(G1 P).lookup 577=Ga (R7 P):=by ext
def zGF (P:Params):(G1 P).lookup 578=Ga (R4 P):=by ext
def Yh (P:Params):(G1 P).lookup 579=Ga (P5 P):=by ext
def YN (P:Params):(G1 P).lookup 580=Ga (R6 P):=by ext
def zGI (P:Params):(G1 P).lookup 581=Ga (Q8 P):=by ext
def Zy (P:Params):(G1 P).lookup 582=Ga (P9 P):=by ext
def zGK (P:Params):(G1 P).lookup 583=Ga (S1 P):=by ext
def zGL (P:Params):(G1 P).lookup 584=Ga (P8 P):=by ext
def ZX (P:Params):(G1 P).lookup 755=Ga (P3 P):=by ext
def zGN (P:Params):(G1 P).lookup 762=Ga (T1 P):=by ext
def zGO (P:Params):(G1 P).lookup 769=Ga (T5 P):=by ext
def zHB (P:Params):T3.DkC (G1 P) 772:=⟨⟨by ext,by ext,by ext,by ext⟩,show findIn (G1 P) (.ref 772) "runs"=Ga Gb by ext⟩
def zHC (P:Params):∀ a,findIn (G1 P) (.ref 772) "__init__"=Ga (Ga (.ref a))->L2.Mk (G1 P) 772 a:=λa h=>by
 have e:findIn (G1 P) (.ref 772) "__init__"=Ga (Ga (.ref 755)):=by ext
 rw[e] at h;cases h;exact⟨by ext,e,by ext,by ext⟩
def zHD (P:Params):nsIn (G1 P) mainGlobals "Desk"=Ga (Ga (.ref 772)):=by ext
def zjV (P:Params):∃ fd,T3.MthW (G1 P) 772 "__init__" "Desk.__init__" IX (.ref 754) 755 fd:=⟨_,⟨⟨_,_,_,_,_,_,_,_,ZX P,rfl,by ext⟩,by ext,by ext,by ext⟩⟩
def zsK (P:Params):∃ fd,T3.MthW (G1 P) 772 "say" "Desk.say" AE (.ref 761) 762 fd:=⟨_,⟨⟨_,_,_,_,_,_,_,_,zGN P,rfl,by ext⟩,by ext,by ext,by ext⟩⟩
def znU (P:Params):∃ fd,T3.MthW (G1 P) 772 "run_by" "Desk.run_by" Ir (.ref 768) 769 fd:=⟨_,⟨⟨_,_,_,_,_,_,_,_,zGO P,rfl,by ext⟩,by ext,by ext,by ext⟩⟩
variable {Q:Program}{h:Heap}{mg:Str->Option Gg}{w:World}
def zBS(X:(G1 w.params).In h)(G:h.Ns mainGlobals mg):T3.GDk Q w (G1 w.params) mg "FORMS" hV:=T3.zFC (a:=575) (mg_of X G nofun) (by decide) (zGC w.params) (.cons (T3.zkE (xs:=[.str "name",.str "text"]) (zGD w.params) (by decide) (.cons ⟨_,rfl⟩ (.cons ⟨_,rfl⟩ (.nil))) (λ_=>.cons (.str _) (.cons (.str _) (.nil)))) (.cons (T3.zkE (xs:=[.str "name"]) (zGE w.params) (by decide) (.cons ⟨_,rfl⟩ (.nil)) (λ_=>.cons (.str _) (.nil))) (.cons (T3.zkE (xs:=[.str "name"]) (zGF w.params) (by decide) (.cons ⟨_,rfl⟩ (.nil)) (λ_=>.cons (.str _) (.nil))) (.cons (T3.zkE (xs:=[.str "name",.str "bound"]) (Yh w.params) (by decide) (.cons ⟨_,rfl⟩ (.cons ⟨_,rfl⟩ (.nil))) (λ_=>.cons (.str _) (.cons (.str _) (.nil)))) (.cons (T3.zkE (xs:=[.str "name",.str "hand",.str "rounds"]) (YN w.params) (by decide) (.cons ⟨_,rfl⟩ (.cons ⟨_,rfl⟩ (.cons ⟨_,rfl⟩ (.nil)))) (λ_=>.cons (.str _) (.cons (.str _) (.cons (.str _) (.nil))))) (.cons (T3.zkE (xs:=[.str "name",.str "rule",.str "bound",.str "rounds"]) (zGI w.params) (by decide) (.cons ⟨_,rfl⟩ (.cons ⟨_,rfl⟩ (.cons ⟨_,rfl⟩ (.cons ⟨_,rfl⟩ (.nil))))) (λ_=>.cons (.str _) (.cons (.str _) (.cons (.str _) (.cons (.str _) (.nil)))))) (.cons (T3.zkE (xs:=[.str "name",.str "other",.str "rounds"]) (Zy w.params) (by decide) (.cons ⟨_,rfl⟩ (.cons ⟨_,rfl⟩ (.cons ⟨_,rfl⟩ (.nil)))) (λ_=>.cons (.str _) (.cons (.str _) (.cons (.str _) (.nil))))) (.cons (T3.zkE (xs:=[.str "name",.str "bound",.str "rounds",.str "number"]) (zGK w.params) (by decide) (.cons ⟨_,rfl⟩ (.cons ⟨_,rfl⟩ (.cons ⟨_,rfl⟩ (.cons ⟨_,rfl⟩ (.nil))))) (λ_=>.cons (.str _) (.cons (.str _) (.cons (.str _) (.cons (.str _) (.nil)))))) (.cons (T3.zkE (xs:=[.str "name",.str "rule",.str "bound",.str "rounds"]) (zGL w.params) (by decide) (.cons ⟨_,rfl⟩ (.cons ⟨_,rfl⟩ (.cons ⟨_,rfl⟩ (.cons ⟨_,rfl⟩ (.nil))))) (λ_=>.cons (.str _) (.cons (.str _) (.cons (.str _) (.cons (.str _) (.nil)))))) (.nil)))))))))) (by nofun)
def zEk(X:(G1 w.params).In h)(G:h.Ns mainGlobals mg):T3.GDk Q w (G1 w.params) mg "MOST" MR:=T3.zFC (a:=574) (mg_of X G nofun) (by decide) (zGB w.params) (.cons (T3.geN_) (.cons (T3.geN_) (.cons (T3.geN_) (.nil)))) (by nofun)
def zBT(X:(G1 w.params).In h)(G:h.Ns mainGlobals mg):T3.GTp (G1 w.params) mg "RULES" [.str "plain",.str "soon",.str "sure",.str "together"]:=T3.zFJ (xs:=[.str "plain",.str "soon",.str "sure",.str "together"]) (mg_of X G nofun) (zGA w.params) (by decide) (.cons ⟨_,rfl⟩ (.cons ⟨_,rfl⟩ (.cons ⟨_,rfl⟩ (.cons ⟨_,rfl⟩ (.nil))))) (λ_=>.cons (.str _) (.cons (.str _) (.cons (.str _) (.cons (.str _) (.nil)))))
end
end Law
end
open PySem PySem.W PyProof.Rows
set_option maxRecDepth 100000 in
set_option maxHeartbeats 0 in
theorem PySem.Challenge.cw_roundfall_k75_rows_refused_holds : PySem.Challenge.rw_roundfall_k75_rows_refused.Holds := by
 w_on
 refine PySem.W.holds_law Law.V5 λsaid=>?_;refine PySem.W.holds_open (q:=Law.G9) (loose:=Law.M5) (Xt:=Law.N4) (XP:=PySem.W.XL Law.G9 []) (Yf:=PySem.W.Hook.obs (vM Law.G1 Law.G5 Law.L3 [697])) (Ya:=PySem.W.Hook.val (vM Law.G1 Law.G5 Law.L3 [697])) (YP:=PySem.W.Hook.says (vM Law.G1 Law.G5 Law.L3 [697])) (N:=4085+(215+1400)) Law.V3 (PySem.W.Hook.of (vM Law.G1 Law.G5 Law.L3 [697])) (PySem.W.Hook.keeps (vM Law.G1 Law.G5 Law.L3 [697])) (λs e=>PySem.W.xl_of s (Je.mp e).1) PySem.W.XL.keeps (by rfl) (by rfl) (by rfl) (λs e=>PySem.W.recFacts_of (Je.mp e).2) (by rfl) said (by nofun) ⟨rfl,rfl,rfl,rfl,rfl,by nofun⟩ ?hw ?hc
 case hw=>w_witness2
 k_fill
 refine T3.zA2 (l:=PySem.Challenge.rw_roundfall_k75_rows_refused) (n:=63) (k:=17) (x:="script") (Pt:=697) (K:=Law.G1) (sp:=λK vs H Q E=>∀ C mkx mk,T3.spT K 697 (Law.ziW C mkx mk 697) vs H Q E) rfl (by decide) rfl ⟨rfl,by decide,by decide⟩ (λw h Y=>⟨PySem.W.km_in_of Y,PySem.W.km_tabs_of Y _ jh⟩) (λP=>Law.T9 P) (λw h X=>T3.zsZ X (Law.V4 w.params)) ?F ?S
 case F =>
  intro w mg fa h KX G hmg;refine Law.zFL (a:=837) KX G hmg ?_;clear hmg said;refine'⟨⟨_,_,_,_,_,_,_,_,_,_,_,_,_,_,_,_,_,_,_,_,_,_,_,_,_,_,_,_,_,_,_,_,_,_,_,_,_,_,_,_,_,_,_,_,_,_,_,_,_,_,_,_,_,_,_,_,_,_,_,_,_,_,_,_,_,_,_,_,_,_,_,_,_,_,_,_,_,_,_,_,_,_,_,_,_,_,_,_,_,_,_,_,_,_,_,_,_,_,_,_,_,_,_,_,_,_,_,_,_,_,_,_,_,_,_,_,_,_,_,_,_,_,_,_,_,_,_,_,_,_,_,_,_,_,_,_,_,_,_,_,_,_,_,_,_,_,_,_,_,_,_,_,_,_,_,_,_,_,_,_,_,_,_,_,_,_,_,_,_,_,_,_,_,_,_,_,701,697,118,130,142,82,106,57,70,94,_⟩,⟨Law.zHB w.params,Law.zHC w.params _ (Law.zjV w.params).choose_spec.at_,km KX G (Law.zHD w.params),T3.zuM (Law.zjV w.params).choose_spec,T3.zuM (Law.znU w.params).choose_spec,T3.zuM (Law.zsK w.params).choose_spec,Law.zBS KX G,Law.zEk KX G,Law.zBT KX G,km KX G ?m_number_by_desk,T3.zaK KX G ?w59,T3.zaK KX G ?w71,T3.zaK KX G ?w55,T3.zaK KX G ?w67,T3.zaK KX G ?w54,T3.zaK KX G ?w45,T3.zaK KX G ?w15,T3.zaK KX G ?w53,T3.zaK KX G ?w66,T3.zaK KX G ?w39,T3.zaK KX G ?w74,T3.zaK KX G ?w27,T3.zaK KX G ?w68,T3.zaK KX G ?w13,T3.zaK KX G ?w79,T3.zaK KX G ?w31,T3.zaK KX G ?w80,T3.zaK KX G ?w81,T3.zaK KX G ?w17,T3.zaK KX G ?w_q7,T3.zaK KX G ?w62,T3.zaK KX G ?w50,T3.zaK KX G ?w34,T3.zaK KX G ?w58,T3.zaK KX G ?w52,T3.zaK KX G ?w38,T3.zaK KX G ?w78,T3.zaK KX G ?w10,T3.zaK KX G ?w56,T3.zaK KX G ?w24,T3.zaK KX G ?w47,T3.zaK KX G ?w77,T3.zaK KX G ?w_q0,T3.zaK KX G ?w41,T3.zaK KX G ?w6,T3.zaK KX G ?w36,T3.zaK KX G ?w61,T3.zaK KX G ?w_q4,T3.zaK KX G ?w69,T3.zaK KX G ?w_q1,T3.zaK KX G ?w76,T3.zaK KX G ?w23,T3.zaK KX G ?w_q3,T3.zaK KX G ?w57,T3.zaK KX G ?w42,T3.zaK KX G ?w21,T3.zaK KX G ?w35,T3.zaK KX G ?w64,T3.zaK KX G ?w75,T3.zaK KX G ?w37,T3.zaK KX G ?w48,T3.zaK KX G ?w8,T3.zaK KX G ?w12,T3.zaK KX G ?w_q5,T3.zaK KX G ?w32,T3.zaK KX G ?w51,T3.zaK KX G ?w70,T3.zaK KX G ?w33,T3.zaK KX G ?w44,T3.zaK KX G ?w18,T3.zaK KX G ?w26,T3.zaK KX G ?w46,T3.zaK KX G ?w60,T3.zaK KX G ?w49,T3.zaK KX G ?w_q2,T3.zaK KX G ?w19,T3.zaK KX G ?w83,T3.zaK KX G ?w40,T3.zaK KX G ?w63,T3.zaK KX G ?w43,T3.zaK KX G ?w82,T3.zaK KX G ?w73,T3.zaK KX G ?w28,T3.zaK KX G ?w20,T3.zaK KX G ?w_q9,T3.zaK KX G ?w72,T3.zaK KX G ?w16,T3.zaK KX G ?w30,T3.zaK KX G ?w65,T3.zaK KX G ?w22,T3.zaK KX G ?w11,T3.zaK KX G ?w14,T3.zaK KX G ?w25,T3.zaK KX G ?w29,T3.zaK KX G ?w84,j9 KX G ?z_ValueError,j9 KX G ?z_all,j9 KX G ?z_bool,j9 KX G ?z_int,j9 KX G ?z_isinstance,j9 KX G ?z_len,j9 KX G ?z_list,j9 KX G ?z_max,j9 KX G ?z_min,j9 KX G ?z_range,j9 KX G ?z_reversed,j9 KX G ?z_set,j9 KX G ?z_sorted,j9 KX G ?z_str,j9 KX G ?z_tuple,(T3.FnW.code ?w63).trans ?l_1,Law.V4 w.params,⟨4,Law.Q5,km KX G ?l_3,by decide,by decide,?l_4,rfl,rfl,rfl⟩,⟨km KX G ?n_NoText,Law.zAC w.params⟩,⟨km KX G ?n_NoRow,Law.zBR w.params⟩,⟨km KX G ?n_NoName,Law.zAD w.params⟩,⟨km KX G ?n_NoBound,Law.zxD w.params⟩,⟨km KX G ?n_Closed,Law.zAB w.params⟩,⟨km KX G ?n_RoundError⟩,⟨km KX G ?n_NoRun⟩,⟨km KX G ?n_NoNumbers⟩,?_,?_,?_,?_,?_,?_,?_,?_,?_,?_,?_,?_,?_,?_,?_,?_,?_,?_,?_,?_,?_,?_,?_,?_,?_,?_,?_,?_,?_,?_,?_,?_,?_,?_,?_,?_,?_,?_,?_,?_,?_,?_,?_,⟨_,km KX G ?c_LAST_ROUND⟩,⟨_,km KX G ?c_LEAST_HANDS⟩,⟨_,km KX G ?c_MOST_FIGURES⟩,⟨_,km KX G ?c_MOST_HANDS⟩,⟨_,km KX G ?c_MOST_LETTERS⟩,⟨_,km KX G ?c_FIGURES⟩,⟨_,km KX G ?c_LETTERS⟩⟩,rfl,rfl,T3.FnW.bt ?w84 (Q:=λfd=>∀ (s:Gh) (v:Gg),BindsTo s fd ⟨[v],[]⟩ [("script",v)]) λ_ _ _ _ _ _ _ _=>.of_eq rfl⟩
  all_goals try dsimp only
  all_goals first|k_is|exact rfl|ext|(refine'⟨_,_,_,_,_,_,_,_,?x1,?x2,?x3,?x4,?x5⟩;(case x1=>k_is);(case x2=>exact rfl);(case x3=>exact rfl);(case x4=>k_is);(case x5=>k_is))|skip
 case S=>exact λK H a ns hl hT hS C mkx mk=>T3.zC5 hT hS (Law.zAy C 697 mkx mk ns)
