import PyProof.Rows.All
import Wide.All
import OpenK.AllK
import Wide.FinOn
import PyProof.EqAt
import PyProof.EqKinds
import PyProof.TupleCall
import KE.BitLaws
import Open.SpecLaws
import KE.OsHead
import KE.OsGo
import PyProof.Rows.SetFrom
import PyProof.CollectStr
import PyProof.Rows.SortShellAny
import VadombSpec
import VadombNeutral
import PyFlat
import PyFlatLaws
import PyVadomb
import PySem.Challenge.RW_knownof_s01_answers
set_option Elab.async false
set_option linter.all false
set_option maxRecDepth 100000
set_option maxHeartbeats 4000000
namespace L2
open PySem
def inClass (s : Stmt) (j : Nat) : Stmt := match s with
 | .ClassDef _ _ _ body _ _ _ _ _ _ _ => body.getD j (.Pass ⟨0, 0, 0, 0⟩)
 | _ => .Pass ⟨0, 0, 0, 0⟩
def defArgs (s : Stmt) : Arguments := match s with
 | .FunctionDef _ a _ _ _ _ _ _ _ _ => a
 | _ => { posonlyargs := [], args := [], vararg := none, kwonlyargs := [], kw_defaults := [], kwarg := none, defaults := [] }
def defBody (s : Stmt) : List Stmt := match s with
 | .FunctionDef _ _ b _ _ _ _ _ _ _ => b
 | _ => []
def defScope (s : Stmt) : Scope := match s with
 | .FunctionDef _ _ _ _ _ _ sc _ _ _ => sc
 | _ => { kind := .function, names := [], isGenerator := false, isCoroutine := false }
end L2
namespace Kv
open PySem PySem.Spec PyProof.Rows L2
open PySem.W (Codec)
def top (i : Nat) : Stmt := PySem.Challenge.pw_knownof_s01_answers.main.body.getD i (.Pass ⟨0, 0, 0, 0⟩)
abbrev s_Value_init : Stmt := inClass (top 7) 0
abbrev s_greatest_divisor : Stmt := top 1
abbrev s_inverse : Stmt := top 2
abbrev s_shared_number : Stmt := top 3
abbrev s_is_beyond : Stmt := top 8
abbrev s_is_few : Stmt := top 9
abbrev s_common_distance : Stmt := top 10
abbrev s_few_of : Stmt := top 11
abbrev s_row_of : Stmt := top 12
abbrev s_made_of : Stmt := top 13
abbrev s_hull : Stmt := top 14
abbrev s_told : Stmt := top 15
abbrev s_has : Stmt := top 16
abbrev s_first_numbers : Stmt := top 17
abbrev s_between : Stmt := top 18
abbrev s_without : Stmt := top 19
abbrev s_negated : Stmt := top 20
abbrev s_join : Stmt := top 22
abbrev s_meet : Stmt := top 23
abbrev s_is_within : Stmt := top 24
abbrev s_handful : Stmt := top 25
abbrev s_few_plus : Stmt := top 26
abbrev s_plus : Stmt := top 27
abbrev s_minus : Stmt := top 28
abbrev s_few_times : Stmt := top 29
abbrev s_times : Stmt := top 30
abbrev s_rem : Stmt := top 31
abbrev s_widen : Stmt := top 32
abbrev s_left_unequal : Stmt := top 42
abbrev s_left_of_each : Stmt := top 43
abbrev s_left_of_both : Stmt := top 44
abbrev s_leaves_none : Stmt := top 45
abbrev s_leaves_none_opposite : Stmt := top 46
abbrev s_verdict : Stmt := top 47
abbrev s_keep : Stmt := top 63
abbrev s_answer_of : Stmt := top 64
abbrev s_answer_parts : Stmt := top 65
abbrev s_answer_told : Stmt := top 66
abbrev s_answer_has : Stmt := top 67
abbrev s_answer_count : Stmt := top 68
abbrev s_answer_first : Stmt := top 69
abbrev s_answer_join : Stmt := top 70
abbrev s_answer_meet : Stmt := top 71
abbrev s_answer_widen : Stmt := top 72
abbrev s_answer_within : Stmt := top 73
abbrev s_answer_plus : Stmt := top 74
abbrev s_answer_minus : Stmt := top 75
abbrev s_answer_times : Stmt := top 76
abbrev s_answer_rem : Stmt := top 77
abbrev s_answer_test : Stmt := top 78
abbrev s_answer_verdict : Stmt := top 79
abbrev s_answer_call : Stmt := top 81
abbrev s_answers : Stmt := top 82
abbrev vS (s : Str) (t : Tok) : Value := .str s t
abbrev vI (i : Int) (t : Tok) : Value := .int i t
abbrev vR (a : Addr) : Value := .ref a
abbrev vN : Value := .none
abbrev kE (P : Params) (s : Str) (t : Tok) (v : Value) : DictEntry := ⟨PyData.keyHash P s, .str s t, v⟩
abbrev kF (n q : Str) (s : Stmt) (m : Str) (t : Tok) (c : Addr) : Obj := ⟨.type "function", none, .func { name := n, qualname := q, params := defArgs s, body := .stmts (defBody s), scope := defScope s, globals := 3, closure := [], defaults := .none, kwdefaults := .none, pyModule := .str m t, code := .ref c }, #[]⟩
abbrev kC (n q : Str) (t : Tok) (l a v : Int) (r1 : Addr) (x : Int) (r2 r3 r4 r5 : Addr) (y : Int) (z : Tok) : Obj := ⟨.type "code", none, .fields #[.str n t, .str q (t + 1), .str "/claim/cut.py" (t + 2), .int l 0, .int a 0, .int 0 0, .int 0 0, .int v 0, .ref r1, .bool true, .int x 0, .ref r2, .none, .ref r3, .ref r4, .ref r5, .int y 0, .int l 0, .str "/claim/cut.py" z], #[]⟩
def KK : Params → PySem.W.Frag := fun P =>
(nat_lit 3, ⟨.type "dict", none, .dict #[kE P "__name__" 165 (vS "knownof.knowledge" 545), kE P "__doc__" 166 (vN), kE P "__package__" 167 (vN), kE P "__loader__" 168 (.builtin "__main__.__loader__#opaque"), kE P "__spec__" 169 (vN), kE P "__annotations__" 170 (vR 6), kE P "__builtins__" 171 (vR 4), kE P "__file__" 173 (vS "/claim/cut.py" 172), kE P "__cached__" 174 (vN), kE P "greatest_divisor" 197 (vR 21), kE P "inverse" 212 (vR 28), kE P "shared_number" 226 (vR 35), kE P "BOUND" 230 (vI 1000000 229), kE P "FEW" 232 (vI 6 231), kE P "Value" 273 (vR 52), kE P "is_beyond" 280 (vR 63), kE P "is_few" 287 (vR 70), kE P "common_distance" 296 (vR 77), kE P "few_of" 307 (vR 84), kE P "row_of" 313 (vR 89), kE P "made_of" 328 (vR 96), kE P "hull" 336 (vR 103), kE P "told" 344 (vR 110), kE P "has" 352 (vR 117), kE P "first_numbers" 362 (vR 124), kE P "between" 368 (vR 129), kE P "without" 374 (vR 134), kE P "negated" 380 (vR 139), kE P "join" 393 (vR 146), kE P "meet" 399 (vR 151), kE P "is_within" 407 (vR 158), kE P "handful" 416 (vR 165), kE P "few_plus" 422 (vR 170), kE P "plus" 433 (vR 177), kE P "minus" 441 (vR 184), kE P "few_times" 447 (vR 189), kE P "times" 458 (vR 196), kE P "rem" 464 (vR 201), kE P "widen" 470 (vR 206), kE P "LESS" 474 (vI 0 473), kE P "LESS_OR_EQUAL" 476 (vI 1 475), kE P "EQUAL" 478 (vI 2 477), kE P "UNEQUAL" 480 (vI 3 479), kE P "TESTS" 482 (vI 4 481), kE P "NEVER" 484 (vI 0 483), kE P "ALWAYS" 486 (vI 1 485), kE P "NOT_KNOWN" 488 (vI 2 487), kE P "left_unequal" 497 (vR 213), kE P "left_of_each" 507 (vR 220), kE P "left_of_both" 517 (vR 227), kE P "leaves_none" 526 (vR 234), kE P "leaves_none_opposite" 535 (vR 241), kE P "verdict" 544 (vR 248), kE P "SLOTS" 548 (vI 6 547), kE P "MOST_LISTED" 550 (vI 40 549), kE P "MOST_FIRST" 552 (vI 50 551), kE P "MOST_THRESHOLDS" 554 (vI 8 553), kE P "MOST_DIVISOR" 556 (vI 99 555), kE P "OUT_OF_RANGE" 559 (vI (-1) 558), kE P "NO_SLOT" 562 (vI (-2) 561), kE P "NO_TEST" 565 (vI (-3) 564), kE P "NO_COUNT" 568 (vI (-4) 567), kE P "WHOLE_NUMBERS" 585 (vR 249), kE P "SLOTS_FROM" 602 (vR 250), kE P "SLOTS_UP_TO" 619 (vR 251), kE P "CALLS_WITH_A_ROW" 622 (vR 252), kE P "CALLS_WITH_A_TEST" 625 (vR 253), kE P "keep" 634 (vR 260), kE P "answer_of" 640 (vR 265), kE P "answer_parts" 653 (vR 272), kE P "answer_told" 661 (vR 279), kE P "answer_has" 669 (vR 286), kE P "answer_count" 677 (vR 293), kE P "answer_first" 687 (vR 300), kE P "answer_join" 695 (vR 307), kE P "answer_meet" 703 (vR 314), kE P "answer_widen" 709 (vR 319), kE P "answer_within" 717 (vR 326), kE P "answer_plus" 725 (vR 333), kE P "answer_minus" 733 (vR 340), kE P "answer_times" 741 (vR 347), kE P "answer_rem" 750 (vR 354), kE P "answer_test" 761 (vR 361), kE P "answer_verdict" 769 (vR 368), kE P "ANSWERERS" 770 (vR 369), kE P "answer_call" 781 (vR 376), kE P "answers" 787 (vR 381)] 87, #[]⟩) ::
(nat_lit 20, kC "greatest_divisor" "greatest_divisor" 189 2 2 3 15 181 16 17 18 19 195 196) ::
(nat_lit 21, kF "greatest_divisor" "greatest_divisor" s_greatest_divisor "knownof.division" 187 20) ::
(nat_lit 27, kC "inverse" "inverse" 198 8 2 3 22 181 23 24 25 26 210 211) ::
(nat_lit 28, kF "inverse" "inverse" s_inverse "knownof.division" 187 27) ::
(nat_lit 34, kC "shared_number" "shared_number" 213 22 4 3 29 181 30 31 32 33 224 225) ::
(nat_lit 35, kF "shared_number" "shared_number" s_shared_number "knownof.division" 187 34) ::
(nat_lit 48, kC "__init__" "Value.__init__" 245 35 8 3 43 181 44 45 46 47 256 257) ::
(nat_lit 49, kF "__init__" "Value.__init__" s_Value_init "knownof.value" 227 48) ::
(nat_lit 51, ⟨.type "dict", none, .dict #[kE P "__module__" 240 (vS "knownof.value" 227), kE P "__firstlineno__" 244 (vI 33 243), kE P "__init__" 258 (vR 49), kE P "__static_attributes__" 266 (vR 50), kE P "__dict__" 268 (vR 53), kE P "__weakref__" 270 (vR 54), kE P "__doc__" 271 (vN)] 4, #[]⟩) ::
(nat_lit 52, ⟨.type "type", none, .cls { name := "Value", bases := [.type "object"], mro := [vR 52, .type "object"], ns := 51, qualname := "Value" }, #[none, none, some (vS "Value" 233), some (vS "Value" 241), some (.builtin "object.__new__"), some (.bool true)]⟩) ::
(nat_lit 62, kC "is_beyond" "is_beyond" 274 43 1 3 57 181 58 59 60 61 278 279) ::
(nat_lit 63, kF "is_beyond" "is_beyond" s_is_beyond "knownof.value" 227 62) ::
(nat_lit 69, kC "is_few" "is_few" 281 45 1 3 64 181 65 66 67 68 285 286) ::
(nat_lit 70, kF "is_few" "is_few" s_is_few "knownof.value" 227 69) ::
(nat_lit 76, kC "common_distance" "common_distance" 288 47 1 3 71 181 72 73 74 75 294 295) ::
(nat_lit 77, kF "common_distance" "common_distance" s_common_distance "knownof.value" 227 76) ::
(nat_lit 83, kC "few_of" "few_of" 297 52 1 3 78 181 79 80 81 82 305 306) ::
(nat_lit 84, kF "few_of" "few_of" s_few_of "knownof.value" 227 83) ::
(nat_lit 88, ⟨.type "code", none, .fields #[vS "row_of" 308, vS "row_of" 309, vS "/claim/cut.py" 310, vI 60 0, vI 4 0, vI 0 0, vI 0 0, vI 3 0, vR 85, .bool true, vI 181 0, vR 86, vN, vN, vN, vR 87, vI 311 0, vI 60 0, vS "/claim/cut.py" 312], #[]⟩) ::
(nat_lit 89, kF "row_of" "row_of" s_row_of "knownof.value" 227 88) ::
(nat_lit 95, kC "made_of" "made_of" 314 69 5 3 90 181 91 92 93 94 326 327) ::
(nat_lit 96, kF "made_of" "made_of" s_made_of "knownof.value" 227 95) ::
(nat_lit 102, kC "hull" "hull" 329 81 1 3 97 181 98 99 100 101 334 335) ::
(nat_lit 103, kF "hull" "hull" s_hull "knownof.value" 227 102) ::
(nat_lit 109, kC "told" "told" 337 86 1 3 104 181 105 106 107 108 342 343) ::
(nat_lit 110, kF "told" "told" s_told "knownof.value" 227 109) ::
(nat_lit 116, kC "has" "has" 345 91 2 3 111 181 112 113 114 115 350 351) ::
(nat_lit 117, kF "has" "has" s_has "knownof.value" 227 116) ::
(nat_lit 123, kC "first_numbers" "first_numbers" 353 97 2 3 118 181 119 120 121 122 360 361) ::
(nat_lit 124, kF "first_numbers" "first_numbers" s_first_numbers "knownof.value" 227 123) ::
(nat_lit 128, ⟨.type "code", none, .fields #[vS "between" 363, vS "between" 364, vS "/claim/cut.py" 365, vI 107 0, vI 3 0, vI 0 0, vI 0 0, vI 3 0, vR 125, .bool true, vI 181 0, vR 126, vN, vN, vN, vR 127, vI 366 0, vI 107 0, vS "/claim/cut.py" 367], #[]⟩) ::
(nat_lit 129, kF "between" "between" s_between "knownof.value" 227 128) ::
(nat_lit 133, ⟨.type "code", none, .fields #[vS "without" 369, vS "without" 370, vS "/claim/cut.py" 371, vI 111 0, vI 2 0, vI 0 0, vI 0 0, vI 3 0, vR 130, .bool true, vI 181 0, vR 131, vN, vN, vN, vR 132, vI 372 0, vI 111 0, vS "/claim/cut.py" 373], #[]⟩) ::
(nat_lit 134, kF "without" "without" s_without "knownof.value" 227 133) ::
(nat_lit 138, ⟨.type "code", none, .fields #[vS "negated" 375, vS "negated" 376, vS "/claim/cut.py" 377, vI 119 0, vI 1 0, vI 0 0, vI 0 0, vI 3 0, vR 135, .bool true, vI 181 0, vR 136, vN, vN, vN, vR 137, vI 378 0, vI 119 0, vS "/claim/cut.py" 379], #[]⟩) ::
(nat_lit 139, kF "negated" "negated" s_negated "knownof.value" 227 138) ::
(nat_lit 145, kC "join" "join" 383 124 2 3 140 181 141 142 143 144 391 392) ::
(nat_lit 146, kF "join" "join" s_join "knownof.reckoning" 381 145) ::
(nat_lit 150, ⟨.type "code", none, .fields #[vS "meet" 394, vS "meet" 395, vS "/claim/cut.py" 396, vI 136 0, vI 2 0, vI 0 0, vI 0 0, vI 3 0, vR 147, .bool true, vI 181 0, vR 148, vN, vN, vN, vR 149, vI 397 0, vI 136 0, vS "/claim/cut.py" 398], #[]⟩) ::
(nat_lit 151, kF "meet" "meet" s_meet "knownof.reckoning" 381 150) ::
(nat_lit 157, kC "is_within" "is_within" 400 148 2 3 152 181 153 154 155 156 405 406) ::
(nat_lit 158, kF "is_within" "is_within" s_is_within "knownof.reckoning" 381 157) ::
(nat_lit 164, kC "handful" "handful" 408 150 2 3 159 181 160 161 162 163 414 415) ::
(nat_lit 165, kF "handful" "handful" s_handful "knownof.reckoning" 381 164) ::
(nat_lit 169, ⟨.type "code", none, .fields #[vS "few_plus" 417, vS "few_plus" 418, vS "/claim/cut.py" 419, vI 157 0, vI 2 0, vI 0 0, vI 0 0, vI 3 0, vR 166, .bool true, vI 181 0, vR 167, vN, vN, vN, vR 168, vI 420 0, vI 157 0, vS "/claim/cut.py" 421], #[]⟩) ::
(nat_lit 170, kF "few_plus" "few_plus" s_few_plus "knownof.reckoning" 381 169) ::
(nat_lit 176, kC "plus" "plus" 423 163 2 3 171 181 172 173 174 175 431 432) ::
(nat_lit 177, kF "plus" "plus" s_plus "knownof.reckoning" 381 176) ::
(nat_lit 183, kC "minus" "minus" 434 172 2 3 178 181 179 180 181 182 439 440) ::
(nat_lit 184, kF "minus" "minus" s_minus "knownof.reckoning" 381 183) ::
(nat_lit 188, ⟨.type "code", none, .fields #[vS "few_times" 442, vS "few_times" 443, vS "/claim/cut.py" 444, vI 174 0, vI 2 0, vI 0 0, vI 0 0, vI 3 0, vR 185, .bool true, vI 181 0, vR 186, vN, vN, vN, vR 187, vI 445 0, vI 174 0, vS "/claim/cut.py" 446], #[]⟩) ::
(nat_lit 189, kF "few_times" "few_times" s_few_times "knownof.reckoning" 381 188) ::
(nat_lit 195, kC "times" "times" 448 181 2 3 190 181 191 192 193 194 456 457) ::
(nat_lit 196, kF "times" "times" s_times "knownof.reckoning" 381 195) ::
(nat_lit 200, ⟨.type "code", none, .fields #[vS "rem" 459, vS "rem" 460, vS "/claim/cut.py" 461, vI 191 0, vI 2 0, vI 0 0, vI 0 0, vI 3 0, vR 197, .bool true, vI 181 0, vR 198, vN, vN, vN, vR 199, vI 462 0, vI 191 0, vS "/claim/cut.py" 463], #[]⟩) ::
(nat_lit 201, kF "rem" "rem" s_rem "knownof.reckoning" 381 200) ::
(nat_lit 205, ⟨.type "code", none, .fields #[vS "widen" 465, vS "widen" 466, vS "/claim/cut.py" 467, vI 197 0, vI 3 0, vI 0 0, vI 0 0, vI 3 0, vR 202, .bool true, vI 181 0, vR 203, vN, vN, vN, vR 204, vI 468 0, vI 197 0, vS "/claim/cut.py" 469], #[]⟩) ::
(nat_lit 206, kF "widen" "widen" s_widen "knownof.reckoning" 381 205) ::
(nat_lit 212, kC "left_unequal" "left_unequal" 489 221 2 3 207 181 208 209 210 211 495 496) ::
(nat_lit 213, kF "left_unequal" "left_unequal" s_left_unequal "knownof.comparing" 471 212) ::
(nat_lit 219, kC "left_of_each" "left_of_each" 498 228 3 3 214 181 215 216 217 218 505 506) ::
(nat_lit 220, kF "left_of_each" "left_of_each" s_left_of_each "knownof.comparing" 471 219) ::
(nat_lit 226, kC "left_of_both" "left_of_both" 508 237 3 3 221 181 222 223 224 225 515 516) ::
(nat_lit 227, kF "left_of_both" "left_of_both" s_left_of_both "knownof.comparing" 471 226) ::
(nat_lit 233, kC "leaves_none" "leaves_none" 518 242 3 3 228 181 229 230 231 232 524 525) ::
(nat_lit 234, kF "leaves_none" "leaves_none" s_leaves_none "knownof.comparing" 471 233) ::
(nat_lit 240, kC "leaves_none_opposite" "leaves_none_opposite" 527 244 3 3 235 181 236 237 238 239 533 534) ::
(nat_lit 241, kF "leaves_none_opposite" "leaves_none_opposite" s_leaves_none_opposite "knownof.comparing" 471 240) ::
(nat_lit 247, kC "verdict" "verdict" 536 252 3 3 242 181 243 244 245 246 542 543) ::
(nat_lit 248, kF "verdict" "verdict" s_verdict "knownof.comparing" 471 247) ::
(nat_lit 249, ⟨.type "tuple", none, .seq #[vI 1 569, vI 6 570, vI 1 571, vI 2 572, vI 1 573, vI 2 574, vI 3 575, vI 3 576, vI 3 577, vI 2 578, vI 3 579, vI 3 580, vI 3 581, vI 3 582, vI 5 583, vI 3 584], #[]⟩) ::
(nat_lit 250, ⟨.type "tuple", none, .seq #[vI 0 586, vI 0 587, vI 0 588, vI 0 589, vI 0 590, vI 0 591, vI 0 592, vI 0 593, vI 0 594, vI 0 595, vI 0 596, vI 0 597, vI 0 598, vI 0 599, vI 1 600, vI 1 601], #[]⟩) ::
(nat_lit 251, ⟨.type "tuple", none, .seq #[vI 1 603, vI 1 604, vI 1 605, vI 1 606, vI 1 607, vI 1 608, vI 3 609, vI 3 610, vI 3 611, vI 2 612, vI 3 613, vI 3 614, vI 3 615, vI 2 616, vI 5 617, vI 3 618], #[]⟩) ::
(nat_lit 252, ⟨.type "tuple", none, .seq #[vI 0 620, vI 8 621], #[]⟩) ::
(nat_lit 253, ⟨.type "tuple", none, .seq #[vI 14 623, vI 15 624], #[]⟩) ::
(nat_lit 259, kC "keep" "keep" 626 273 3 3 254 181 255 256 257 258 632 633) ::
(nat_lit 260, kF "keep" "keep" s_keep "knownof.knowledge" 545 259) ::
(nat_lit 264, ⟨.type "code", none, .fields #[vS "answer_of" 635, vS "answer_of" 636, vS "/claim/cut.py" 637, vI 276 0, vI 2 0, vI 0 0, vI 0 0, vI 3 0, vR 261, .bool true, vI 181 0, vR 262, vN, vN, vN, vR 263, vI 638 0, vI 276 0, vS "/claim/cut.py" 639], #[]⟩) ::
(nat_lit 265, kF "answer_of" "answer_of" s_answer_of "knownof.knowledge" 545 264) ::
(nat_lit 271, kC "answer_parts" "answer_parts" 641 281 2 3 266 181 267 268 269 270 651 652) ::
(nat_lit 272, kF "answer_parts" "answer_parts" s_answer_parts "knownof.knowledge" 545 271) ::
(nat_lit 278, kC "answer_told" "answer_told" 654 292 2 3 273 181 274 275 276 277 659 660) ::
(nat_lit 279, kF "answer_told" "answer_told" s_answer_told "knownof.knowledge" 545 278) ::
(nat_lit 285, kC "answer_has" "answer_has" 662 294 2 3 280 181 281 282 283 284 667 668) ::
(nat_lit 286, kF "answer_has" "answer_has" s_answer_has "knownof.knowledge" 545 285) ::
(nat_lit 292, kC "answer_count" "answer_count" 670 296 2 3 287 181 288 289 290 291 675 676) ::
(nat_lit 293, kF "answer_count" "answer_count" s_answer_count "knownof.knowledge" 545 292) ::
(nat_lit 299, kC "answer_first" "answer_first" 678 298 2 3 294 181 295 296 297 298 685 686) ::
(nat_lit 300, kF "answer_first" "answer_first" s_answer_first "knownof.knowledge" 545 299) ::
(nat_lit 306, kC "answer_join" "answer_join" 688 304 2 3 301 181 302 303 304 305 693 694) ::
(nat_lit 307, kF "answer_join" "answer_join" s_answer_join "knownof.knowledge" 545 306) ::
(nat_lit 313, kC "answer_meet" "answer_meet" 696 306 2 3 308 181 309 310 311 312 701 702) ::
(nat_lit 314, kF "answer_meet" "answer_meet" s_answer_meet "knownof.knowledge" 545 313) ::
(nat_lit 318, ⟨.type "code", none, .fields #[vS "answer_widen" 704, vS "answer_widen" 705, vS "/claim/cut.py" 706, vI 308 0, vI 2 0, vI 0 0, vI 0 0, vI 3 0, vR 315, .bool true, vI 181 0, vR 316, vN, vN, vN, vR 317, vI 707 0, vI 308 0, vS "/claim/cut.py" 708], #[]⟩) ::
(nat_lit 319, kF "answer_widen" "answer_widen" s_answer_widen "knownof.knowledge" 545 318) ::
(nat_lit 325, kC "answer_within" "answer_within" 710 313 2 3 320 181 321 322 323 324 715 716) ::
(nat_lit 326, kF "answer_within" "answer_within" s_answer_within "knownof.knowledge" 545 325) ::
(nat_lit 332, kC "answer_plus" "answer_plus" 718 315 2 3 327 181 328 329 330 331 723 724) ::
(nat_lit 333, kF "answer_plus" "answer_plus" s_answer_plus "knownof.knowledge" 545 332) ::
(nat_lit 339, kC "answer_minus" "answer_minus" 726 317 2 3 334 181 335 336 337 338 731 732) ::
(nat_lit 340, kF "answer_minus" "answer_minus" s_answer_minus "knownof.knowledge" 545 339) ::
(nat_lit 346, kC "answer_times" "answer_times" 734 319 2 3 341 181 342 343 344 345 739 740) ::
(nat_lit 347, kF "answer_times" "answer_times" s_answer_times "knownof.knowledge" 545 346) ::
(nat_lit 353, kC "answer_rem" "answer_rem" 742 321 2 3 348 181 349 350 351 352 748 749) ::
(nat_lit 354, kF "answer_rem" "answer_rem" s_answer_rem "knownof.knowledge" 545 353) ::
(nat_lit 360, kC "answer_test" "answer_test" 751 326 2 3 355 181 356 357 358 359 759 760) ::
(nat_lit 361, kF "answer_test" "answer_test" s_answer_test "knownof.knowledge" 545 360) ::
(nat_lit 367, kC "answer_verdict" "answer_verdict" 762 333 2 3 362 181 363 364 365 366 767 768) ::
(nat_lit 368, kF "answer_verdict" "answer_verdict" s_answer_verdict "knownof.knowledge" 545 367) ::
(nat_lit 369, ⟨.type "tuple", none, .seq #[vR 265, vR 272, vR 279, vR 286, vR 293, vR 300, vR 307, vR 314, vR 319, vR 326, vR 333, vR 340, vR 347, vR 354, vR 361, vR 368], #[]⟩) ::
(nat_lit 375, kC "answer_call" "answer_call" 771 336 3 3 370 181 371 372 373 374 779 780) ::
(nat_lit 376, kF "answer_call" "answer_call" s_answer_call "knownof.knowledge" 545 375) ::
(nat_lit 380, ⟨.type "code", none, .fields #[vS "answers" 782, vS "answers" 783, vS "/claim/cut.py" 784, vI 344 0, vI 1 0, vI 0 0, vI 0 0, vI 3 0, vR 377, .bool true, vI 181 0, vR 378, vN, vN, vN, vR 379, vI 785 0, vI 344 0, vS "/claim/cut.py" 786], #[]⟩) ::
(nat_lit 381, kF "answers" "answers" s_answers "knownof.knowledge" 545 380) :: []
def KA : List Addr := [3, 20, 21, 27, 28, 34, 35, 48, 49, 51, 52, 62, 63, 69, 70, 76, 77, 83, 84, 88, 89, 95, 96, 102, 103, 109, 110, 116, 117, 123, 124, 128, 129, 133, 134, 138, 139, 145, 146, 150, 151, 157, 158, 164, 165, 169, 170, 176, 177, 183, 184, 188, 189, 195, 196, 200, 201, 205, 206, 212, 213, 219, 220, 226, 227, 233, 234, 240, 241, 247, 248, 249, 250, 251, 252, 253, 259, 260, 264, 265, 271, 272, 278, 279, 285, 286, 292, 293, 299, 300, 306, 307, 313, 314, 318, 319, 325, 326, 332, 333, 339, 340, 346, 347, 353, 354, 360, 361, 367, 368, 369, 375, 376, 380, 381]
def QQ : Program := { PySem.Challenge.pw_knownof_s01_answers with main := { PySem.Challenge.pw_knownof_s01_answers.main with body := [top 1, top 2, top 3, top 5, top 6, top 7, top 8, top 9, top 10, top 11, top 12, top 13, top 14, top 15, top 16, top 17, top 18, top 19, top 20, top 22, top 23, top 24, top 25, top 26, top 27, top 28, top 29, top 30, top 31, top 32, top 34, top 35, top 36, top 37, top 38, top 39, top 40, top 41, top 42, top 43, top 44, top 45, top 46, top 47, top 49, top 50, top 51, top 52, top 53, top 54, top 55, top 56, top 57, top 58, top 59, top 60, top 61, top 62, top 63, top 64, top 65, top 66, top 67, top 68, top 69, top 70, top 71, top 72, top 73, top 74, top 75, top 76, top 77, top 78, top 79, top 80, top 81, top 82] } }
theorem KH : ∀ P, KA = (KK P).map (·.1) := fun _ => by kernel_rfl
abbrev runW (w : World) : Option Shared := PySem.W.openEnds treeTable PySem.Challenge.rw_knownof_s01_answers.prog w 4494
theorem mk2 {A B : Type} {a a' : A} {b b' : B} (h : a = a') (k : b = b') : (a, b) = (a', b') := by rw [h, k]
theorem joinAll {q : Program} {loose mods : List Str} {Xt : Shared → Bool} {A : Type} {Yf : Shared → A} {Ya : A} {x : Option Shared}
  (h1 : x.map (fun s => seen ((recsOf q).map (·.name)) (ownsOf q) [] { s with gens := #[] }) = some (expectedOf q))
  (h2 : x.map (fun s => (s.heap.bltView, s.heap.accountedOkI mods && s.heap.isNs mainGlobals && s.heap.isNs builtinsNs, tablesOk q s.heap && Xt s && (s.gens.size == 0), pinSeenD q (drecsOf q) s, plainSeenD q loose s, PySem.W.clsSeenW q loose s)) = some (bltViewBooted, true, true, pinGoodD (drecsOf q), plainGoodD q loose, PySem.W.clsGoodW q loose))
  (h3 : x.map (fun s => s.heap.keysOk (PySem.W.looseW q loose) ((recsOf q).map (·.name)) ((litsOf q).map (·.1)) ((clssOf q (PySem.W.looseW q loose)).map (·.name))) = some true)
  (h4 : x.map (fun s => tabsOk q s) = some true)
  (h5 : x.map (fun s => plainSeenE q (PySem.W.looseW q loose) s) = some (plainGoodE q (PySem.W.looseW q loose)))
  (h6 : x.map (fun s => PySem.W.wideSeen q s) = some (PySem.W.wideGood q)) (h7 : x.map Yf = some Ya) :
  x.map (fun s => (PySem.W.openSeen q loose mods Xt true s, Yf s)) = some (PySem.W.openGood q loose, Ya) := by
 cases x with
 | none => cases h1
 | some s =>
  have e1 := Option.some.inj h1
  have e2 := Option.some.inj h2
  have e3 := Option.some.inj h3
  have e4 := Option.some.inj h4
  have pE := Option.some.inj h5
  have e6 := Option.some.inj h6
  dsimp only at e1 e2 e3 e4 pE e6
  obtain ⟨b, k2, k3, d, pD, cW⟩ : _ ∧ _ ∧ _ ∧ _ ∧ _ ∧ _ := by simpa only [Prod.mk.injEq] using e2
  have y := Option.some.inj h7
  obtain ⟨k2, kb⟩ := Bool.and_eq_true_iff.mp k2
  obtain ⟨ka, kg⟩ := Bool.and_eq_true_iff.mp k2
  obtain ⟨k3, k7⟩ := Bool.and_eq_true_iff.mp k3
  obtain ⟨k5, k6⟩ := Bool.and_eq_true_iff.mp k3
  refine congrArg some (mk2 ?_ y)
  unfold PySem.W.openSeen PySem.W.openGood
  refine mk2 e1 (mk2 b (mk2 ?_ (mk2 e4 (mk2 d (mk2 pE (mk2 pD (mk2 e6 cW)))))))
  rw [e3, ka, kg, kb, k5, k6, if_pos rfl, k7]
  rfl
set_option maxHeartbeats 0 in
theorem u3 (w : World) : (runW w).map (fun s => (s.heap.keysOk (PySem.W.looseW QQ ["ANSWERERS"]) ((recsOf QQ).map (·.name)) ((litsOf QQ).map (·.1)) ((clssOf QQ (PySem.W.looseW QQ ["ANSWERERS"])).map (·.name)))) = some true := by kernel_rfl
set_option maxHeartbeats 0 in
theorem u4 (w : World) : (runW w).map (fun s => (tabsOk QQ s)) = some true := by kernel_rfl
set_option maxHeartbeats 0 in
theorem u1 (w : World) : (runW w).map (fun s => (seen ((recsOf QQ).map (·.name)) (ownsOf QQ) [] { s with gens := #[] })) = some ((expectedOf QQ)) := by kernel_rfl
set_option maxHeartbeats 0 in
theorem u6 (w : World) : (runW w).map (fun s => (PySem.W.wideSeen QQ s)) = some ((PySem.W.wideGood QQ)) := by kernel_rfl
set_option maxHeartbeats 0 in
theorem u5 (w : World) : (runW w).map (fun s => plainSeenE QQ (PySem.W.looseW QQ ["ANSWERERS"]) s) = some (plainGoodE QQ (PySem.W.looseW QQ ["ANSWERERS"])) := by kernel_rfl
set_option maxHeartbeats 0 in
theorem u7 (w : World) : (runW w).map (PySem.W.Hook.obs (PySem.W.kHook KK KA KH)) = some (PySem.W.Hook.val (PySem.W.kHook KK KA KH) w) := by kernel_rfl
set_option maxHeartbeats 0 in
theorem u2 (w : World) : (runW w).map (fun s => (s.heap.bltView, s.heap.accountedOkI (importedModules (PySem.Challenge.rw_knownof_s01_answers.prog).main.body) && s.heap.isNs mainGlobals && s.heap.isNs builtinsNs, tablesOk QQ s.heap && (PySem.W.xlAt QQ [] s && PySem.W.recOk [] s) && (s.gens.size == 0), pinSeenD QQ (drecsOf QQ) s, plainSeenD QQ ["ANSWERERS"] s, PySem.W.clsSeenW QQ ["ANSWERERS"] s)) = some (bltViewBooted, true, true, (pinGoodD (drecsOf QQ)), (plainGoodD QQ ["ANSWERERS"]), (PySem.W.clsGoodW QQ ["ANSWERERS"])) := by kernel_rfl
theorem left0 : PySem.W.LeftO PySem.Challenge.rw_knownof_s01_answers.prog QQ ["ANSWERERS"] (fun s => PySem.W.xlAt QQ [] s && PySem.W.recOk [] s) (PySem.W.Hook.obs (PySem.W.kHook KK KA KH)) (PySem.W.Hook.val (PySem.W.kHook KK KA KH)) 4494 := fun w => joinAll (u1 w) (u2 w) (u3 w) (u4 w) (u5 w) (u6 w) (u7 w)
end Kv
namespace L2
open PySem PySem.Spec PyProof.Rows
abbrev Key := Sum Int Str
def keyIs : Key → Value → Bool
 | .inl k, v => Value.isInt k v
 | .inr x, v => Value.isStrOf x v
def keyH (w : World) : Key → Int
 | .inl k => hashInt k
 | .inr x => hashStr w x
theorem keyIs_shape : ∀ {k : Key} {v : Value}, keyIs k v = true → (∃ i t, k = Sum.inl i ∧ v = Value.int i t) ∨ (∃ x t, k = Sum.inr x ∧ v = Value.str x t)
 | .inl i, v, h => by
  obtain ⟨t, e⟩ := Value.isInt_shape (k := i) (v := v) h
  exact .inl ⟨i, t, rfl, e⟩
 | .inr x, v, h => by
  obtain ⟨t, e⟩ := Value.isStrOf_shape (x := x) (v := v) h
  exact .inr ⟨x, t, rfl, e⟩
theorem key_ll (a b : Int) : decide ((Sum.inl a : Key) = Sum.inl b) = (a == b) := by
 by_cases e : a = b
 ·subst e; simp
 ·have h : ¬ (Sum.inl a : Key) = Sum.inl b := fun q => e (Sum.inl.inj q)
  rw [decide_eq_false h]
  exact (beq_eq_false_iff_ne.mpr e).symm
theorem key_rr (a b : Str) : decide ((Sum.inr a : Key) = Sum.inr b) = decide (a = b) := by
 by_cases e : a = b
 ·subst e; simp
 ·have h : ¬ (Sum.inr a : Key) = Sum.inr b := fun q => e (Sum.inr.inj q)
  rw [decide_eq_false h, decide_eq_false e]
theorem key_lr (a : Int) (b : Str) : decide ((Sum.inl a : Key) = Sum.inr b) = false := decide_eq_false (fun q => nomatch q)
theorem key_rl (a : Str) (b : Int) : decide ((Sum.inr a : Key) = Sum.inl b) = false := decide_eq_false (fun q => nomatch q)
def mixKind (prog : Program) (w : World) : PySem.KeyKind prog w Key where
 is := keyIs
 hash := keyH w
 inj := fun v a b ha hb => by
  rcases keyIs_shape ha with ⟨i, t, rfl, rfl⟩ | ⟨x, t, rfl, rfl⟩
  ·rcases keyIs_shape hb with ⟨j, u, rfl, e⟩ | ⟨y, u, rfl, e⟩
   ·injection e with e1 _; rw [e1]
   ·exact nomatch e
  ·rcases keyIs_shape hb with ⟨j, u, rfl, e⟩ | ⟨y, u, rfl, e⟩
   ·exact nomatch e
   ·injection e with e1 _; rw [e1]
 byValue := fun k v h => by
  rcases keyIs_shape h with ⟨i, t, rfl, rfl⟩ | ⟨x, t, rfl, rfl⟩ <;> rfl
 pyHash := fun hv h => by
  rcases keyIs_shape hv with ⟨i, t, rfl, rfl⟩ | ⟨x, t, rfl, rfl⟩
  ·exact wpAny_pyHash_int h
  ·exact wpAny_pyHash_str h
 eqBool := fun hu hv h => by
  rcases keyIs_shape hu with ⟨i, t, rfl, rfl⟩ | ⟨x, t, rfl, rfl⟩
  ·rcases keyIs_shape hv with ⟨j, u, rfl, rfl⟩ | ⟨y, u, rfl, rfl⟩
   ·rw [key_ll] at h; exact wpAny_eqBool_int h
   ·rw [key_lr] at h; exact SeqAt.EqAt.int_str i t y u _ _ _ _ h
  ·rcases keyIs_shape hv with ⟨j, u, rfl, rfl⟩ | ⟨y, u, rfl, rfl⟩
   ·rw [key_rl] at h; exact SeqAt.EqAt.str_int x t j u _ _ _ _ h
   ·rw [key_rr] at h; exact wpAny_eqBool_str h
 «strs» := fun k x t v h => by
  rcases keyIs_shape h with ⟨i, u, rfl, e⟩ | ⟨y, u, rfl, e⟩
  ·exact nomatch e
  ·injection e with e1 _
   subst e1
   cases v <;> rfl
end L2
namespace L2
open PySem PySem.Spec PyProof.Rows
inductive V where
 | non | bl (b : Bool) | int (i : Int) | str (x : Str) | byt (b : Array UInt8) | flt (b : UInt64) | ref (a : Addr) | ty (n : String)
 deriving DecidableEq
def RelV : V → Value → Prop
 | .non, u => u = Value.none
 | .bl b, u => u = Value.bool b
 | .int i, u => ∃ t, u = Value.int i t
 | .str x, u => ∃ t, u = Value.str x t
 | .byt b, u => ∃ t, u = Value.bytes b t
 | .flt b, u => ∃ t, u = Value.float b t
 | .ref a, u => u = Value.ref a
 | .ty n, u => u = Value.type n
abbrev Vals : List V → List Value → Prop := Paired RelV
theorem Vals.length {xs : List V} {us : List Value} (r : Vals xs us) : xs.length = us.length := Paired.length r
theorem Vals.get : ∀ {xs : List V} {us : List Value} {i : Nat} {x : V}, Vals xs us → xs[i]? = some x → ∃ u, us[i]? = some u ∧ RelV x u
 | _, _, _, _, .nil, e => by simp at e
 | _, _, 0, _, .cons r _, e => by simp at e; subst e; exact ⟨_, rfl, r⟩
 | _, _, i + 1, x, .cons _ t, e => by
  obtain ⟨u, h1, h2⟩ := Vals.get (i := i) (x := x) t (by simpa using e)
  exact ⟨u, by simpa using h1, h2⟩
theorem Vals.set {x : V} {u : Value} (r : RelV x u) : ∀ {xs : List V} {us : List Value} (i : Nat), Vals xs us → Vals (xs.set i x) (us.set i u)
 | _, _, _, .nil => .nil
 | _, _, 0, .cons _ t => .cons r t
 | _, _, i + 1, .cons q t => .cons q (Vals.set r i t)
theorem Vals.append : ∀ {xs ys : List V} {us ws : List Value}, Vals xs us → Vals ys ws → Vals (xs ++ ys) (us ++ ws)
 | _, _, _, _, .nil, s => s
 | _, _, _, _, .cons r t, s => .cons r (Vals.append t s)
theorem Vals.take : ∀ {xs : List V} {us : List Value} (n : Nat), Vals xs us → Vals (xs.take n) (us.take n)
 | _, _, 0, _ => .nil
 | _, _, _ + 1, .nil => .nil
 | _, _, n + 1, .cons r t => .cons r (Vals.take n t)
theorem Vals.drop : ∀ {xs : List V} {us : List Value} (n : Nat), Vals xs us → Vals (xs.drop n) (us.drop n)
 | _, _, 0, r => r
 | _, _, _ + 1, .nil => .nil
 | _, _, n + 1, .cons _ t => Vals.drop n t
def RelO : Option V → Option Value → Prop
 | some v, some u => RelV v u
 | none, none => True
 | _, _ => False
def KV {κ : Type} : List (κ × V) → List (κ × Value) → Prop := Paired fun (p : κ × V) (q : κ × Value) => p.1 = q.1 ∧ RelV p.2 q.2
def kV : Key → V
 | .inl i => .int i
 | .inr x => .str x
inductive HO where
 | lst (xs : List V)
 | tup (xs : List V)
 | dK (kvs : List (Key × V)) | dT (kvs : List (List Key × V))
 | set (S : Int → Bool) (n : Nat)
 | ins (C dx : Addr) (fs : List (Str × V))
 | own (x : Addr)
 | xd (fs : List (Str × V))
 | met (f x : Addr)
 | rng (lo hi : Int)
 | frz (o : Obj) (u : HO)
 | tbl (ps : Array Value)
 | ext (φ : Heap → Prop)
abbrev Hp := Addr → Option HO
def upd (H : Hp) (a : Addr) (o : HO) : Hp := fun b => if b = a then some o else H b
theorem upd_same {H : Hp} {a : Addr} {o : HO} : upd H a o a = some o := by unfold upd; rw [if_pos rfl]
theorem upd_ne {H : Hp} {a b : Addr} {o : HO} (h : b ≠ a) : upd H a o b = H b := by unfold upd; rw [if_neg h]
theorem ne_of {H : Hp} {a b : Addr} {o u : HO} (h : H a = some o) (h' : H b = some u) (d : o ≠ u) : a ≠ b := by
 intro e; subst e; rw [h] at h'; exact d (Option.some.inj h')
theorem ne_of_none {H : Hp} {a b : Addr} {o : HO} (h : H a = some o) (h' : H b = none) : a ≠ b := by
 intro e; subst e; rw [h] at h'; cases h'
section
variable (P : Program) (w : World)
def ObjOk (H : Hp) (h : Heap) (a : Addr) : HO → Prop
 | .lst xs => xs.length ≤ sizeLine ∧ ∃ (its : List Value) (n : Nat), Vals xs its ∧ h.get? a = some { cls := .type "list", data := .seq its.toArray n }
 | .tup xs => xs.length ≤ sizeLine ∧ ∃ its : List Value, Vals xs its ∧ IsTup h a its.toArray
 | .dK kvs => kvs.length ≤ sizeLine ∧ (a == sysModules) = false ∧ ∃ vs, KV kvs vs ∧ h.DictOf (mixKind P w) a vs
 | .dT kvs => kvs.length ≤ sizeLine ∧ (a == sysModules) = false ∧ ∃ xs : List (List Key × Addr × Value),
   Paired (fun (p : List Key × V) (q : List Key × Addr × Value) => p.1 = q.1 ∧ H q.2.1 = some (.tup (p.1.map kV)) ∧ RelV p.2 q.2.2) kvs xs ∧
   ∃ o es ep, h.get? a = some o ∧ o.ExactDict ∧ o.data = .dict es ep ∧ es.toList = xs.map (entryOfKey (tupleKind (mixKind P w))) ∧ (xs.map (·.1)).Nodup
 | .set S n => h.SetOf (intKind P w) a S n
 | .ins C dx fs => H dx = some (.own a) ∧ fs.length ≤ 1000 ∧ dx ≠ a ∧ h.get? a = some (PySem.W.instObj C dx) ∧
   ∃ mA, h.Ns1 dx mA ∧ (∀ f, RelO (fs.lookup f) (mA f)) ∧ PySem.Within mA (fs.map (·.1))
 | .own _ => ∃ o, h.get? a = some o
 | .xd fs => ∃ mA, h.Ns1 a mA ∧ ∀ f, RelO (fs.lookup f) (mA f)
 | .rng lo hi => ∃ t u v, h.get? a = some { cls := .type "range", data := .fields #[.int lo t, .int hi u, .int 1 v] }
 | .frz o u => h.get? a = some o ∧ ObjOk H h a u
 | .tbl ps => h.get? a = some { cls := .none, data := .fields ps }
 | .met f x => h.get? a = some (PySem.W.methodObj (.ref f) (.ref x))
 | .ext φ => φ h ∧ (∃ o, h.get? a = some o) ∧ ∀ h1 h2 : Heap, φ h1 → (∀ o, h1.get? a = some o → h2.get? a = some o) → φ h2
def HOk (H : Hp) (h : Heap) : Prop := ∀ a o, H a = some o → ObjOk P w H h a o
end
section
variable {P : Program} {w : World} {H H' : Hp} {h h' : Heap} {a : Addr} {o : HO}
theorem ObjOk.lt (x : ObjOk P w H h a o) : a < h.objs.size := by
 cases o with
 | lst xs => obtain ⟨_, _, _, _, e⟩ := x; exact Heap.lt_size e
 | tup xs => obtain ⟨_, _, _, p⟩ := x; exact p.lt
 | dK kvs => obtain ⟨_, _, _, _, o, _, _, e, _⟩ := x; exact Heap.lt_size e
 | dT kvs => obtain ⟨_, _, _, _, o, _, _, e, _⟩ := x; exact Heap.lt_size e
 | set S n => obtain ⟨o, _, _, _, e, _⟩ := x; exact Heap.lt_size e
 | ins C dx fs => obtain ⟨_, _, _, e, _⟩ := x; exact Heap.lt_size e
 | own y => obtain ⟨_, e⟩ := x; exact Heap.lt_size e
 | xd fs => obtain ⟨_, ⟨_, _, _, e, _⟩, _⟩ := x; exact Heap.lt_size e
 | rng lo hi => obtain ⟨_, _, _, e⟩ := x; exact Heap.lt_size e
 | frz ob u => obtain ⟨e, _⟩ := x; exact Heap.lt_size e
 | tbl ps => exact Heap.lt_size (show h.get? a = some _ from x)
 | met f y => exact Heap.lt_size (show h.get? a = some _ from x)
 | ext φ => obtain ⟨_, ⟨_, e⟩, _⟩ := x; exact Heap.lt_size e
theorem Paired.mapP {α β : Type} {F G : α → β → Prop} : ∀ {l₁ : List α} {l₂ : List β}, Paired F l₁ l₂ → (∀ a b, F a b → G a b) → Paired G l₁ l₂
 | _, _, .nil, _ => .nil
 | _, _, .cons r t, f => .cons (f _ _ r) (Paired.mapP t f)
theorem ObjOk.stay (x : ObjOk P w H h a o) (k : ∀ b u, (b = a ∨ H b = some (.own a)) → h.get? b = some u → h'.get? b = some u)
  (ho : ∀ b, H b = some (.own a) → H' b = some (.own a)) (ht : ∀ b xs, H b = some (.tup xs) → H' b = some (.tup xs)) : ObjOk P w H' h' a o := by
 induction o with
 | lst xs => obtain ⟨z, its, n, r, e⟩ := x; exact ⟨z, its, n, r, k _ _ (.inl rfl) e⟩
 | tup xs => obtain ⟨z, its, r, ob, e, c⟩ := x; exact ⟨z, its, r, ob, k _ _ (.inl rfl) e, c⟩
 | dK kvs => obtain ⟨z, y, vs, r, ob, es, ep, e, c⟩ := x; exact ⟨z, y, vs, r, ob, es, ep, k _ _ (.inl rfl) e, c⟩
 | dT kvs =>
  obtain ⟨z, y, xs, r, ob, es, ep, e, c⟩ := x
  exact ⟨z, y, xs, Paired.mapP r fun p q z => ⟨z.1, ht _ _ z.2.1, z.2.2⟩, ob, es, ep, k _ _ (.inl rfl) e, c⟩
 | set S n => obtain ⟨ob, es, ep, t, e, c⟩ := x; exact ⟨ob, es, ep, t, k _ _ (.inl rfl) e, c⟩
 | ins C dx fs =>
  obtain ⟨d, z, ne, e, mA, ⟨od, es, ep, e2, c⟩, r⟩ := x
  exact ⟨ho _ d, z, ne, k _ _ (.inl rfl) e, mA, ⟨od, es, ep, k _ _ (.inr d) e2, c⟩, r⟩
 | own y => obtain ⟨ob, e⟩ := x; exact ⟨ob, k _ _ (.inl rfl) e⟩
 | xd fs => obtain ⟨mA, ⟨od, es, ep, e, c⟩, r⟩ := x; exact ⟨mA, ⟨od, es, ep, k _ _ (.inl rfl) e, c⟩, r⟩
 | rng lo hi => obtain ⟨t, u, v, e⟩ := x; exact ⟨t, u, v, k _ _ (.inl rfl) e⟩
 | frz ob u ih => obtain ⟨e, q⟩ := x; exact ⟨k _ _ (.inl rfl) e, ih q⟩
 | tbl ps =>
  have e : h.get? a = some { cls := .none, data := .fields ps } := x
  show h'.get? a = some { cls := .none, data := .fields ps }
  exact k a _ (.inl rfl) e
 | met f y =>
  have e : h.get? a = some (PySem.W.methodObj (.ref f) (.ref y)) := x
  show h'.get? a = some (PySem.W.methodObj (.ref f) (.ref y))
  exact k a _ (.inl rfl) e
 | ext φ => obtain ⟨p, ⟨o, e⟩, st⟩ := x; exact ⟨st _ _ p fun o q => k _ _ (.inl rfl) q, ⟨o, k _ _ (.inl rfl) e⟩, st⟩
theorem HOk.lt (x : HOk P w H h) (e : H a = some o) : a < h.objs.size := (x a o e).lt
theorem HOk.fresh (x : HOk P w H h) (e : h.objs.size ≤ a) : H a = none := by
 cases q : H a with
 | none => rfl
 | some u => exact absurd (Nat.lt_of_lt_of_le (x.lt q) e) (Nat.lt_irrefl _)
theorem HOk.kept (x : HOk P w H h) (k : ∀ b u, h.get? b = some u → h'.get? b = some u) : HOk P w H h' := fun a o e =>
 (x a o e).stay (fun b u _ q => k b u q) (fun _ q => q) fun _ _ q => q
theorem HOk.laid (x : HOk P w H h) (k : ∀ b u, h.get? b = some u → h'.get? b = some u) (hp : h.objs.size ≤ a) (new : ObjOk P w (upd H a o) h' a o) : HOk P w (upd H a o) h' := fun b u e => by
 have hn := x.fresh hp
 by_cases hb : b = a
 ·subst hb; rw [upd_same] at e; cases e; exact new
 ·rw [upd_ne hb] at e
  exact (x b u e).stay (fun c v _ q => k c v q) (fun c q => by rw [upd_ne (ne_of_none q hn)]; exact q) fun c xs q => by rw [upd_ne (ne_of_none q hn)]; exact q
end
def Rd (H : Hp) (a : Addr) (u : HO) : Prop := H a = some u ∨ ∃ o, H a = some (.frz o u)
theorem Rd.ok {P : Program} {w : World} {H : Hp} {h : Heap} {a : Addr} {u : HO} (r : Rd H a u) (x : HOk P w H h) : ObjOk P w H h a u := by
 rcases r with r | ⟨o, r⟩
 ·exact x a u r
 ·obtain ⟨_, q⟩ := x a _ r
  exact q
def Mut : Option HO → Prop
 | some (.lst _) => True
 | some (.dK _) => True
 | some (.dT _) => True
 | some (.set _ _) => True
 | some (.ins _ _ _) => True
 | some (.ext _) => True
 | _ => False
section
variable {P : Program} {w : World} {H : Hp} {h h' : Heap} {x e : Addr} {o' : HO}
theorem HOk.write (ok : HOk P w H h) (mu : Mut (H x)) (he : e = x ∨ H e = some (.own x)) (k : ∀ b u, b ≠ e → h.get? b = some u → h'.get? b = some u) (heo : ∃ u, h'.get? e = some u)
  (new : ObjOk P w (upd H x o') h' x o') : HOk P w (upd H x o') h' := fun b u q => by
 have nown : ∀ c y, H c = some (.own y) → c ≠ x := fun c y r z => by subst z; rw [r] at mu; exact mu
 have ntup : ∀ c xs, H c = some (.tup xs) → c ≠ x := fun c xs r z => by subst z; rw [r] at mu; exact mu
 by_cases hb : b = x
 ·subst hb; rw [upd_same] at q; cases q; exact new
 ·rw [upd_ne hb] at q
  by_cases hbe : b = e
  ·have q' : H b = some (.own x) := by
    rcases he with z | z
    ·exact absurd (hbe.trans z) hb
    ·rw [hbe]; exact z
   rw [q] at q'; cases q'
   obtain ⟨v, hv⟩ := heo
   exact ⟨v, by rw [hbe]; exact hv⟩
  ·refine (ok b u q).stay (fun c v hc r => k c v ?_ r) (fun c r => by rw [upd_ne (nown c b r)]; exact r) fun c xs r => by rw [upd_ne (ntup c xs r)]; exact r
   rcases hc with rfl | hc
   ·exact hbe
   ·rintro rfl
    rcases he with z | z
    ·exact nown c b hc z
    ·rw [hc] at z; cases z; exact hb rfl
end
structure Un (fs ex : List Addr) (H H' : Hp) (h h' : Heap) : Prop where
 keep : ∀ b o, h.get? b = some o → H b = none → b ∉ fs → b ∉ ex → h'.get? b = some o
 slot : ∀ b o, h.get? b = some o → H b = none → b ∈ fs → b ∉ ex → ∃ sl, h'.get? b = some { o with slots := sl }
 free : ∀ b o, h.get? b = some o → H b = none → b ∉ ex → H' b = none
 there : ∀ b o, h.get? b = some o → b ∉ ex → ∃ o', h'.get? b = some o'
 tups : ∀ b xs, H b = some (.tup xs) → H' b = some (.tup xs)
 frzs : ∀ b o u, H b = some (.frz o u) → H' b = some (.frz o u)
 tbls : ∀ b ps, H b = some (.tbl ps) → ∃ more, H' b = some (.tbl (ps ++ more))
section
variable {fs fs' ex ex' : List Addr} {H H1 H2 : Hp} {h h1 h2 h' : Heap} {a x e : Addr} {o : HO}
theorem Un.any (u : Un fs ex H H1 h h1) {b : Addr} {ob : Obj} (q : h.get? b = some ob) (n : H b = none) (hx : b ∉ ex) : ∃ sl, h1.get? b = some { ob with slots := sl } := by
 by_cases hb : b ∈ fs
 ·exact u.slot b ob q n hb hx
 ·exact ⟨ob.slots, u.keep b ob q n hb hx⟩
theorem Un.kept (k : ∀ b u, h.get? b = some u → h'.get? b = some u) : Un fs ex H H h h' :=
 ⟨fun b ob q _ _ _ => k b ob q, fun b ob q _ _ _ => ⟨ob.slots, k b ob q⟩, fun _ _ _ n _ => n, fun b ob q _ => ⟨ob, k b ob q⟩, fun _ _ q => q, fun _ _ _ q => q, fun _ ps q => ⟨#[], by rw [q]; simp⟩⟩
theorem Un.refl : Un fs ex H H h h := Un.kept fun _ _ q => q
theorem Un.laid (k : ∀ b u, h.get? b = some u → h'.get? b = some u) (hp : h.objs.size ≤ a) (hn : H a = none) : Un fs ex H (upd H a o) h h' where
 keep := fun b u q _ _ _ => k b u q
 slot := fun b u q _ _ _ => ⟨u.slots, k b u q⟩
 free := fun b u q n _ => by rw [upd_ne (Nat.ne_of_lt (Nat.lt_of_lt_of_le (Heap.lt_size q) hp))]; exact n
 there := fun b u q _ => ⟨u, k b u q⟩
 tups := fun b xs q => by rw [upd_ne (ne_of_none q hn)]; exact q
 frzs := fun b u xs q => by rw [upd_ne (ne_of_none q hn)]; exact q
 tbls := fun b ps q => ⟨#[], by rw [upd_ne (ne_of_none q hn), q]; simp⟩
theorem Un.write (mu : Mut (H x)) (he : e = x ∨ H e = some (.own x)) (k : ∀ b u, b ≠ e → h.get? b = some u → h'.get? b = some u) (heo : ∃ u, h'.get? e = some u) : Un fs ex H (upd H x o) h h' := by
 have hx : ∀ b, H b = none → b ≠ x := fun b n z => by subst z; rw [n] at mu; exact mu
 have hb : ∀ b, H b = none → b ≠ e := fun b n z => by
  subst z
  rcases he with r | r
  ·exact hx b n r
  ·rw [n] at r; cases r
 have hm : ∀ b u, H b = some u → ¬ Mut (some u) → b ≠ x := fun b u q nm z => by subst z; rw [q] at mu; exact nm mu
 refine ⟨fun b u q n _ _ => k b u (hb b n) q, fun b u q n _ _ => ⟨u.slots, k b u (hb b n) q⟩, fun b u q n _ => by rw [upd_ne (hx b n)]; exact n, fun b u q _ => ?_,
  fun b xs q => by rw [upd_ne (hm b _ q fun z => z)]; exact q, fun b u xs q => by rw [upd_ne (hm b _ q fun z => z)]; exact q, fun b ps q => ⟨#[], by rw [upd_ne (hm b _ q fun z => z), q]; simp⟩⟩
 by_cases hbe : b = e
 ·subst hbe; exact heo
 ·exact ⟨u, k b u hbe q⟩
end
def trk (h : Heap) (H : Hp) : List Addr := (List.range h.objs.size).filter fun a => (H a).isSome
def hidT (h : Heap) (H : Hp) : Heap := PySem.W.hideAll h (trk h H)
theorem hidT_size (h : Heap) (H : Hp) : (hidT h H).objs.size = h.objs.size := PySem.W.hideAll_size _ _
theorem hidT_get {h : Heap} {H : Hp} {b : Addr} {o : Obj} (e : h.get? b = some o) (n : H b = none) : (hidT h H).get? b = some o :=
 PySem.W.hideAll_get _ e fun hm => by
  have q : (H b).isSome = true := (List.mem_filter.mp hm).2
  rw [n] at q; simp at q
theorem of_hidT {h : Heap} {H : Hp} {b : Addr} {o : Obj} (e : (hidT h H).get? b = some o) : h.get? b = some o ∧ H b = none := by
 have e' : h.get? b = some o := PySem.W.of_hideAll (trk h H) e
 refine ⟨e', ?_⟩
 cases q : H b with
 | none => rfl
 | some x =>
  have hm : b ∈ trk h H := List.mem_filter.mpr ⟨List.mem_range.mpr (Heap.lt_size e'), by simp [q]⟩
  have z : (hidT h H).get? b = none := PySem.W.hideAll_none (trk h H) hm
  rw [z] at e; cases e
end L2
namespace L2
open PySem PySem.Spec PyProof.Rows
structure Mod (K : PySem.W.Frag) (mg : Str → Option Value) (base : Heap) : Prop where
 kin : K.In base
 glob : base.Ns mainGlobals mg
 blt : ∃ mb, base.Ns builtinsNs mb ∧ ∀ x : Str, x ≠ "__name__" → mb x = bootBuiltins x
 nolimit : base.NoLimit
structure Cx where
 prog : Program
 w : World
 K : PySem.W.Frag
 mg : Str → Option Value
 base : Heap
 A : Around
 N : List Str
 s_0 : Shared
 H_0 : Hp
 env : Env
 outer : List Env
 stack : List Env
 ex : List Addr
 fn : Str → Bool
 calm : Bool
 pn : List (Addr × Obj)
 xe : Value → Shared → Prop
def frs (l : List Env) : List Addr := l.filterMap (·.frame)
abbrev Cx.fs (X : Cx) : List Addr := frs X.outer
def Vis (sc : Scope) (x : Str) : Prop := sc.names.lookup x = some .local ∨ sc.names.lookup x = some .cell ∨ sc.names.lookup x = some .free
def Loc (sc : Scope) (x : Str) : Prop := sc.names.lookup x = some .local ∨ sc.names.lookup x = some .cell
def Look (env : Env) (h : Heap) (m : Str → Option Value) (x : Str) (u : Value) : Prop :=
 (env.kindOf x = some .local ∧ m x = some u) ∨ ((env.kindOf x = some .cell ∨ env.kindOf x = some .free) ∧ ∃ c, env.cells.lookup x = some c ∧ h.IsCell c (some u))
structure Cx.Ok (X : Cx) : Prop where
 mod : Mod X.K X.mg X.base
 kind : X.env.scope.kind = .function
 glob : X.env.globals = mainGlobals
 blt : X.env.builtins = builtinsNs
 above : X.s_0.heap.objs.size ≤ X.env.locals
 inj : ∀ x y c, X.env.cells.lookup x = some c → X.env.cells.lookup y = some c → x = y
 has : ∀ x, (X.env.kindOf x = some .cell ∨ X.env.kindOf x = some .free) → ∃ c, X.env.cells.lookup x = some c
 cab : ∀ x c, X.fn x = true → X.env.cells.lookup x = some c → X.s_0.heap.objs.size ≤ c
 hd : X.calm = true → X.A.handled = none
 frames : X.A.frames = some X.stack
 stk : X.stack = X.outer ∨ (X.stack = X.env :: X.outer ∧ X.env.frame = some X.env.locals)
 exf : ∀ b ∈ X.ex, b ≠ X.env.locals ∧ ∀ x c, X.env.cells.lookup x = some c → c ≠ b
 bs : ∀ b o, X.base.get? b = some o → X.s_0.heap.get? b = some o ∧ X.H_0 b = none
 bsz : X.base.objs.size ≤ X.s_0.heap.objs.size
 noex : ∀ b o, X.base.get? b = some o → b ∉ X.ex
 exfs : ∀ b ∈ X.ex, b ∉ X.fs
 funs : X.s_0.heap.FunFrames X.base X.outer
 frf : ∀ b ∈ X.fs, X.H_0 b = none
structure Inv (X : Cx) (pins : List (Addr × Obj)) (σ : List (Option V)) (H : Hp) (s : Shared) : Prop where
 ok : X.Ok
 os : s.os = X.s_0.os
 bare : AllBare s.gens
 base : Un X.fs X.ex X.H_0 H X.s_0.heap s.heap
 loc : ∃ m, s.heap.Ns X.env.locals m ∧ ∀ (i : Nat) (x : Str) (v : V), X.N[i]? = some x → σ[i]? = some (some v) → Vis X.env.scope x → ∃ u, RelV v u ∧ Look X.env s.heap m x u
 cell : ∀ x c, X.env.cells.lookup x = some c → ∃ v, s.heap.IsCell c v
 free : H X.env.locals = none
 freeC : ∀ x c, X.env.cells.lookup x = some c → H c = none
 pin : ∀ p ∈ X.pn ++ pins, s.heap.get? p.1 = some p.2 ∧ H p.1 = none ∧ p.1 ≠ X.env.locals ∧ p.1 ∉ X.fs ∧ ∀ v, p.2.data ≠ .cell v
 hok : HOk X.prog X.w H s.heap
 len : σ.length = X.N.length
section
variable {X : Cx} {pins : List (Addr × Obj)} {σ : List (Option V)} {H H' : Hp} {s : Shared} {h' : Heap}
theorem Cx.Ok.nofr (ok : X.Ok) {b : Addr} {o : Obj} (e : X.base.get? b = some o) : b ∉ X.fs := fun hb => by
 have := (ok.funs.mem hb).1
 rw [e] at this; cases this
theorem Inv.bs (I : Inv X pins σ H s) : ∀ b o, X.base.get? b = some o → s.heap.get? b = some o ∧ H b = none := fun b o e =>
 ⟨I.base.keep b o (I.ok.bs b o e).1 (I.ok.bs b o e).2 (I.ok.nofr e) (I.ok.noex b o e), I.base.free b o (I.ok.bs b o e).1 (I.ok.bs b o e).2 (I.ok.noex b o e)⟩
theorem Inv.bk (I : Inv X pins σ H s) : ∀ b o, X.base.get? b = some o → s.heap.get? b = some o := fun b o e => (I.bs b o e).1
theorem Inv.mod (I : Inv X pins σ H s) : Mod X.K X.mg X.base := I.ok.mod
theorem Inv.kIn (I : Inv X pins σ H s) : X.K.In s.heap := I.ok.mod.kin.keeps I.bk
theorem Inv.fr (I : Inv X pins σ H s) : ∃ m, Fr X.base X.env.locals s.heap m :=
 let ⟨m, hn, _⟩ := I.loc
 ⟨m, hn, I.bk, Nat.le_trans I.ok.bsz I.ok.above⟩
theorem Inv.lt (I : Inv X pins σ H s) : X.env.locals < s.heap.objs.size := let ⟨_, hn, _⟩ := I.loc; hn.lt
theorem Inv.sz (I : Inv X pins σ H s) : X.s_0.heap.objs.size ≤ s.heap.objs.size := Nat.le_trans I.ok.above (Nat.le_of_lt I.lt)
theorem Inv.nofs (I : Inv X pins σ H s) {a : Addr} (h : s.heap.objs.size ≤ a) : a ∉ X.fs := fun hb => by
 obtain ⟨_, o, ho, _⟩ := I.ok.funs.mem hb
 exact absurd (Nat.lt_of_lt_of_le (Heap.lt_size ho) (Nat.le_trans I.sz h)) (Nat.lt_irrefl _)
theorem Inv.cne (I : Inv X pins σ H s) : ∀ x c, X.env.cells.lookup x = some c → c ≠ X.env.locals := fun x c e z => by
 obtain ⟨v, o, ho, hd⟩ := I.cell x c e
 obtain ⟨m, ⟨o', es, ep, ho', hd', _⟩, _⟩ := I.loc
 rw [z, ho'] at ho; cases ho; rw [hd'] at hd; cases hd
theorem Inv.funs (I : Inv X pins σ H s) : s.heap.FunFrames X.base X.outer := by
 have all : ∀ (l : List Env), (∀ b ∈ frs l, b ∈ X.fs) → X.s_0.heap.FunFrames X.base l → s.heap.FunFrames X.base l := by
  intro l
  induction l with
  | nil => intro _ _; trivial
  | cons env r ih =>
   intro hs hl
   obtain ⟨hk, ⟨L, o, hf, hn, ho, hd⟩, hr⟩ := hl
   have hL : L ∈ X.fs := hs L (by unfold frs; rw [List.filterMap_cons, hf]; exact List.mem_cons_self)
   obtain ⟨sl, e⟩ := I.base.slot L o ho (I.ok.frf L hL) hL fun z => I.ok.exfs L z hL
   exact ⟨hk, ⟨L, _, hf, hn, e, hd⟩, ih (fun b hb => hs b (by unfold frs; rw [List.filterMap_cons, hf]; exact List.mem_cons_of_mem _ hb)) hr⟩
 exact all X.outer (fun _ hb => hb) I.ok.funs
theorem Inv.stack (I : Inv X pins σ H s) : s.heap.FunFrames X.base X.stack := by
 rcases I.ok.stk with e | ⟨e, hf⟩
 ·rw [e]; exact I.funs
 ·rw [e]
  obtain ⟨m, hn, _⟩ := I.loc
  refine .cons (by rw [I.ok.kind]; decide) hf hn ?_ I.funs
  exact Heap.get?_none_of_le (Nat.le_trans I.ok.bsz I.ok.above)
theorem Inv.stkSub (I : Inv X pins σ H s) : ∀ b ∈ frs X.stack, b ∈ X.env.locals :: X.fs := fun b hb => by
 rcases I.ok.stk with e | ⟨e, hf⟩
 ·rw [e] at hb; exact List.mem_cons_of_mem _ hb
 ·rw [e] at hb
  unfold frs at hb
  rw [List.filterMap_cons, hf] at hb
  exact hb
theorem Inv.stkFree (I : Inv X pins σ H s) : ∀ b ∈ frs X.stack, H b = none := fun b hb => by
 rcases List.mem_cons.mp (I.stkSub b hb) with e | hb
 ·rw [e]; exact I.free
 ·obtain ⟨_, o, ho, _⟩ := I.ok.funs.mem hb
  exact I.base.free b o ho (I.ok.frf b hb) fun z => I.ok.exfs b z hb
theorem Inv.step {g' : Array GenState} {t' : Nat} {d' : Drawn} {ch : List Addr} (I : Inv X pins σ H s)
  (hch : ∀ b ∈ ch, (b ∈ X.ex ∨ X.s_0.heap.objs.size ≤ b) ∧ b ≠ X.env.locals ∧ (∀ x c, X.env.cells.lookup x = some c → c ≠ b) ∧ ∀ p ∈ X.pn ++ pins, p.1 ≠ b)
  (keep : ∀ b o, b ≠ X.env.locals → b ∉ X.fs → b ∉ ch → s.heap.get? b = some o → H b = none → h'.get? b = some o)
  (slot : ∀ b o, b ≠ X.env.locals → b ∈ X.fs → b ∉ ch → s.heap.get? b = some o → H b = none → ∃ sl, h'.get? b = some { o with slots := sl }) (free : ∀ b o, b ∉ ch → s.heap.get? b = some o → H b = none → H' b = none)
  (there : ∀ b o, b ∉ ch → s.heap.get? b = some o → ∃ o', h'.get? b = some o')
  (tups : ∀ b xs, H b = some (.tup xs) → H' b = some (.tup xs)) (frzs : ∀ b o u, H b = some (.frz o u) → H' b = some (.frz o u)) (tbls : ∀ b ps, H b = some (.tbl ps) → ∃ more, H' b = some (.tbl (ps ++ more)))
  (ns : ∀ m, s.heap.Ns X.env.locals m → h'.Ns X.env.locals m) (hok : HOk X.prog X.w H' h') (hg : AllBare g') :
  Inv X pins σ H' { s with heap := h', gens := g', drawn := d', toks := t' } := by
 have neL : ∀ b o, X.s_0.heap.get? b = some o → b ≠ X.env.locals := fun b o e => Nat.ne_of_lt (Nat.lt_of_lt_of_le (Heap.lt_size e) I.ok.above)
 have neC : ∀ b o, X.s_0.heap.get? b = some o → b ∉ X.ex → b ∉ ch := fun b o e hx hb => by
  rcases (hch b hb).1 with z | z
  ·exact hx z
  ·exact absurd (Nat.lt_of_lt_of_le (Heap.lt_size e) z) (Nat.lt_irrefl _)
 have cellK : ∀ x c, X.env.cells.lookup x = some c → ∀ v, s.heap.IsCell c v → h'.IsCell c v := fun x c e v ⟨o, ho, hd⟩ => by
  have nch : c ∉ ch := fun z => (hch c z).2.2.1 x c e rfl
  by_cases hc : c ∈ X.fs
  ·obtain ⟨sl, q⟩ := slot c o (I.cne x c e) hc nch ho (I.freeC x c e)
   exact ⟨_, q, hd⟩
  ·exact ⟨o, keep c o (I.cne x c e) hc nch ho (I.freeC x c e), hd⟩
 refine ⟨I.ok, I.os, hg, ⟨fun b o e n hb hx => ?_, fun b o e n hb hx => ?_, fun b o e n hx => ?_, fun b o e hx => ?_, fun b xs e => tups b xs (I.base.tups b xs e), fun b o xs e => frzs b o xs (I.base.frzs b o xs e), fun b ps e => ?_⟩, ?_, fun x c e => ?_, ?_, fun x c e => ?_, fun p hp => ?_, hok, I.len⟩
 ·exact keep b o (neL b o e) hb (neC b o e hx) (I.base.keep b o e n hb hx) (I.base.free b o e n hx)
 ·obtain ⟨sl, e1⟩ := I.base.slot b o e n hb hx
  obtain ⟨sl', e2⟩ := slot b _ (neL b o e) hb (neC b o e hx) e1 (I.base.free b o e n hx)
  exact ⟨sl', e2⟩
 ·obtain ⟨o', e1⟩ := I.base.there b o e hx
  exact free b o' (neC b o e hx) e1 (I.base.free b o e n hx)
 ·obtain ⟨o', e1⟩ := I.base.there b o e hx
  exact there b o' (neC b o e hx) e1
 ·obtain ⟨m1, e1⟩ := I.base.tbls b ps e
  obtain ⟨m2, e2⟩ := tbls b _ e1
  exact ⟨m1 ++ m2, by rw [e2, Array.append_assoc]⟩
 ·obtain ⟨m, hn, hl⟩ := I.loc
  refine ⟨m, ns m hn, fun i x v e1 e2 e3 => ?_⟩
  obtain ⟨u, r, l⟩ := hl i x v e1 e2 e3
  refine ⟨u, r, ?_⟩
  rcases l with l | ⟨k, c, e, z⟩
  ·exact .inl l
  ·exact .inr ⟨k, c, e, cellK x c e _ z⟩
 ·obtain ⟨v, z⟩ := I.cell x c e
  exact ⟨v, cellK x c e v z⟩
 ·obtain ⟨m, ⟨o, _, _, ho, _⟩, _⟩ := I.loc
  exact free _ o (fun z => (hch _ z).2.1 rfl) ho I.free
 ·obtain ⟨v, o, ho, hd⟩ := I.cell x c e
  exact free c o (fun z => (hch c z).2.2.1 x c e rfl) ho (I.freeC x c e)
 ·obtain ⟨e, n, ne, nf, d⟩ := I.pin p hp
  have nch : p.1 ∉ ch := fun z => (hch p.1 z).2.2.2 p hp rfl
  exact ⟨keep p.1 p.2 ne nf nch e n, free p.1 p.2 nch e n, ne, nf, d⟩
theorem Inv.un {t' : Nat} (I : Inv X pins σ H s) (u : Un X.fs [] H H' s.heap h') (hok : HOk X.prog X.w H' h') : Inv X pins σ H' { s with heap := h', toks := t' } := by
 obtain ⟨m, ⟨o, es, ep, ho, r⟩, _⟩ := id I.loc
 obtain ⟨sl, hL⟩ := u.any ho I.free (by simp)
 exact I.step (g' := s.gens) (d' := s.drawn) (ch := []) (fun _ z => nomatch z) (fun b o _ hb _ e n => u.keep b o e n hb (by simp)) (fun b o _ hb _ e n => u.slot b o e n hb (by simp)) (fun b o _ e n => u.free b o e n (by simp)) (fun b o _ e => u.there b o e (by simp)) u.tups u.frzs u.tbls (fun m' hm => by
  obtain ⟨o', es', ep', ho', r'⟩ := hm
  rw [ho] at ho'; cases ho'
  exact ⟨_, es', ep', hL, r'⟩) hok I.bare
theorem Inv.call {g' : Array GenState} {t' : Nat} {d' : Drawn} {ch : List Addr} (I : Inv X pins σ H s) (u : Un (frs X.stack) ch H H' s.heap h') (hok : HOk X.prog X.w H' h') (hg : AllBare g')
  (hch : ∀ b ∈ ch, (b ∈ X.ex ∨ X.s_0.heap.objs.size ≤ b) ∧ b ≠ X.env.locals ∧ (∀ x c, X.env.cells.lookup x = some c → c ≠ b) ∧ ∀ p ∈ X.pn ++ pins, p.1 ≠ b) :
  Inv X pins σ H' { s with heap := h', gens := g', drawn := d', toks := t' } := by
 obtain ⟨m, ⟨o, es, ep, ho, r⟩, _⟩ := id I.loc
 obtain ⟨sl, hL⟩ := u.any ho I.free fun z => (hch _ z).2.1 rfl
 exact I.step (ch := ch) hch (fun b o hL hb hc e n => u.keep b o e n (fun z => (List.mem_cons.mp (I.stkSub b z)).elim hL hb) hc) (fun b o _ _ hc e n => u.any e n hc) (fun b o hc e n => u.free b o e n hc) (fun b o hc e => u.there b o e hc) u.tups u.frzs u.tbls (fun m' hm => by
  obtain ⟨o', es', ep', ho', r'⟩ := hm
  rw [ho] at ho'; cases ho'
  exact ⟨_, es', ep', hL, r'⟩) hok hg
theorem Inv.turned {t' : Nat} {it : Addr} (I : Inv X pins σ H s) (k : ∀ b o, b ≠ it → s.heap.get? b = some o → h'.get? b = some o) (hn : H it = none) (hL : it ≠ X.env.locals)
  (h1 : it ∈ X.ex ∨ X.s_0.heap.objs.size ≤ it) (h2 : ∀ x c, X.env.cells.lookup x = some c → c ≠ it) (h3 : ∀ p ∈ X.pn ++ pins, p.1 ≠ it) : Inv X pins σ H { s with heap := h', toks := t' } := by
 have nit : ∀ b u, H b = some u → b ≠ it := fun b u e z => by rw [z, hn] at e; cases e
 refine I.step (g' := s.gens) (d' := s.drawn) (ch := [it]) (fun b hb => ?_) (fun b o _ _ hc e _ => k b o (fun z => hc (by simp [z])) e) (fun b o _ _ hc e _ => ⟨o.slots, k b o (fun z => hc (by simp [z])) e⟩) (fun _ _ _ _ n => n)
  (fun b o hc e => ⟨o, k b o (fun z => hc (by simp [z])) e⟩) (fun _ _ e => e) (fun _ _ _ e => e) (fun b ps e => ⟨#[], by rw [e]; simp⟩) (fun m hm => ?_) (fun b u e => ?_) I.bare
 ·have e : b = it := by simpa using hb
  subst e
  exact ⟨h1, hL, h2, h3⟩
 ·obtain ⟨o, es, ep, ho, r⟩ := hm
  exact ⟨o, es, ep, k _ o (Ne.symm hL) ho, r⟩
 ·refine (I.hok b u e).stay (fun c v hc q => k c v ?_ q) (fun _ q => q) fun _ _ q => q
  rcases hc with z | z
  ·rw [z]; exact nit b u e
  ·exact nit c _ z
theorem Inv.tok (I : Inv X pins σ H s) (t : Nat) : Inv X pins σ H { s with toks := t } := I.un (h' := s.heap) (t' := t) Un.refl I.hok
theorem Inv.kept {t' : Nat} (I : Inv X pins σ H s) (k : ∀ b u, s.heap.get? b = some u → h'.get? b = some u) : Inv X pins σ H { s with heap := h', toks := t' } := I.un (Un.kept k) (I.hok.kept k)
theorem Inv.laid {a : Addr} {o : HO} {t' : Nat} (I : Inv X pins σ H s) (k : ∀ b u, s.heap.get? b = some u → h'.get? b = some u) (hp : s.heap.objs.size ≤ a) (new : ObjOk X.prog X.w (upd H a o) h' a o) :
  Inv X pins σ (upd H a o) { s with heap := h', toks := t' } := I.un (Un.laid k hp (I.hok.fresh hp)) (I.hok.laid k hp new)
theorem Inv.write {x e : Addr} {o : HO} {t' : Nat} (I : Inv X pins σ H s) (mu : Mut (H x)) (he : e = x ∨ H e = some (.own x)) (k : ∀ b u, b ≠ e → s.heap.get? b = some u → h'.get? b = some u) (heo : ∃ u, h'.get? e = some u)
  (new : ObjOk X.prog X.w (upd H x o) h' x o) : Inv X pins σ (upd H x o) { s with heap := h', toks := t' } := I.un (Un.write mu he k heo) (I.hok.write mu he k heo new)
theorem Inv.weak {σ' : List (Option V)} (I : Inv X pins σ H s) (hl : σ'.length = σ.length) (w : ∀ (i : Nat) v, σ'[i]? = some (some v) → σ[i]? = some (some v)) : Inv X pins σ' H s :=
 ⟨I.ok, I.os, I.bare, I.base, let ⟨m, hn, hl'⟩ := I.loc; ⟨m, hn, fun i x v e1 e2 e3 => hl' i x v e1 (w i v e2) e3⟩, I.cell, I.free, I.freeC, I.pin, I.hok, hl.trans I.len⟩
theorem Inv.pins_of {pins' : List (Addr × Obj)} (I : Inv X pins σ H s) (h : ∀ p ∈ pins', s.heap.get? p.1 = some p.2 ∧ H p.1 = none ∧ p.1 ≠ X.env.locals ∧ p.1 ∉ X.fs ∧ ∀ v, p.2.data ≠ .cell v) : Inv X pins' σ H s :=
 ⟨I.ok, I.os, I.bare, I.base, I.loc, I.cell, I.free, I.freeC, fun p hp => (List.mem_append.mp hp).elim (fun z => I.pin p (List.mem_append_left _ z)) (h p), I.hok, I.len⟩
theorem nodup_ix {N : List Str} (hN : N.Nodup) {i j : Nat} {x : Str} (a : N[i]? = some x) (b : N[j]? = some x) : i = j := by
 obtain ⟨h1, e1⟩ := List.getElem?_eq_some_iff.mp a
 obtain ⟨h2, e2⟩ := List.getElem?_eq_some_iff.mp b
 exact (List.getElem_inj hN).mp (e1.trans e2.symm)
theorem store_ok2 {M : Model} {A : Around} {E : Value → Shared → Prop} {i : Nat} {x : Str} {v : V} {u : Value} {Q : Unit → Shared → Prop} (I : Inv X pins σ H s) (hN : X.N.Nodup) (hi : X.N[i]? = some x) (hx : Loc X.env.scope x) (r : RelV v u)
  (h : ∀ s', Inv X pins (σ.set i (some v)) H s' → (∃ a, Heap.SameBut a s.heap s'.heap ∧ (a = X.env.locals ∨ X.env.cells.lookup x = some a)) → Q () s') (hf : X.fn x = true ∨ X.env.scope.names.lookup x = some .local := by first | exact .inl rfl | exact .inr rfl | assumption) : wpAny M A (storeName X.env x u) Q E s := by
 obtain ⟨m, hn, hl⟩ := id I.loc
 have hcls : (X.env.scope.kind == .class || (X.env.scope.kind == .module && X.env.locals != X.env.globals)) = false := by rw [I.ok.kind]; rfl
 have hiσ : i < σ.length := by rw [I.len]; exact (List.getElem?_eq_some_iff.mp hi).1
 have cne := I.cne
 have tracked : ∀ {a : Addr} {h' : Heap}, (∃ o, s.heap.get? a = some o ∧ H a = none) → Heap.SameBut a s.heap h' → HOk X.prog X.w H h' := fun {a h'} ha hs b ob e => by
  obtain ⟨_, _, hfree⟩ := ha
  refine (I.hok b ob e).stay (fun c w' hc q => (hs.2 c ?_).trans q) (fun _ q => q) fun _ _ q => q
  rintro rfl
  rcases hc with rfl | hc
  ·rw [hfree] at e; cases e
  ·rw [hfree] at hc; cases hc
 rcases hx with hk | hk
 ·refine wpAny_storeName_local hk hn (fun h' hn' hs => ?_) hcls
  obtain ⟨oL, _, _, hoL, _⟩ := id hn
  refine h _ ⟨I.ok, I.os, I.bare, ⟨fun b o e n hb hx => ?_, fun b o e n hb hx => ?_, I.base.free, fun b o e hx => ?_, I.base.tups, I.base.frzs, I.base.tbls⟩, ⟨_, hn', fun j y v' e1 e2 e3 => ?_⟩, fun y c e => ?_, I.free, I.freeC, fun p hp => ?_, tracked ⟨oL, hoL, I.free⟩ hs, by simpa using I.len⟩ ⟨_, hs, .inl rfl⟩
  ·exact (hs.2 b (Nat.ne_of_lt (Nat.lt_of_lt_of_le (Heap.lt_size e) I.ok.above))).trans (I.base.keep b o e n hb hx)
  ·obtain ⟨sl, e1⟩ := I.base.slot b o e n hb hx
   exact ⟨sl, (hs.2 b (Nat.ne_of_lt (Nat.lt_of_lt_of_le (Heap.lt_size e) I.ok.above))).trans e1⟩
  ·obtain ⟨o', e1⟩ := I.base.there b o e hx
   exact ⟨o', (hs.2 b (Nat.ne_of_lt (Nat.lt_of_lt_of_le (Heap.lt_size e) I.ok.above))).trans e1⟩
  ·by_cases hj : j = i
   ·subst hj
    rw [hi] at e1; cases e1
    rw [List.getElem?_set_self hiσ] at e2
    cases e2
    exact ⟨u, r, .inl ⟨hk, by simp⟩⟩
   ·rw [List.getElem?_set_ne (Ne.symm hj)] at e2
    obtain ⟨u', r', q⟩ := hl j y v' e1 e2 e3
    refine ⟨u', r', ?_⟩
    rcases q with ⟨k, e⟩ | ⟨k, c, e, z⟩
    ·refine .inl ⟨k, ?_⟩
     have : y ≠ x := fun e => hj (nodup_ix hN e1 (e ▸ hi))
     simp [this, e]
    ·exact .inr ⟨k, c, e, z.sameBut hs (cne y c e)⟩
  ·obtain ⟨w', z⟩ := I.cell y c e
   exact ⟨w', z.sameBut hs (cne y c e)⟩
  ·obtain ⟨e, n, ne, nf, d⟩ := I.pin p hp
   exact ⟨(hs.2 p.1 ne).trans e, n, ne, nf, d⟩
 ·have hfn : X.fn x = true := by
   rcases hf with z | z
   ·exact z
   ·rw [z] at hk; cases hk
  obtain ⟨c, hc⟩ := I.ok.has x (.inl hk)
  obtain ⟨w', z⟩ := I.cell x c hc
  refine wpAny_storeName_cell I.ok.kind hk hc z (fun h' hc' hs => ?_)
  obtain ⟨oc, hoc, hocd⟩ := id z
  refine h { s with heap := h' } ⟨I.ok, I.os, I.bare, ⟨fun b o e n hb hx => ?_, fun b o e n hb hx => ?_, I.base.free, fun b o e hx => ?_, I.base.tups, I.base.frzs, I.base.tbls⟩, ⟨m, hn.sameBut hs (Ne.symm (cne x c hc)), fun j y v' e1 e2 e3 => ?_⟩, fun y c' e => ?_, I.free, I.freeC, fun p hp => ?_, tracked ⟨oc, hoc, I.freeC x c hc⟩ hs, by simpa using I.len⟩ ⟨c, hs, .inr hc⟩
  ·exact (hs.2 b (Nat.ne_of_lt (Nat.lt_of_lt_of_le (Heap.lt_size e) (I.ok.cab x c hfn hc)))).trans (I.base.keep b o e n hb hx)
  ·obtain ⟨sl, e1⟩ := I.base.slot b o e n hb hx
   exact ⟨sl, (hs.2 b (Nat.ne_of_lt (Nat.lt_of_lt_of_le (Heap.lt_size e) (I.ok.cab x c hfn hc)))).trans e1⟩
  ·obtain ⟨o', e1⟩ := I.base.there b o e hx
   exact ⟨o', (hs.2 b (Nat.ne_of_lt (Nat.lt_of_lt_of_le (Heap.lt_size e) (I.ok.cab x c hfn hc)))).trans e1⟩
  ·by_cases hj : j = i
   ·subst hj
    rw [hi] at e1; cases e1
    rw [List.getElem?_set_self hiσ] at e2
    cases e2
    exact ⟨u, r, .inr ⟨.inl hk, c, hc, hc'⟩⟩
   ·rw [List.getElem?_set_ne (Ne.symm hj)] at e2
    obtain ⟨u', r', q⟩ := hl j y v' e1 e2 e3
    refine ⟨u', r', ?_⟩
    rcases q with q | ⟨k, c', e, z'⟩
    ·exact .inl q
    ·refine .inr ⟨k, c', e, z'.sameBut hs ?_⟩
     rintro rfl
     exact hj (nodup_ix hN e1 (I.ok.inj _ _ _ e hc ▸ hi))
  ·by_cases hcc : c' = c
   ·subst hcc; exact ⟨_, hc'⟩
   ·obtain ⟨w2, z2⟩ := I.cell y c' e
    exact ⟨w2, z2.sameBut hs hcc⟩
  ·obtain ⟨e, n, ne, nf, d⟩ := I.pin p hp
   refine ⟨(hs.2 p.1 ?_).trans e, n, ne, nf, d⟩
   intro q
   rw [q, hoc] at e
   have q' : oc = p.2 := Option.some.inj e
   exact d w' (by rw [← q']; exact hocd)
theorem store_ok {M : Model} {A : Around} {E : Value → Shared → Prop} {i : Nat} {x : Str} {v : V} {u : Value} {Q : Unit → Shared → Prop} (I : Inv X pins σ H s) (hN : X.N.Nodup) (hi : X.N[i]? = some x) (hx : Loc X.env.scope x) (r : RelV v u)
  (h : ∀ s', Inv X pins (σ.set i (some v)) H s' → Q () s') (hf : X.fn x = true ∨ X.env.scope.names.lookup x = some .local := by first | exact .inl rfl | exact .inr rfl | assumption) : wpAny M A (storeName X.env x u) Q E s :=
 store_ok2 I hN hi hx r (fun s' I' _ => h s' I') hf
theorem Inv.call' {s' : Shared} {ch : List Addr} (I : Inv X pins σ H s) (ho : s'.os = s.os) (u : Un (frs X.stack) ch H H' s.heap s'.heap) (hok : HOk X.prog X.w H' s'.heap) (hg : AllBare s'.gens)
  (hch : ∀ b ∈ ch, (b ∈ X.ex ∨ X.s_0.heap.objs.size ≤ b) ∧ b ≠ X.env.locals ∧ (∀ x c, X.env.cells.lookup x = some c → c ≠ b) ∧ ∀ p ∈ X.pn ++ pins, p.1 ≠ b) : Inv X pins σ H' s' := by
 obtain ⟨h', g', d', t', o'⟩ := s'
 have e : o' = s.os := ho
 subst e
 exact I.call (g' := g') (t' := t') (d' := d') u hok hg hch
end
abbrev XK := Value → Option Addr → Hp → Prop
abbrev St := List (Option V)
abbrev VK := V → Hp → Prop
abbrev TE := St → Hp → VK → Prop
abbrev TT := St → Hp → (Bool → Hp → Prop) → Prop
abbrev TA := St → Hp → (List V → Hp → Prop) → Prop
structure Ends where
 nx : St → Hp → Prop
 rt : VK
 bk : St → Hp → Prop := fun _ _ => False
 ct : St → Hp → Prop := fun _ _ => False
abbrev TS := Ends → St → Hp → Prop
def EP (X : Cx) (pins : List (Addr × Obj)) (σ : St) (Q : VK) (u : Value) (s' : Shared) : Prop := ∃ v H', Inv X pins σ H' s' ∧ RelV v u ∧ Q v H'
def TP (X : Cx) (pins : List (Addr × Obj)) (σ : St) (Q : Bool → Hp → Prop) (b : Bool) (s' : Shared) : Prop := ∃ H', Inv X pins σ H' s' ∧ Q b H'
def AP (X : Cx) (pins : List (Addr × Obj)) (σ : St) (Q : List V → Hp → Prop) (us : List Value) (s' : Shared) : Prop := ∃ vs H', Inv X pins σ H' s' ∧ Vals vs us ∧ Q vs H'
def SP (X : Cx) (pins : List (Addr × Obj)) (D : Ends) (f : Flow) (s' : Shared) : Prop :=
 match f with
 | .next => ∃ σ' H', Inv X pins σ' H' s' ∧ D.nx σ' H'
 | .brk => ∃ σ' H', Inv X pins σ' H' s' ∧ D.bk σ' H'
 | .cont => ∃ σ' H', Inv X pins σ' H' s' ∧ D.ct σ' H'
 | .ret u => ∃ v σ' H', Inv X pins σ' H' s' ∧ RelV v u ∧ D.rt v H'
def PE (X : Cx) (e : Expr) (t : TE) : Prop :=
 ∀ (pins : List (Addr × Obj)) (s : Shared) (σ : St) (H : Hp) (Q : VK), Inv X pins σ H s → t σ H Q → wpAny (model X.prog X.w) X.A (eval e X.env) (EP X pins σ Q) X.xe s
def PT (X : Cx) (e : Expr) (t : TT) : Prop :=
 ∀ (pins : List (Addr × Obj)) (s : Shared) (σ : St) (H : Hp) (Q : Bool → Hp → Prop), Inv X pins σ H s → t σ H Q → wpAny (model X.prog X.w) X.A (isTrue e X.env (eval e X.env)) (TP X pins σ Q) X.xe s
def PW (X : Cx) (e : Expr) (t : TT) : Prop :=
 ∀ (whole : Sem Value) (pins : List (Addr × Obj)) (s : Shared) (σ : St) (H : Hp) (Q : Bool → Hp → Prop), Inv X pins σ H s → t σ H Q → wpAny (model X.prog X.w) X.A (isTrue e X.env whole) (TP X pins σ Q) X.xe s
theorem PW.pt {X : Cx} {e : Expr} {t : TT} (h : PW X e t) : PT X e t := h _
def PA (X : Cx) (es : List Expr) (t : TA) : Prop :=
 ∀ (pos : Pos) (pins : List (Addr × Obj)) (s : Shared) (σ : St) (H : Hp) (Q : List V → Hp → Prop), Inv X pins σ H s → t σ H Q → wpAny (model X.prog X.w) X.A (spliced (backTo pos (starEach es X.env))) (AP X pins σ Q) X.xe s
def PS (X : Cx) (st : Stmt) (t : TS) : Prop :=
 ∀ (pins : List (Addr × Obj)) (s : Shared) (σ : St) (H : Hp) (D : Ends), Inv X pins σ H s → t D σ H → wpAny (model X.prog X.w) X.A (exec st X.env) (SP X pins D) X.xe s
def PSs (X : Cx) (st : List Stmt) (t : TS) : Prop :=
 ∀ (pins : List (Addr × Obj)) (s : Shared) (σ : St) (H : Hp) (D : Ends), Inv X pins σ H s → t D σ H → wpAny (model X.prog X.w) X.A (execs st X.env) (SP X pins D) X.xe s
theorem thn {α : Type} {t : Sem α} {Q Q' : α → Shared → Prop} {M : Model} {A : Around} {E : Value → Shared → Prop} {s : Shared} (h : wpAny M A t Q E s) (hQ : ∀ a s, Q a s → Q' a s) : wpAny M A t Q' E s := wpAny_mono h hQ fun _ _ x => x
end L2
namespace L2
open PySem PySem.Spec PyProof.Rows
section
variable {X : Cx}
theorem bin {a b : Expr} {ta tb : TE} (ha : PE X a ta) (hb : PE X b tb) {pins : List (Addr × Obj)} {s : Shared} {σ : St} {H : Hp} {R : V → V → Hp → Prop} (I : Inv X pins σ H s) (h : ta σ H fun x H1 => tb σ H1 fun y H2 => R x y H2)
  {α : Type} {Q : α → Shared → Prop} {f : Value → Value → Sem α}
  (hf : ∀ v u s2 x y H2, Inv X pins σ H2 s2 → RelV x v → RelV y u → R x y H2 → wpAny (model X.prog X.w) X.A (f v u) Q X.xe s2) :
  wpAny (model X.prog X.w) X.A (eval a X.env) (fun v s₁ => wpAny (model X.prog X.w) X.A (eval b X.env) (fun u s₂ => wpAny (model X.prog X.w) X.A (f v u) Q X.xe s₂) X.xe s₁) X.xe s := by
 refine thn (ha pins s σ H _ I h) fun v s1 ⟨x, H1, I1, r1, q1⟩ => ?_
 refine thn (hb pins s1 σ H1 _ I1 q1) fun u s2 ⟨y, H2, I2, r2, q2⟩ => ?_
 exact hf v u s2 x y H2 I2 r1 r2 q2
def tVar (i : Nat) : TE := fun σ H Q => ∃ v, σ[i]? = some (some v) ∧ Q v H
def tC (v : V) : TE := fun _ H Q => Q v H
theorem pe_var {i : Nat} {x : Str} {pos : Pos} (hN : X.N[i]? = some x) (hv : Vis X.env.scope x) (hd : (x == ("__debug__" : Str)) = false := by decide) (hcd : (x == ("__classdict__" : Str)) = false := by decide) : PE X (.Name x pos) (tVar i) := by
 intro pins s σ H Q I h
 obtain ⟨v, e, h⟩ := h
 obtain ⟨m, hn, hl⟩ := I.loc
 obtain ⟨u, r, l⟩ := hl i x v hN e hv
 have fin : EP X pins σ Q u s := ⟨v, H, I, r, h⟩
 rcases l with ⟨hk, hm⟩ | ⟨hk, c, hc, hcell⟩
 ·exact wpAny_Name (wpAny_loadName_local I.ok.kind hk hn hm fin) hd
 ·rcases hk with hk | hk
  ·exact wpAny_Name (wpAny_loadName_cell I.ok.kind hk hc hcell fin) hd
  ·exact wpAny_Name (wpAny_loadName_free I.ok.kind hk hc hcell fin hcd) hd
theorem pe_int {i j pos} : PE X (.Constant (.int i) j pos) (tC (.int i)) := fun _ _ _ H _ I h => wpAny_Constant_int ⟨.int i, H, I.tok _, ⟨_, rfl⟩, h⟩
theorem pe_non {j pos} : PE X (.Constant .none j pos) (tC .non) := fun _ _ _ H _ I h => Constant_none ⟨.non, H, I, rfl, h⟩
def Gl (X : Cx) (x : Str) : Prop := X.env.kindOf x = some .globalImplicit
theorem ld_glob {E : Value → Shared → Prop} {pins : List (Addr × Obj)} {s : Shared} {σ : St} {H : Hp} {x : Str} {u : Value} {pos : Pos} {Q : Value → Shared → Prop} (I : Inv X pins σ H s) (hg : Gl X x) (hm : X.mg x = some u) (h : Q u s)
  (hd : (x == ("__debug__" : Str)) = false := by decide) : wpAny (model X.prog X.w) X.A (eval (.Name x pos) X.env) Q E s :=
 Calls.Name_function_global I.ok.kind hg (Calls.loadGlobal_global (by rw [I.ok.glob]; exact I.mod.glob.keeps I.bk) hm h) hd
theorem ld_blt {E : Value → Shared → Prop} {pins : List (Addr × Obj)} {s : Shared} {σ : St} {H : Hp} {x : Str} {u : Value} {pos : Pos} {Q : Value → Shared → Prop} (I : Inv X pins σ H s) (hg : Gl X x) (hm : X.mg x = none) (hv : bootBuiltins x = some u) (h : Q u s)
  (hn : x ≠ "__name__" := by decide) (hd : (x == ("__debug__" : Str)) = false := by decide) : wpAny (model X.prog X.w) X.A (eval (.Name x pos) X.env) Q E s := by
 obtain ⟨mb, h1, h2⟩ := I.mod.blt
 exact Calls.Name_function_global I.ok.kind hg (Calls.loadGlobal_builtin (by rw [I.ok.glob]; exact I.mod.glob.keeps I.bk) hm (by rw [I.ok.blt]; exact h1.keeps I.bk) ((h2 x hn).trans hv) h) hd
theorem pe_glob {x : Str} {v : V} {u : Value} {pos : Pos} (hg : Gl X x) (hm : X.mg x = some u) (r : RelV v u) (hd : (x == ("__debug__" : Str)) = false := by decide) : PE X (.Name x pos) (tC v) :=
 fun _ _ _ H _ I h => ld_glob I hg hm ⟨v, H, I, r, h⟩ hd
variable {a b : Expr} {ta tb : TE} {pos : Pos}
def PC (X : Cx) (op : CmpOp) (a b : Expr) (t : TE) : Prop :=
 ∀ (pins : List (Addr × Obj)) (s : Shared) (σ : St) (H : Hp) (Q : VK), Inv X pins σ H s → t σ H Q →
  wpAny (model X.prog X.w) X.A (eval a X.env) (fun v s₁ => wpAny (model X.prog X.w) X.A (eval b X.env) (fun u s₂ => wpAny (model X.prog X.w) X.A (compareOp op v u) (EP X pins σ Q) X.xe s₂) X.xe s₁) X.xe s
theorem nobehind (b : Expr) {op : CmpOp} (h : op ≠ .In) (h2 : op ≠ .NotIn) : behindInMarks op b = false := by
 have e1 : (op == CmpOp.In) = false := by cases op <;> first | rfl | exact absurd rfl h
 have e2 : (op == CmpOp.NotIn) = false := by cases op <;> first | rfl | exact absurd rfl h2
 cases b <;> simp [behindInMarks, e1, e2]
def tB (t : TE) : TT := fun σ H Q => t σ H fun x H1 => ∃ c, x = .bl c ∧ Q c H1
theorem pt_cmp {op : CmpOp} {t : TE} (h : PC X op a b t) (h1 : behindInMarks op b = false := by first | exact nobehind _ (by decide) (by decide) | rfl) : PT X (.Compare a [op] [b] pos) (tB t) := by
 intro pins s σ H Q I hw
 refine wpAny_isTrue_Compare1 (thn (h pins s σ H _ I hw) fun v s1 h1 => thn h1 fun u s2 h2 => thn h2 fun c s3 ⟨x, H1, I1, r1, q1⟩ => ?_) h1
 obtain ⟨d, rfl, q⟩ := q1
 cases r1
 exact wpAny_truthy_bool ⟨H1, I1, q⟩
theorem pt_val {e : Expr} {t : TE} (h : PE X e t) (he : ∀ whole, isTrue e X.env whole = (do let v ← whole; standAt e.pos; holding [v] (truthy v)) := by intro _; rfl) : PT X e (tB t) := by
 intro pins s σ H Q I hw
 refine isTrue_plain (thn (h pins s σ H _ I hw) fun v s1 ⟨x, H1, I1, r1, q1⟩ => ?_) (he _)
 obtain ⟨d, rfl, q⟩ := q1
 cases r1
 exact wpAny_truthy_bool ⟨H1, I1, q⟩
variable {tA tB' : TT} {rest : List Expr}
def tAnd (t u : TT) : TT := fun σ H Q => t σ H fun c H1 => if c = true then u σ H1 Q else Q false H1
def tOr (t u : TT) : TT := fun σ H Q => t σ H fun c H1 => if c = true then Q true H1 else u σ H1 Q
def tNot (t : TT) : TT := fun σ H Q => t σ H fun c H1 => Q (!c) H1
theorem pw_and1 (ha : PT X a tA) : PW X (.BoolOp .And [a] pos) tA := by
 intro wh pins s σ H Q I h
 refine isTrue_and (thn (ha pins s σ H Q I h) fun c s1 e => ?_)
 cases c with
 | true => exact isTrue_and_nil e
 | false => exact e
theorem pw_or1 (ha : PT X a tA) : PW X (.BoolOp .Or [a] pos) tA := by
 intro wh pins s σ H Q I h
 refine isTrue_or (thn (ha pins s σ H Q I h) fun c s1 e => ?_)
 cases c with
 | false => exact isTrue_or_nil e
 | true => exact e
theorem pw_and (ha : PT X a tA) (hb : PW X (.BoolOp .And (b :: rest) pos) tB') : PW X (.BoolOp .And (a :: b :: rest) pos) (tAnd tA tB') := by
 intro wh pins s σ H Q I h
 refine isTrue_and (thn (ha pins s σ H _ I h) fun c s1 ⟨H1, I1, q1⟩ => ?_)
 cases c with
 | true => exact hb wh pins s1 σ H1 Q I1 q1
 | false => exact ⟨H1, I1, q1⟩
theorem pw_or (ha : PT X a tA) (hb : PW X (.BoolOp .Or (b :: rest) pos) tB') : PW X (.BoolOp .Or (a :: b :: rest) pos) (tOr tA tB') := by
 intro wh pins s σ H Q I h
 refine isTrue_or (thn (ha pins s σ H _ I h) fun c s1 ⟨H1, I1, q1⟩ => ?_)
 cases c with
 | true => exact ⟨H1, I1, q1⟩
 | false => exact hb wh pins s1 σ H1 Q I1 q1
theorem pt_not (ha : PT X a tA) : PT X (.UnaryOp .Not a pos) (tNot tA) := by
 intro pins s σ H Q I h
 exact isTrue_not (ha pins s σ H (fun c H1 => Q (!c) H1) I h)
def tAndV (ta tb : TE) : TE := fun σ H Q => ta σ H fun x H1 => ∃ c, x = .bl c ∧ if c = true then tb σ H1 Q else Q (.bl false) H1
def tOrV (ta tb : TE) : TE := fun σ H Q => ta σ H fun x H1 => ∃ c, x = .bl c ∧ if c = true then Q (.bl true) H1 else tb σ H1 Q
theorem pe_one {op} {t : TE} (h : PE X a t) : PE X (.BoolOp op [a] pos) t := fun pins s σ H Q I hw => BoolOp_one (h pins s σ H Q I hw)
theorem pe_and (ha : PE X a ta) (hb : PE X (.BoolOp .And (b :: rest) pos) tb) : PE X (.BoolOp .And (a :: b :: rest) pos) (tAndV ta tb) := by
 intro pins s σ H Q I h
 refine BoolOp_and (thn (ha pins s σ H _ I h) fun v s1 ⟨x, H1, I1, r1, q1⟩ => ?_)
 obtain ⟨c, rfl, q1⟩ := q1
 cases r1
 refine wpAny_truthy_bool ?_
 cases c with
 | true => exact hb pins s1 σ H1 Q I1 q1
 | false => exact ⟨.bl false, H1, I1, rfl, q1⟩
theorem pe_or (ha : PE X a ta) (hb : PE X (.BoolOp .Or (b :: rest) pos) tb) : PE X (.BoolOp .Or (a :: b :: rest) pos) (tOrV ta tb) := by
 intro pins s σ H Q I h
 refine BoolOp_or (thn (ha pins s σ H _ I h) fun v s1 ⟨x, H1, I1, r1, q1⟩ => ?_)
 obtain ⟨c, rfl, q1⟩ := q1
 cases r1
 refine wpAny_truthy_bool ?_
 cases c with
 | false => exact hb pins s1 σ H1 Q I1 q1
 | true => exact ⟨.bl true, H1, I1, rfl, q1⟩
def tIf (t : TT) (ta tb : TE) : TE := fun σ H Q => t σ H fun c H1 => if c = true then ta σ H1 Q else tb σ H1 Q
theorem pe_ifExp {c : Expr} (hc : PT X c tA) (ha : PE X a ta) (hb : PE X b tb) : PE X (.IfExp c a b pos) (tIf tA ta tb) := by
 intro pins s σ H Q I h
 refine wpAny_IfExp (thn (hc pins s σ H _ I h) fun d s1 ⟨H1, I1, q1⟩ => ?_)
 cases d with
 | true => exact ha pins s1 σ H1 Q I1 q1
 | false => exact hb pins s1 σ H1 Q I1 q1
end
end L2
namespace L2
open PySem PySem.Spec PyProof.Rows
def SqL (K : PySem.W.Frag) (H : Hp) (a : Addr) (xs : List V) : Prop :=
 Rd H a (.lst xs) ∨
  ∃ (o : Obj) (its : Array Value) (n : Nat), K.lookup a = some o ∧ o.cls = .type "list" ∧ o.dict = none ∧ o.data = .seq its n ∧ its.size ≤ sizeLine ∧ Vals xs its.toList
def SqT (K : PySem.W.Frag) (H : Hp) (a : Addr) (xs : List V) : Prop :=
 Rd H a (.tup xs) ∨
  ∃ (o : Obj) (its : Array Value) (n : Nat), K.lookup a = some o ∧ o.cls = .type "tuple" ∧ o.data = .seq its n ∧ its.size ≤ sizeLine ∧ Vals xs its.toList
def absV : Value → Option V
 | .none => some .non
 | .bool b => some (.bl b)
 | .int i _ => some (.int i)
 | .str x _ => some (.str x)
 | .bytes b _ => some (.byt b)
 | .float b _ => some (.flt b)
 | .ref a => some (.ref a)
 | .type n => some (.ty n)
 | _ => none
theorem RelV.abs {x : V} {u : Value} (r : RelV x u) : absV u = some x := by
 cases x with
 | non => cases r; rfl
 | bl _ => cases r; rfl
 | int _ => obtain ⟨t, rfl⟩ := r; rfl
 | str _ => obtain ⟨t, rfl⟩ := r; rfl
 | byt _ => obtain ⟨t, rfl⟩ := r; rfl
 | flt _ => obtain ⟨t, rfl⟩ := r; rfl
 | ref _ => cases r; rfl
 | ty _ => cases r; rfl
theorem RelV.inj {x y : V} {u : Value} (r : RelV x u) (q : RelV y u) : x = y := Option.some.inj (r.abs.symm.trans q.abs)
theorem Vals.inj : ∀ {xs ys : List V} {us : List Value}, Vals xs us → Vals ys us → xs = ys
 | _, _, _, .nil, .nil => rfl
 | _, _, _, .cons r t, .cons r' t' => by rw [r.inj r', Vals.inj t t']
section
variable {X : Cx} {pins : List (Addr × Obj)} {σ : St} {H : Hp} {s : Shared} {a : Addr} {xs ys : List V}
theorem SqL.of {K : PySem.W.Frag} (h : H a = some (.lst xs)) : SqL K H a xs := .inl (.inl h)
theorem SqT.of {K : PySem.W.Frag} (h : H a = some (.tup xs)) : SqT K H a xs := .inl (.inl h)
theorem Inv.list (I : Inv X pins σ H s) (h : SqL X.K H a xs) : ∃ its : List Value, Vals xs its ∧ PlainL s.heap a its.toArray ∧ xs.length ≤ sizeLine := by
 rcases h with h | ⟨o, its, n, hk, hc, hd, hs, hz, r⟩
 ·obtain ⟨z, its, n, r, e⟩ := h.ok I.hok
  exact ⟨its, r, ⟨_, n, e, rfl, rfl, rfl⟩, z⟩
 ·refine ⟨its.toList, r, ⟨o, n, I.kIn a o hk, hc, hd, by simpa using hs⟩, ?_⟩
  have e := r.length
  simp only [Array.length_toList] at e
  omega
theorem Inv.tuple (I : Inv X pins σ H s) (h : SqT X.K H a xs) : ∃ its : List Value, Vals xs its ∧ IsTup s.heap a its.toArray ∧ xs.length ≤ sizeLine := by
 rcases h with h | ⟨o, its, n, hk, hc, hs, hz, r⟩
 ·obtain ⟨z, its, r, p⟩ := h.ok I.hok
  exact ⟨its, r, p, z⟩
 ·refine ⟨its.toList, r, ⟨o, I.kIn a o hk, hc, n, by simpa using hs⟩, ?_⟩
  have e := r.length
  simp only [Array.length_toList] at e
  omega
theorem Inv.list_inj (I : Inv X pins σ H s) (h : SqL X.K H a xs) (h' : SqL X.K H a ys) : xs = ys := by
 obtain ⟨its, r, ⟨o, n, e, _, _, d⟩, _⟩ := I.list h
 obtain ⟨its', r', ⟨o', n', e', _, _, d'⟩, _⟩ := I.list h'
 rw [e] at e'; cases e'
 rw [d] at d'
 injection d' with d1 _
 have : its = its' := by simpa using congrArg Array.toList d1
 subst this
 exact r.inj r'
end
abbrev Cx.wish (X : Cx) (E : Value → Shared → Prop) : Cx := { X with xe := E }
abbrev Cx.nox (X : Cx) : Cx := X.wish fun _ _ => False
theorem Cx.Ok.wish {X : Cx} (ok : X.Ok) (E : Value → Shared → Prop) : (X.wish E).Ok :=
 ⟨ok.mod, ok.kind, ok.glob, ok.blt, ok.above, ok.inj, ok.has, ok.cab, ok.hd, ok.frames, ok.stk, ok.exf, ok.bs, ok.bsz, ok.noex, ok.exfs, ok.funs, ok.frf⟩
theorem Cx.Ok.unwish {X : Cx} {E : Value → Shared → Prop} (ok : (X.wish E).Ok) : X.Ok :=
 ⟨ok.mod, ok.kind, ok.glob, ok.blt, ok.above, ok.inj, ok.has, ok.cab, ok.hd, ok.frames, ok.stk, ok.exf, ok.bs, ok.bsz, ok.noex, ok.exfs, ok.funs, ok.frf⟩
section
variable {X : Cx} {pins : List (Addr × Obj)} {σ : St} {H : Hp} {s : Shared} {E : Value → Shared → Prop}
theorem Inv.wish (I : Inv X pins σ H s) (E : Value → Shared → Prop) : Inv (X.wish E) pins σ H s := ⟨I.ok.wish E, I.os, I.bare, I.base, I.loc, I.cell, I.free, I.freeC, I.pin, I.hok, I.len⟩
theorem Inv.unwish (I : Inv (X.wish E) pins σ H s) : Inv X pins σ H s := ⟨I.ok.unwish, I.os, I.bare, I.base, I.loc, I.cell, I.free, I.freeC, I.pin, I.hok, I.len⟩
theorem SP.unwish {D : Ends} {f : Flow} {s' : Shared} (h : SP (X.wish E) pins D f s') : SP X pins D f s' := by
 cases f with
 | next => obtain ⟨σ', H', I, q⟩ := h; exact ⟨σ', H', I.unwish, q⟩
 | brk => obtain ⟨σ', H', I, q⟩ := h; exact ⟨σ', H', I.unwish, q⟩
 | cont => obtain ⟨σ', H', I, q⟩ := h; exact ⟨σ', H', I.unwish, q⟩
 | ret u => obtain ⟨v, σ', H', I, r, q⟩ := h; exact ⟨v, σ', H', I.unwish, r, q⟩
theorem PSs.nox {st : List Stmt} {t : TS} (h : PSs X.nox st t) : PSs X st t := fun pins s σ H D I hw =>
 wpAny_mono (h pins s σ H D (I.wish _) hw) (fun _ _ q => q.unwish) fun _ _ z => False.elim z
end
section
variable {X : Cx} {st : Stmt} {rest : List Stmt} {t u : TS} {e : Expr} {te : TE} {pos : Pos}
def tNext : TS := fun D σ H => D.nx σ H
def tSeq (t u : TS) : TS := fun D σ H => t { D with nx := u D } σ H
theorem pss_nil : PSs X [] tNext := fun _ _ σ H _ I h => wpAny_execs_nil ⟨σ, H, I, h⟩
theorem pss_cons (h1 : PS X st t) (h2 : PSs X rest u) : PSs X (st :: rest) (tSeq t u) := by
 intro pins s σ H D I h
 refine wpAny_execs_cons (thn (h1 pins s σ H { D with nx := u D } I h) fun f s1 q => ?_)
 cases f with
 | next =>
  obtain ⟨σ', H', I', q⟩ := q
  exact h2 pins s1 σ' H' D I' q
 | ret v => exact q
 | brk => exact q
 | cont => exact q
theorem pss_one (h1 : PS X st t) : PSs X [st] t := by
 intro pins s σ H D I h
 refine wpAny_execs_cons (thn (h1 pins s σ H D I h) fun f s1 q => ?_)
 cases f with
 | next => exact wpAny_execs_nil q
 | ret v => exact q
 | brk => exact q
 | cont => exact q
theorem Inv.quiet {pins : List (Addr × Obj)} {σ : St} {H : Hp} {s : Shared} (I : Inv X pins σ H s) : interactive X.env = false := by simp [interactive, I.ok.kind]
def tDrop (te : TE) : TS := fun D σ H => te σ H fun _ H1 => D.nx σ H1
theorem ps_expr (he : PE X e te) (hs : swapsWith e none pos.line X.env = pure false := by rfl) : PS X (.Expr e pos) (tDrop te) := by
 intro pins s σ H D I h
 exact wpAny_Expr_any (thn (he pins s σ H _ I h) fun v s1 ⟨x, H1, I1, r1, q1⟩ => ⟨σ, H1, I1, q1⟩) I.quiet hs
def tRet (te : TE) : TS := fun D σ H => te σ H D.rt
theorem ps_ret (he : PE X e te) : PS X (.Return (some e) pos) (tRet te) := by
 intro pins s σ H D I h
 exact wpAny_Return_some (thn (he pins s σ H _ I h) fun v s1 ⟨x, H1, I1, r1, q1⟩ => ⟨x, σ, H1, I1, r1, q1⟩)
def tIfS (c : TT) (t u : TS) : TS := fun D σ H => c σ H fun b H1 => if b = true then t D σ H1 else u D σ H1
theorem ps_if {c : Expr} {a b : List Stmt} {tc : TT} (hc : PT X c tc) (ha : PSs X a t) (hb : PSs X b u) : PS X (.If c a b pos) (tIfS tc t u) := by
 intro pins s σ H D I h
 refine wpAny_If (thn (hc pins s σ H _ I h) fun d s1 ⟨H1, I1, q1⟩ => ?_)
 cases d with
 | true => exact ha pins s1 σ H1 D I1 q1
 | false => exact hb pins s1 σ H1 D I1 q1
end
abbrev TG := V → St → Hp → (St → Hp → Prop) → Prop
def PG (X : Cx) (target : Expr) (t : TG) : Prop :=
 ∀ (pins : List (Addr × Obj)) (s : Shared) (σ : St) (H : Hp) (v : V) (u : Value) (Q : St → Hp → Prop), Inv X pins σ H s → RelV v u → t v σ H Q →
  wpAny (model X.prog X.w) X.A (assign target X.env u) (fun _ s' => ∃ σ' H', Inv X pins σ' H' s' ∧ Q σ' H') X.xe s
abbrev TSet := V → V → V → Hp → (Hp → Prop) → Prop
def PSet (X : Cx) (t : TSet) : Prop :=
 ∀ (pins : List (Addr × Obj)) (s : Shared) (σ : St) (H : Hp) (o i v : V) (ov iv u : Value) (Q : Hp → Prop), Inv X pins σ H s → RelV o ov → RelV i iv → RelV v u → t o i v H Q →
  wpAny (model X.prog X.w) X.A (setItem ov iv u) (fun _ s' => ∃ H', Inv X pins σ H' s' ∧ Q H') X.xe s
abbrev TIp := V → V → Hp → VK → Prop
def PIp (X : Cx) (op : Operator) (t : TIp) : Prop :=
 ∀ (pins : List (Addr × Obj)) (s : Shared) (σ : St) (H : Hp) (x y : V) (v u : Value) (Q : VK), Inv X pins σ H s → RelV x v → RelV y u → t x y H Q →
  wpAny (model X.prog X.w) X.A (inplaceOp op v u) (EP X pins σ Q) X.xe s
section
variable {X : Cx} {pos : Pos}
def gName (i : Nat) : TG := fun v σ H Q => Q (σ.set i (some v)) H
theorem pg_name {i : Nat} {x : Str} (hN : X.N.Nodup) (hi : X.N[i]? = some x) (hx : Loc X.env.scope x) (hf : X.fn x = true ∨ X.env.scope.names.lookup x = some .local := by first | exact .inl rfl | exact .inr rfl | assumption) : PG X (.Name x pos) (gName i) := by
 intro pins s σ H v u Q I r h
 exact wpAny_assign_Name (store_ok I hN hi hx r (fun s' I' => ⟨_, H, I', h⟩) hf)
def gSub (to ti : TE) (t : TSet) : TG := fun v σ H Q => to σ H fun o H1 => ti σ H1 fun i H2 => t o i v H2 fun H3 => Q σ H3
theorem pg_sub {o i : Expr} {to ti : TE} {t : TSet} (ho : PE X o to) (hi : PE X i ti) (hs : PSet X t)
  (ha : ∀ v, assign (.Subscript o i pos) X.env v = (do
   let ov ← holding [v] (eval o X.env)
   let iv ← holding [v, ov] (eval i X.env)
   standAt pos
   holding [v, ov, iv] (setItem ov iv v)
   release [v, ov, iv] []) := by intro _; rfl) : PG X (.Subscript o i pos) (gSub to ti t) := by
 intro pins s σ H v u Q I r h
 rw [ha]
 refine wpAny_bind (wpAny_holding (thn (ho pins s σ H _ I h) fun ov s1 ⟨x, H1, I1, r1, q1⟩ => ?_))
 refine wpAny_bind (wpAny_holding (thn (hi pins s1 σ H1 _ I1 q1) fun iv s2 ⟨y, H2, I2, r2, q2⟩ => ?_))
 refine wpAny_bind (wpAny_standAt (wpAny_bind (wpAny_holding (thn (hs pins s2 σ H2 x y v ov iv u _ I2 r1 r2 r q2) fun _ s3 ⟨H3, I3, q3⟩ => ?_))))
 exact wpAny_release ⟨σ, H3, I3, q3⟩
def tAsg (te : TE) (g : TG) : TS := fun D σ H => te σ H fun x H1 => g x σ H1 D.nx
theorem ps_asg {tg e : Expr} {te : TE} {g : TG} (he : PE X e te) (hg : PG X tg g) (hs : swapsWithSole [tg] e pos.line X.env = pure false := by rfl) (hw : swappedStores [tg] e X.env = pure none := by rfl)
  (h1 : (assignEach [tg] X.env).map (·.2) = [assign tg X.env] := by rfl) : PS X (.Assign [tg] e pos) (tAsg te g) := by
 intro pins s σ H D I h
 refine wpAny_Assign_stores (thn (he pins s σ H _ I h) fun v s1 ⟨x, H1, I1, r1, q1⟩ => ?_) hs hw
 rw [h1]
 exact thn (hg pins s1 σ H1 x v _ I1 r1 q1) fun _ s2 q => q
theorem ps_set {i : Nat} {x : Str} {e : Expr} {te : TE} {pos' : Pos} (hN : X.N.Nodup) (hi : X.N[i]? = some x) (hx : Loc X.env.scope x) (he : PE X e te) (hs : swapsWith e (some (.Name x pos')) pos.line X.env = pure false := by rfl) (hf : X.fn x = true ∨ X.env.scope.names.lookup x = some .local := by first | exact .inl rfl | exact .inr rfl | assumption) :
  PS X (.Assign [.Name x pos'] e pos) (tAsg te (gName i)) := by
 intro pins s σ H D I h
 refine wpAny_Assign_Name (thn (he pins s σ H _ I h) fun v s1 ⟨y, H1, I1, r1, q1⟩ => ?_) hs
 exact store_ok I1 hN hi hx r1 (fun s2 I2 => ⟨_, H1, I2, q1⟩) hf
def tAug (i : Nat) (te : TE) (ti : TIp) : TS := fun D σ H => ∃ x, σ[i]? = some (some x) ∧ te σ H fun y H1 => ti x y H1 fun z H2 => D.nx (σ.set i (some z)) H2
theorem ps_aug {i : Nat} {x : Str} {e : Expr} {te : TE} {op : Operator} {ti : TIp} {pos' : Pos} (hN : X.N.Nodup) (hi : X.N[i]? = some x) (hx : Loc X.env.scope x) (he : PE X e te) (ho : PIp X op ti) (hf : X.fn x = true ∨ X.env.scope.names.lookup x = some .local := by first | exact .inl rfl | exact .inr rfl | assumption) :
  PS X (.AugAssign (.Name x pos') op e pos) (tAug i te ti) := by
 intro pins s σ H D I h
 obtain ⟨v, e1, h⟩ := h
 obtain ⟨m, hn, hl⟩ := I.loc
 have vis : Vis X.env.scope x := by rcases hx with k | k; exact .inl k; exact .inr (.inl k)
 obtain ⟨u, r, l⟩ := hl i x v hi e1 vis
 refine wpAny_AugAssign_Name ?_
 have go : wpAny (model X.prog X.w) X.A (eval e X.env) (fun w s₂ => wpAny (model X.prog X.w) X.A (inplaceOp op u w) (fun r s₃ => wpAny (model X.prog X.w) X.A (storeName X.env x r) (fun _ => SP X pins D .next) X.xe s₃) X.xe s₂) X.xe s := by
  refine thn (he pins s σ H _ I h) fun w s1 ⟨y, H1, I1, r1, q1⟩ => ?_
  refine thn (ho pins s1 σ H1 v y u w _ I1 r r1 q1) fun z s2 ⟨zv, H2, I2, r2, q2⟩ => ?_
  exact store_ok I2 hN hi hx r2 (fun s3 I3 => ⟨_, H2, I3, q2⟩) hf
 rcases l with ⟨hk, hm⟩ | ⟨hk, c, hc, hcell⟩
 ·exact wpAny_loadName_local I.ok.kind hk hn hm go
 ·rcases hk with hk | hk
  ·exact wpAny_loadName_cell I.ok.kind hk hc hcell go
  ·rcases hx with k | k
   ·have : X.env.scope.names.lookup x = some .free := hk
    rw [k] at this; cases this
   ·have : X.env.scope.names.lookup x = some .free := hk
    rw [k] at this; cases this
def ipI (f : Int → Int → Int) : TIp := fun x y H Q => ∃ i j, x = .int i ∧ y = .int j ∧ Q (.int (f i j)) H
theorem ip_add : PIp X .Add (ipI fun i j => i + j) := by
 intro pins s σ H x y v u Q I r1 r2 h
 obtain ⟨i, j, e1, e2, q⟩ := h
 subst e1; subst e2
 obtain ⟨t, rfl⟩ := r1
 obtain ⟨t', rfl⟩ := r2
 exact iadd_int ⟨.int _, H, I.tok _, ⟨_, rfl⟩, q⟩
theorem ip_sub : PIp X .Sub (ipI fun i j => i - j) := by
 intro pins s σ H x y v u Q I r1 r2 h
 obtain ⟨i, j, e1, e2, q⟩ := h
 subst e1; subst e2
 obtain ⟨t, rfl⟩ := r1
 obtain ⟨t', rfl⟩ := r2
 exact isub_int ⟨.int _, H, I.tok _, ⟨_, rfl⟩, q⟩
end
section
variable {X : Cx} {pos : Pos}
def tWhile (c : TT) (tb : TS) : TS := fun D σ H => ∃ W : Nat → St → Hp → Prop, (∃ m, W m σ H) ∧ ∀ m σ H, W m σ H →
 c σ H fun b H1 => if b = true then ∃ N : St → Hp → Prop, (∀ σ' H', N σ' H' → ∃ m', m' < m ∧ W m' σ' H') ∧ tb { D with nx := N, ct := N, bk := D.nx } σ H1 else D.nx σ H1
theorem ps_while {c : Expr} {body : List Stmt} {tc : TT} {tb : TS} (hp : PassesOwn (model X.prog X.w) X.A X.env X.xe) (hc : PT X c tc) (hb : PSs X body tb) : PS X (.While c body [] pos) (tWhile tc tb) := by
 intro pins s σ H D I h
 obtain ⟨W, ⟨m0, w0⟩, turn⟩ := h
 refine wpAny_While (codeAny_whileLoop (fun n s' => ∃ σ' H', Inv X pins σ' H' s' ∧ W n σ' H') ?_ m0 ⟨σ, H, I, w0⟩)
 rintro n s1 ⟨σ1, H1, I1, w1⟩
 refine wpAny_passesOwn hp (thn (hc pins s1 σ1 H1 _ I1 (turn n σ1 H1 w1)) fun b s2 ⟨H2, I2, q2⟩ => ?_)
 cases b with
 | true =>
  obtain ⟨N, hN, q2⟩ := q2
  rw [if_pos rfl]
  refine wpAny_passesOwn hp (thn (hb pins s2 σ1 H2 _ I2 q2) fun f s3 q3 => ?_)
  cases f with
  | next =>
   obtain ⟨σ3, H3, I3, n3⟩ := q3
   obtain ⟨m', hm, w3⟩ := hN σ3 H3 n3
   exact ⟨m', hm, σ3, H3, I3, w3⟩
  | cont =>
   obtain ⟨σ3, H3, I3, n3⟩ := q3
   obtain ⟨m', hm, w3⟩ := hN σ3 H3 n3
   exact ⟨m', hm, σ3, H3, I3, w3⟩
  | brk => exact q3
  | ret v => exact q3
 | false =>
  rw [if_neg Bool.false_ne_true]
  exact wpAny_execs_nil ⟨σ1, H2, I2, q2⟩
end
structure It where
 go : Nat → Hp → Prop
 yld : Nat → Hp → V → Hp → Prop
 stop : Nat → Hp → Prop
def FpOk (X : Cx) (pins : List (Addr × Obj)) (H : Hp) (b : Addr) : Prop :=
 H b = none ∧ b ≠ X.env.locals ∧ b ∉ X.fs ∧ (b ∈ X.ex ∨ X.s_0.heap.objs.size ≤ b) ∧ (∀ x c, X.env.cells.lookup x = some c → c ≠ b) ∧ ∀ p ∈ X.pn ++ pins, p.1 ≠ b
theorem Inv.fpOk {X : Cx} {pins : List (Addr × Obj)} {σ : St} {H H' : Hp} {s : Shared} {b : Addr} (I : Inv X pins σ H s) (hb : s.heap.objs.size ≤ b) (hn : H' b = none) : FpOk X pins H' b := by
 refine ⟨hn, Nat.ne_of_gt (Nat.lt_of_lt_of_le I.lt hb), I.nofs hb, .inr (Nat.le_trans I.sz hb), fun x c e z => ?_, fun p hp z => ?_⟩
 ·obtain ⟨v, q⟩ := I.cell x c e
  exact absurd (Nat.lt_of_lt_of_le q.lt (by rw [z]; exact hb)) (Nat.lt_irrefl _)
 ·exact absurd (Nat.lt_of_lt_of_le (Heap.lt_size (I.pin p hp).1) (by rw [z]; exact hb)) (Nat.lt_irrefl _)
structure Turn (P : Program) (w : World) (K : PySem.W.Frag) (tg : Expr) (J : It) (fp : List Addr) (it : Addr) (tn : Nat → Heap → Prop) : Prop where
 mem : it ∈ fp
 obj : ∀ i h, tn i h → ∀ b ∈ fp, ∃ o, h.get? b = some o ∧ ∀ v, o.data ≠ .cell v
 keep : ∀ i h h', tn i h → (∀ b ∈ fp, ∀ o, h.get? b = some o → h'.get? b = some o) → tn i h'
 item : ∀ (X : Cx), X.prog = P → X.w = w → X.K = K → X.calm = true → ∀ (i : Nat) (pins : List (Addr × Obj)) (s : Shared) (σ : St) (H : Hp) (E : Value → Shared → Prop), Inv X pins σ H s → (∀ b ∈ fp, FpOk X pins H b) → tn i s.heap → J.go i H →
  wpAny (model P w) X.A (pyNext (.ref it)) (fun r s1 => ∃ u, r = some u ∧
   wpAny (model P w) X.A (letOwnedTupleGo tg (.ref it) u) (fun _ s2 => ∃ x H', Inv X pins σ H' s2 ∧ RelV x u ∧ J.yld i H x H' ∧ tn (i + 1) s2.heap ∧ ∀ b ∈ fp, H' b = none) E s1) E s
 done : ∀ (X : Cx), X.prog = P → X.w = w → X.K = K → X.calm = true → ∀ (i : Nat) (pins : List (Addr × Obj)) (s : Shared) (σ : St) (H : Hp) (E : Value → Shared → Prop), Inv X pins σ H s → (∀ b ∈ fp, FpOk X pins H b) → tn i s.heap → J.stop i H →
  wpAny (model P w) X.A (pyNext (.ref it)) (fun r s1 => r = none ∧ Inv X pins σ H s1) E s
 self : ∀ (A : Around) (i : Nat) (s : Shared) (Q : Value → Shared → Prop) (E : Value → Shared → Prop), tn i s.heap → Q (.ref it) s → wpAny (model P w) A (pyIter (.ref it)) Q E s
abbrev TI := St → Hp → (It → Hp → Prop) → Prop
def PIE (X : Cx) (pins : List (Addr × Obj)) (σ : St) (tg : Expr) (R : It → Hp → Prop) (itv : Value) (s2 : Shared) : Prop :=
 ∃ (it : Addr) (fp : List Addr) (tn : Nat → Heap → Prop) (J : It) (H' : Hp), itv = .ref it ∧ Inv X pins σ H' s2 ∧ Turn X.prog X.w X.K tg J fp it tn ∧ tn 0 s2.heap ∧ (∀ b ∈ fp, FpOk X pins H' b) ∧ R J H'
def PI (X : Cx) (tg iter : Expr) (wi : TI) : Prop :=
 ∀ (pins : List (Addr × Obj)) (s : Shared) (σ : St) (H : Hp) (R : It → Hp → Prop), Inv X pins σ H s → wi σ H R →
  wpAny (model X.prog X.w) X.A (eval iter X.env) (fun v s1 => wpAny (model X.prog X.w) X.A (pyIter v) (PIE X pins σ tg R) X.xe s1) X.xe s
theorem go_of {M : Model} {A : Around} {E : Value → Shared → Prop} {s : Shared} {tg : Expr} {it : Addr} {u : Value} {o : Obj} {n : String} {vs : Array Value} {Q : Unit → Shared → Prop} (ho : s.heap.get? it = some o) (hc : o.cls = .type n) (hd : o.data = .fields vs)
  (hn : ["enumerate", "zip", "dict_itemiterator", "dict_reverseitemiterator", "odict_iterator", "itertools.zip_longest", "itertools.pairwise"].contains n = false) (hQ : Q () s) : wpAny M A (letOwnedTupleGo tg (.ref it) u) Q E s := by
 unfold letOwnedTupleGo
 cases tg <;> first
  | exact wpAny_pure hQ
  | (cases u <;> first
    | exact wpAny_pure hQ
    | (refine wpAny_bind (wpAny_load ho ?_)
       rw [hc, hd]
       show wpAny M A (if (["enumerate", "zip", "dict_itemiterator", "dict_reverseitemiterator", "odict_iterator", "itertools.zip_longest", "itertools.pairwise"].contains n && vs[0]? == some (rawInt _)) = true then _ else _) Q E s
       rw [if_neg (by intro h; rw [hn, Bool.false_and] at h; cases h)]
       exact wpAny_pure hQ))
def Itl (K : PySem.W.Frag) (a : Addr) : It :=
 ⟨fun i H => ∃ xs x, SqL K H a xs ∧ xs[i]? = some x, fun i H x H' => H' = H ∧ ∀ xs, SqL K H a xs → xs[i]? = some x, fun i H => ∃ xs, SqL K H a xs ∧ xs.length ≤ i⟩
def Itr (lo : Int) (n : Nat) : It := ⟨fun i _ => i < n, fun i H x H' => H' = H ∧ x = .int (lo + i), fun i _ => n ≤ i⟩
theorem turn_list {P : Program} {w : World} {K : PySem.W.Frag} {tg : Expr} (a it : Addr) : Turn P w K tg (Itl K a) [it] it (fun i h => h.IsListIter it a i) where
 mem := by simp
 obj := fun i h st b hb => by
  have e : b = it := by simpa using hb
  subst e
  obtain ⟨o, e, c, d⟩ := st
  exact ⟨o, e, fun v z => by rw [d] at z; cases z⟩
 keep := fun i h h' st k => st.at fun o e => k it (by simp) o e
 item := by
  intro X hP hw hK hc i pins s σ H E I hf st hg
  subst hP hw hK
  obtain ⟨xs, x, hq, hx⟩ := hg
  obtain ⟨its, rv, p, hz⟩ := I.list hq
  obtain ⟨u, hu, ru⟩ := rv.get hx
  obtain ⟨f0, f1, f2, f3, f4, f5⟩ := hf it (by simp)
  refine wpAny_pyNext_list_item st p.isList (x := u) (by simpa using hu) fun h' st' sb => ?_
  have I1 : Inv X pins σ H { s with heap := h' } := I.turned (t' := s.toks) (fun b o hb e => (sb.2 b hb).trans e) f0 f1 f3 f4 f5
  obtain ⟨o, e, c, d⟩ := id st'
  exact ⟨u, rfl, go_of (s := { s with heap := h' }) e c d (by decide) ⟨x, H, I1, ru, ⟨rfl, fun ys hy => by rw [I.list_inj hy hq]; exact hx⟩, st', fun b hb => (hf b hb).1⟩⟩
 done := by
  intro X hP hw hK hc i pins s σ H E I hf st hg
  subst hP hw hK
  obtain ⟨xs, hq, hx⟩ := hg
  obtain ⟨its, rv, p, hz⟩ := I.list hq
  obtain ⟨f0, f1, f2, f3, f4, f5⟩ := hf it (by simp)
  have hl := rv.length
  exact wpAny_pyNext_list_end (I.ok.hd hc) st p.isList (by simp; omega) fun h' eb => ⟨rfl, I.turned (t' := s.toks) (fun b o hb e => eb b o hb e) f0 f1 f3 f4 f5⟩
 self := fun _ _ _ _ _ st h => wpAny_pyIter_listiter st h
theorem turn_range {P : Program} {w : World} {K : PySem.W.Frag} {tg : Expr} (it : Addr) (lo : Int) (n : Nat) : Turn P w K tg (Itr lo n) [it] it (fun i h => IsRangeIter h it (lo + (i : Nat) * 1) ((n : Int) - (i : Nat)) 1) where
 mem := by simp
 obj := fun i h st b hb => by
  have e : b = it := by simpa using hb
  subst e
  exact ⟨_, st, fun v z => by
   have z' : Data.fields _ = Data.cell v := z
   cases z'⟩
 keep := fun i h h' st k => k it (by simp) _ st
 item := by
  intro X hP hw hK hc i pins s σ H E I hf st hg
  subst hP hw hK
  obtain ⟨f0, f1, f2, f3, f4, f5⟩ := hf it (by simp)
  have W := Walks.range (prog := X.prog) (w := X.w) (I.ok.hd hc) it lo 1 n
  refine W.item i s _ _ hg st fun v h' tk hv st' kk => ?_
  obtain ⟨t, rfl⟩ := hv
  have I1 : Inv X pins σ H { s with heap := h', toks := tk } := I.turned (fun b o hb e => kk b o (by simpa using hb) e) f0 f1 f3 f4 f5
  refine ⟨_, rfl, go_of (s := { s with heap := h', toks := tk }) (n := "range_iterator") st' rfl rfl (by decide) ⟨.int (lo + i), H, I1, ⟨t, ?_⟩, ⟨rfl, rfl⟩, st', fun b hb => (hf b hb).1⟩⟩
  rw [Int.mul_one]
 done := by
  intro X hP hw hK hc i pins s σ H E I hf st hg
  subst hP hw hK
  obtain ⟨f0, f1, f2, f3, f4, f5⟩ := hf it (by simp)
  exact wpAny_pyNext_range_end (I.ok.hd hc) st (by have : n ≤ i := hg; omega) fun h' eb => ⟨rfl, I.turned (t' := s.toks) (fun b o hb e => eb b o hb e) f0 f1 f3 f4 f5⟩
 self := fun _ _ _ _ _ st h => wpAny_pyIter_rangeiter st h
end L2
namespace L2
open PySem PySem.Spec PyProof.Rows
section
variable {X : Cx} {tg : Expr}
def iList (K : PySem.W.Frag) (tl : TE) : TI := fun σ H R => tl σ H fun x H1 => ∃ a, x = .ref a ∧ (∃ xs, SqL K H1 a xs) ∧ R (Itl K a) H1
theorem pi_list {l : Expr} {tl : TE} (hl : PE X l tl) : PI X tg l (iList X.K tl) := by
 intro pins s σ H R I h
 refine thn (hl pins s σ H _ I h) fun v s1 ⟨x, H1, I1, r1, q1⟩ => ?_
 obtain ⟨a, e, ⟨xs, hq⟩, q⟩ := q1
 subst e
 cases r1
 obtain ⟨its, rv, p, hz⟩ := I1.list hq
 refine wpAny_pyIter_list p.isList ?_
 refine ⟨s1.heap.objs.size, [s1.heap.objs.size], _, _, H1, rfl, I1.kept (t' := s1.toks) fun b o e => Heap.get?_push_of_some _ e, turn_list a _, ⟨_, Heap.get?_push_size _ rfl, rfl, rfl⟩, fun b hb => ?_, q⟩
 have e : b = s1.heap.objs.size := by simpa using hb
 subst e
 exact I1.fpOk (Nat.le_refl _) (I1.hok.fresh (Nat.le_refl _))
theorem range_it {pins : List (Addr × Obj)} {σ : St} {H : Hp} {s : Shared} {R : It → Hp → Prop} {E : Value → Shared → Prop} {lo hi : Int} {t u v : Tok} {tk : Nat} (I : Inv X pins σ H s) (h1 : -(2 ^ 62) ≤ lo) (h2 : lo < 2 ^ 62) (h3 : -(2 ^ 62) ≤ hi) (h4 : hi < 2 ^ 62)
  (q : R (Itr lo (hi - lo).toNat) H) : wpAny (model X.prog X.w) X.A (pyIter (.ref s.heap.objs.size)) (PIE X pins σ tg R) E { s with heap := s.heap.push { cls := .type "range", data := .fields #[.int lo t, .int hi u, .int 1 v] }, toks := tk } := by
 refine wpAny_pyIter_range (IsRange.new ..) (small_one h1 h2 h3 h4) ?_
 have I1 : Inv X pins σ H { s with heap := s.heap.push { cls := .type "range", data := .fields #[.int lo t, .int hi u, .int 1 v] }, toks := tk } := I.kept fun b o e => Heap.get?_push_of_some _ e
 refine ⟨(s.heap.push { cls := .type "range", data := .fields #[.int lo t, .int hi u, .int 1 v] }).objs.size, [(s.heap.push { cls := .type "range", data := .fields #[.int lo t, .int hi u, .int 1 v] }).objs.size], _, _, H, rfl,
  I1.kept (t' := tk) fun b o e => Heap.get?_push_of_some _ e, turn_range _ lo (hi - lo).toNat, ?_, fun b hb => ?_, q⟩
 ·have e1 : lo + ((0 : Nat) : Int) * 1 = lo := by simp
  have e2 : (((hi - lo).toNat : Nat) : Int) - ((0 : Nat) : Int) = Builtin.Range.rangeSize lo hi 1 := by rw [rangeSize_one]; split <;> omega
  show IsRangeIter _ _ (lo + ((0 : Nat) : Int) * 1) ((((hi - lo).toNat : Nat) : Int) - ((0 : Nat) : Int)) 1
  rw [e1, e2]
  exact Heap.get?_push_size _ rfl
 ·have e : b = (s.heap.push { cls := .type "range", data := .fields #[.int lo t, .int hi u, .int 1 v] }).objs.size := by simpa using hb
  subst e
  exact I1.fpOk (Nat.le_refl _) (I1.hok.fresh (Nat.le_refl _))
def iRng1 (ta : TA) : TI := fun σ H R => ta σ H fun vs H1 => ∃ j : Int, vs = [.int j] ∧ -(2 ^ 62) ≤ j ∧ j < 2 ^ 62 ∧ R (Itr 0 j.toNat) H1
theorem pi_range1 {a : Expr} {ta : TA} {p pos : Pos} (hg : Gl X "range") (hm : X.mg "range" = none) (ha : PA X [a] ta) (hs : starEach [a] X.env = [(false, eval a X.env)] := by rfl) : PI X tg (.Call (.Name "range" p) [a] [] pos) (iRng1 ta) := by
 intro pins s σ H R I h
 refine Call_ (ld_blt I hg hm boot_range (PyProof.Rows.callWith_type1 (thn (ha pos pins s σ H _ I h) fun us s1 ⟨vs, H1, I1, r1, q1⟩ => ?_) hs rfl))
 obtain ⟨j, e, q1, q2, q⟩ := q1
 subst e
 cases r1 with
 | cons r rr =>
  cases rr
  obtain ⟨t, rfl⟩ := r
  exact call_range_1 (range_it I1 (by omega) (by omega) q1 q2 (by simpa using q))
def tFor (wi : TI) (g : TG) (tb : TS) : TS := fun D σ H => wi σ H fun J H1 => ∃ W : Nat → Nat → St → Hp → Prop, (∃ m, W 0 m σ H1) ∧ ∀ i m σ H, W i m σ H →
 (J.stop i H ∧ D.nx σ H) ∨ (J.go i H ∧ ∃ N : St → Hp → Prop, (∀ σ' H', N σ' H' → ∃ m', m' < m ∧ W (i + 1) m' σ' H') ∧ ∀ x H', J.yld i H x H' → g x σ H' fun σ2 H2 => tb { D with nx := N, ct := N, bk := D.nx } σ2 H2)
def pinsAt (fp : List Addr) (h : Heap) : List (Addr × Obj) := fp.filterMap fun b => (h.get? b).map fun o => (b, o)
theorem mem_pinsAt {fp : List Addr} {h : Heap} {b : Addr} {o : Obj} (hb : b ∈ fp) (e : h.get? b = some o) : (b, o) ∈ pinsAt fp h := List.mem_filterMap.mpr ⟨b, hb, by rw [e]; rfl⟩
theorem of_pinsAt {fp : List Addr} {h : Heap} {p : Addr × Obj} (hp : p ∈ pinsAt fp h) : p.1 ∈ fp ∧ h.get? p.1 = some p.2 := by
 obtain ⟨b, hb, e⟩ := List.mem_filterMap.mp hp
 cases q : h.get? b with
 | none => rw [q] at e; cases e
 | some o =>
  rw [q] at e
  have e' : (b, o) = p := Option.some.inj e
  subst e'
  exact ⟨hb, q⟩
theorem Inv.pinned {pins : List (Addr × Obj)} {σ : St} {H : Hp} {s : Shared} {fp : List Addr} (I : Inv X pins σ H s) (hf : ∀ b ∈ fp, FpOk X pins H b) (ho : ∀ b ∈ fp, ∃ o, s.heap.get? b = some o ∧ ∀ v, o.data ≠ .cell v) : Inv X (pins ++ pinsAt fp s.heap) σ H s :=
 I.pins_of fun p hp => (List.mem_append.mp hp).elim (fun z => I.pin p (List.mem_append_right _ z)) fun z => by
  obtain ⟨hb, e⟩ := of_pinsAt z
  obtain ⟨f0, f1, f2, _⟩ := hf p.1 hb
  obtain ⟨o, e', d⟩ := ho p.1 hb
  rw [e] at e'; cases e'
  exact ⟨e, f0, f1, f2, d⟩
theorem Inv.unpinned {pins pl : List (Addr × Obj)} {σ : St} {H : Hp} {s : Shared} (I : Inv X (pins ++ pl) σ H s) : Inv X pins σ H s := I.pins_of fun p hp => I.pin p (List.mem_append_right _ (List.mem_append_left _ hp))
theorem ps_for {iter : Expr} {body : List Stmt} {wi : TI} {g : TG} {tb : TS} {pos : Pos} (hp : PassesOwn (model X.prog X.w) X.A X.env X.xe) (hc : X.calm = true) (hi : PI X tg iter wi) (hg : PG X tg g) (hb : PSs X body tb)
  (hs : ∀ x, foldedSetIterable iter X.env x = pure x := by intro _; rfl) : PS X (.For tg iter body [] pos) (tFor wi g tb) := by
 intro pins s σ H D I h
 refine wpAny_For (thn (hi pins s σ H _ I h) fun v s1 h1 => thn h1 fun itv s2 h2 => ?_) hs
 obtain ⟨it, fp, tn, J, H2, e, I2, T, st2, f2, W, ⟨m0, w0⟩, turn⟩ := h2
 subst e
 have stat : ∀ {H' : Hp}, (∀ b ∈ fp, H' b = none) → ∀ b ∈ fp, FpOk X pins H' b := fun hn b hb => ⟨hn b hb, (f2 b hb).2⟩
 refine codeAny_forLoop_any (fun n s' => ∃ i σ' H', Inv X pins σ' H' s' ∧ tn i s'.heap ∧ (∀ b ∈ fp, H' b = none) ∧ W i n σ' H') ?_ m0 ⟨0, σ, H2, I2, st2, fun b hb => (f2 b hb).1, w0⟩
 rintro n s3 ⟨i, σ3, H3, I3, st3, fr3, w3⟩
 rcases turn i n σ3 H3 w3 with ⟨stop, qn⟩ | ⟨go, N, hN, step⟩
 ·refine wpAny_passesOwn hp (thn (T.done X rfl rfl rfl hc i pins s3 σ3 H3 X.xe I3 (stat fr3) st3 stop) fun r s4 ⟨hr, I4⟩ => ?_)
  subst hr
  exact wpAny_execs_nil ⟨σ3, H3, I4, qn⟩
 ·refine wpAny_passesOwn hp (thn (T.item X rfl rfl rfl hc i pins s3 σ3 H3 X.xe I3 (stat fr3) st3 go) fun r s4 ⟨u, hr, h4⟩ => ?_)
  subst hr
  refine wpAny_passesOwn hp (thn h4 fun _ s5 ⟨x, H5, I5, r5, y5, st5, fr5⟩ => ?_)
  have I5' := I5.pinned (stat fr5) (T.obj _ _ st5)
  refine wpAny_passesOwn hp (thn (hg _ s5 σ3 H5 x u _ I5' r5 (step x H5 y5)) fun _ s6 ⟨σ6, H6, I6, q6⟩ => ?_)
  refine wpAny_passesOwn hp (thn (hb _ s6 σ6 H6 _ I6 q6) fun f s7 q7 => ?_)
  have again : ∀ {σ7 : St} {H7 : Hp}, Inv X (pins ++ pinsAt fp s5.heap) σ7 H7 s7 → N σ7 H7 → ∃ m, m < n ∧ ∃ i σ' H', Inv X pins σ' H' s7 ∧ tn i s7.heap ∧ (∀ b ∈ fp, H' b = none) ∧ W i m σ' H' := fun {σ7 H7} I7 n7 => by
   obtain ⟨m', hm, w7⟩ := hN σ7 H7 n7
   refine ⟨m', hm, i + 1, σ7, H7, I7.unpinned, T.keep _ _ _ st5 fun b hb o e => (I7.pin (b, o) (List.mem_append_right _ (List.mem_append_right _ (mem_pinsAt hb e)))).1, fun b hb => ?_, w7⟩
   obtain ⟨o, e, d⟩ := T.obj _ _ st5 b hb
   exact (I7.pin (b, o) (List.mem_append_right _ (List.mem_append_right _ (mem_pinsAt hb e)))).2.1
  cases f with
  | next => obtain ⟨σ7, H7, I7, n7⟩ := q7; exact again I7 n7
  | cont => obtain ⟨σ7, H7, I7, n7⟩ := q7; exact again I7 n7
  | brk => obtain ⟨σ7, H7, I7, q7⟩ := q7; exact ⟨σ7, H7, I7.unpinned, q7⟩
  | ret v => obtain ⟨x7, σ7, H7, I7, r7, q7⟩ := q7; exact ⟨x7, σ7, H7, I7.unpinned, r7, q7⟩
end
theorem for_list {K : PySem.W.Frag} {a : Addr} {xs : List V} {g : TG} {tb : TS} {D : Ends} {σ : St} {H : Hp} (Pv : Nat → St → Hp → Prop) (h0 : Pv 0 σ H) (hl : ∀ i σ H, i ≤ xs.length → Pv i σ H → SqL K H a xs)
  (hs : ∀ i x σ H, xs[i]? = some x → Pv i σ H → g x σ H fun σ2 H2 => tb { D with nx := Pv (i + 1), ct := Pv (i + 1), bk := D.nx } σ2 H2) (hd : ∀ σ H, Pv xs.length σ H → D.nx σ H) :
  ∃ W : Nat → Nat → St → Hp → Prop, (∃ m, W 0 m σ H) ∧ ∀ i m σ H, W i m σ H →
   ((Itl K a).stop i H ∧ D.nx σ H) ∨ ((Itl K a).go i H ∧ ∃ N : St → Hp → Prop, (∀ σ' H', N σ' H' → ∃ m', m' < m ∧ W (i + 1) m' σ' H') ∧ ∀ x H', (Itl K a).yld i H x H' → g x σ H' fun σ2 H2 => tb { D with nx := N, ct := N, bk := D.nx } σ2 H2) := by
 refine ⟨fun i m σ H => m = xs.length - i ∧ i ≤ xs.length ∧ Pv i σ H, ⟨xs.length, by simp, Nat.zero_le _, h0⟩, ?_⟩
 rintro i m σ H ⟨rfl, hi, p⟩
 have q := hl i σ H hi p
 by_cases hlt : i < xs.length
 ·refine .inr ⟨⟨xs, xs[i], q, by simp [hlt]⟩, Pv (i + 1), fun σ' H' p' => ⟨xs.length - (i + 1), by omega, rfl, hlt, p'⟩, fun x H' y => ?_⟩
  obtain ⟨e, y⟩ := y
  subst e
  exact hs i x σ _ (y xs q) p
 ·have e : i = xs.length := by omega
  subst e
  exact .inl ⟨⟨xs, q, Nat.le_refl _⟩, hd σ H p⟩
theorem for_range {lo : Int} {n : Nat} {g : TG} {tb : TS} {D : Ends} {σ : St} {H : Hp} (Pv : Nat → St → Hp → Prop) (h0 : Pv 0 σ H)
  (hs : ∀ i σ H, i < n → Pv i σ H → g (.int (lo + i)) σ H fun σ2 H2 => tb { D with nx := Pv (i + 1), ct := Pv (i + 1), bk := D.nx } σ2 H2) (hd : ∀ σ H, Pv n σ H → D.nx σ H) :
  ∃ W : Nat → Nat → St → Hp → Prop, (∃ m, W 0 m σ H) ∧ ∀ i m σ H, W i m σ H →
   ((Itr lo n).stop i H ∧ D.nx σ H) ∨ ((Itr lo n).go i H ∧ ∃ N : St → Hp → Prop, (∀ σ' H', N σ' H' → ∃ m', m' < m ∧ W (i + 1) m' σ' H') ∧ ∀ x H', (Itr lo n).yld i H x H' → g x σ H' fun σ2 H2 => tb { D with nx := N, ct := N, bk := D.nx } σ2 H2) := by
 refine ⟨fun i m σ H => m = n - i ∧ i ≤ n ∧ Pv i σ H, ⟨n, by simp, Nat.zero_le _, h0⟩, ?_⟩
 rintro i m σ H ⟨rfl, hi, p⟩
 by_cases hlt : i < n
 ·refine .inr ⟨hlt, Pv (i + 1), fun σ' H' p' => ⟨n - (i + 1), by omega, rfl, hlt, p'⟩, fun x H' y => ?_⟩
  obtain ⟨e, y⟩ := y
  subst e y
  exact hs i σ _ hlt p
 ·have e : i = n := by omega
  subst e
  exact .inl ⟨Nat.le_refl _, hd σ H p⟩
theorem while_by {c : TT} {tb : TS} {D : Ends} {σ : St} {H : Hp} (Pv : St → Hp → Prop) (μ : St → Hp → Nat) (h0 : Pv σ H)
  (hs : ∀ σ H, Pv σ H → c σ H fun b H1 => if b = true then tb { D with nx := fun σ' H' => Pv σ' H' ∧ μ σ' H' < μ σ H, ct := fun σ' H' => Pv σ' H' ∧ μ σ' H' < μ σ H, bk := D.nx } σ H1 else D.nx σ H1)
  (mono : ∀ σ H Q Q', (∀ b H1, Q b H1 → Q' b H1) → c σ H Q → c σ H Q') : tWhile c tb D σ H := by
 refine ⟨fun m σ H => m = μ σ H ∧ Pv σ H, ⟨_, rfl, h0⟩, ?_⟩
 rintro m σ H ⟨rfl, p⟩
 refine mono σ H _ _ (fun b H1 q => ?_) (hs σ H p)
 cases b with
 | true => exact ⟨_, fun σ' H' ⟨p', l⟩ => ⟨_, l, rfl, p'⟩, q⟩
 | false => exact q
end L2
namespace L2
open PySem PySem.Spec PyProof.Rows
abbrev R2 := V → V → Hp → VK → Prop
def OpR (X : Cx) (f : Value → Value → Sem Value) (r : R2) : Prop :=
 ∀ (pins : List (Addr × Obj)) (s : Shared) (σ : St) (H : Hp) (x y : V) (v u : Value) (Q : VK), Inv X pins σ H s → RelV x v → RelV y u → r x y H Q →
  wpAny (model X.prog X.w) X.A (f v u) (EP X pins σ Q) X.xe s
def UnR (X : Cx) (f : Value → Sem Value) (r : V → Hp → VK → Prop) : Prop :=
 ∀ (pins : List (Addr × Obj)) (s : Shared) (σ : St) (H : Hp) (x : V) (v : Value) (Q : VK), Inv X pins σ H s → RelV x v → r x H Q →
  wpAny (model X.prog X.w) X.A (f v) (EP X pins σ Q) X.xe s
def CallR (X : Cx) (f : Value) (r : List V → Hp → VK → Prop) : Prop :=
 ∀ (pins : List (Addr × Obj)) (s : Shared) (σ : St) (H : Hp) (xs : List V) (us : List Value) (Q : VK), Inv X pins σ H s → Vals xs us → r xs H Q →
  wpAny (model X.prog X.w) X.A (call f us) (EP X pins σ Q) X.xe s
def tOp (r : R2) (ta tb : TE) : TE := fun σ H Q => ta σ H fun x H1 => tb σ H1 fun y H2 => r x y H2 Q
def tUn (r : V → Hp → VK → Prop) (ta : TE) : TE := fun σ H Q => ta σ H fun x H1 => r x H1 Q
def rI (C : Int → Int → Prop) (g : Int → Int → V) : R2 := fun x y H Q => ∃ i j, x = .int i ∧ y = .int j ∧ C i j ∧ Q (g i j) H
def rI0 (g : Int → Int → V) : R2 := fun x y H Q => ∃ i j, x = .int i ∧ y = .int j ∧ Q (g i j) H
def rU (g : Int → V) : V → Hp → VK → Prop := fun x H Q => ∃ i, x = .int i ∧ Q (g i) H
section
variable {X : Cx} {a b c : Expr} {ta tb tc : TE} {pos : Pos}
theorem binT (ha : PE X a ta) (hb : PE X b tb) {pins : List (Addr × Obj)} {s : Shared} {σ : St} {H : Hp} {R : V → V → Hp → Prop} (I : Inv X pins σ H s)
  (h : ta σ H fun x H1 => tb σ H1 fun y H2 => R x y H2) {Q : Value → Shared → Prop} {f : Value → Value → Sem Value}
  (hf : ∀ v u s2 x y H2, Inv X pins σ H2 s2 → RelV x v → RelV y u → R x y H2 → wpAny (model X.prog X.w) X.A (f v u) Q X.xe s2) :
  wpAny (model X.prog X.w) X.A (eval a X.env) (fun v s₁ => wpAny (model X.prog X.w) X.A (eval b X.env) (fun u s₂ => wpAny (model X.prog X.w) X.A (f v u) Q X.xe s₂) X.xe s₁) X.xe s := by
 refine thn (ha pins s σ H _ I h) fun v s1 ⟨x, H1, I1, r1, q1⟩ => ?_
 refine thn (hb pins s1 σ H1 _ I1 q1) fun u s2 ⟨y, H2, I2, r2, q2⟩ => ?_
 exact hf v u s2 x y H2 I2 r1 r2 q2
theorem pe_op {op : Operator} {r : R2} (ho : OpR X (binaryOp op) r) (ha : PE X a ta) (hb : PE X b tb) : PE X (.BinOp a op b pos) (tOp r ta tb) := by
 intro pins s σ H Q I h
 exact wpAny_BinOp (binT ha hb I h fun v u s2 x y H2 I2 rx ry q => ho pins s2 σ H2 x y v u Q I2 rx ry q)
theorem pe_un {op : UnaryOp} {r : V → Hp → VK → Prop} (ho : UnR X (unaryOp op) r) (ha : PE X a ta) : PE X (.UnaryOp op a pos) (tUn r ta) := by
 intro pins s σ H Q I h
 exact UnaryOp_ (thn (ha pins s σ H _ I h) fun v s1 ⟨x, H1, I1, r1, q1⟩ => ho pins s1 σ H1 x v Q I1 r1 q1)
theorem opI {f : Value → Value → Sem Value} {C : Int → Int → Prop} {g : Int → Int → Int}
  (rule : ∀ (i j : Int) (t u : Tok) (s : Shared) (Q : Value → Shared → Prop) (E : Value → Shared → Prop), C i j → Q (.int (g i j) s.toks) { s with toks := s.toks + 1 } → wpAny (model X.prog X.w) X.A (f (.int i t) (.int j u)) Q E s) :
  OpR X f (rI C fun i j => .int (g i j)) := by
 intro pins s σ H x y v u Q I rx ry h
 obtain ⟨i, j, rfl, rfl, hc, q⟩ := h
 obtain ⟨t, rfl⟩ := rx
 obtain ⟨t', rfl⟩ := ry
 exact rule i j t t' s _ _ hc ⟨.int (g i j), H, I.tok _, ⟨_, rfl⟩, q⟩
theorem opI0 {f : Value → Value → Sem Value} {g : Int → Int → Int}
  (rule : ∀ (i j : Int) (t u : Tok) (s : Shared) (Q : Value → Shared → Prop) (E : Value → Shared → Prop), Q (.int (g i j) s.toks) { s with toks := s.toks + 1 } → wpAny (model X.prog X.w) X.A (f (.int i t) (.int j u)) Q E s) :
  OpR X f (rI0 fun i j => .int (g i j)) := by
 intro pins s σ H x y v u Q I rx ry h
 obtain ⟨i, j, rfl, rfl, q⟩ := h
 obtain ⟨t, rfl⟩ := rx
 obtain ⟨t', rfl⟩ := ry
 exact rule i j t t' s _ _ ⟨.int (g i j), H, I.tok _, ⟨_, rfl⟩, q⟩
theorem opB0 {f : Value → Value → Sem Value} {g : Int → Int → Bool}
  (rule : ∀ (i j : Int) (t u : Tok) (s : Shared) (Q : Value → Shared → Prop) (E : Value → Shared → Prop), Q (.bool (g i j)) s → wpAny (model X.prog X.w) X.A (f (.int i t) (.int j u)) Q E s) :
  OpR X f (rI0 fun i j => .bl (g i j)) := by
 intro pins s σ H x y v u Q I rx ry h
 obtain ⟨i, j, rfl, rfl, q⟩ := h
 obtain ⟨t, rfl⟩ := rx
 obtain ⟨t', rfl⟩ := ry
 exact rule i j t t' s _ _ ⟨.bl (g i j), H, I, rfl, q⟩
def CDiv (i j : Int) : Prop := 0 < j ∧ j < 1073741824
def CMul (i j : Int) : Prop := (-(2 ^ 64) < i ∧ i < 2 ^ 64) ∨ (-(2 ^ 64) < j ∧ j < 2 ^ 64)
theorem CMul.ok {i j : Int} (h : CMul i j) : IntMulOk i j := by
 rcases h with ⟨h1, h2⟩ | ⟨h1, h2⟩
 ·exact .of_left (intBits_le_64 h1 h2)
 ·exact .of_right (intBits_le_64 h1 h2)
theorem op_add : OpR X (binaryOp .Add) (rI0 fun i j => .int (i + j)) := opI0 fun _ _ _ _ _ _ _ q => add_int q
theorem op_sub : OpR X (binaryOp .Sub) (rI0 fun i j => .int (i - j)) := opI0 fun _ _ _ _ _ _ _ q => sub_int q
theorem op_mul : OpR X (binaryOp .Mult) (rI CMul fun i j => .int (i * j)) := opI fun _ _ _ _ _ _ _ hc q => mul_int q hc.ok
theorem op_fdiv : OpR X (binaryOp .FloorDiv) (rI CDiv fun i j => .int (i / j)) := opI fun i j _ _ _ _ _ hc q => by
 have h1 : (0 : Int) < j := hc.1
 have h2 : j < 1073741824 := hc.2
 exact floordiv_int (by omega) (by rw [Int.fdiv_eq_ediv_of_nonneg i (by omega)]; exact q) (.inl (PyProof.noPylong_small (by omega)))
theorem op_mod : OpR X (binaryOp .Mod) (rI (fun _ j => 0 < j) fun i j => .int (i % j)) := opI fun i j _ _ _ _ _ hc q => by
 have h1 : (0 : Int) < j := hc
 exact mod_int' (by omega) (by rw [Int.fmod_eq_emod_of_nonneg i (by omega)]; exact q)
theorem unI {f : Value → Sem Value} {g : Int → Int}
  (rule : ∀ (i : Int) (t : Tok) (s : Shared) (Q : Value → Shared → Prop) (E : Value → Shared → Prop), Q (.int (g i) s.toks) { s with toks := s.toks + 1 } → wpAny (model X.prog X.w) X.A (f (.int i t)) Q E s) :
  UnR X f (rU fun i => .int (g i)) := by
 intro pins s σ H x v Q I rx h
 obtain ⟨i, rfl, q⟩ := h
 obtain ⟨t, rfl⟩ := rx
 exact rule i t s _ _ ⟨.int (g i), H, I.tok _, ⟨_, rfl⟩, q⟩
theorem un_neg : UnR X (unaryOp .USub) (rU fun i => .int (-i)) := unI fun _ _ _ _ _ q => neg_int q
end
def scal : V → V → Bool
 | .non, .non => true | .non, .int _ => true | .int _, .non => true | .non, .bl _ => true | .bl _, .non => true | .non, .str _ => true | .str _, .non => true
 | .int _, .int _ => true | .bl _, .bl _ => true | .str _, .str _ => true | .byt _, .byt _ => true
 | .int _, .str _ => true | .str _, .int _ => true | .bl _, .str _ => true | .str _, .bl _ => true
 | _, _ => false
def rEq : R2 := fun x y H Q => scal x y = true ∧ Q (.bl (decide (x = y))) H
def rNe : R2 := fun x y H Q => scal x y = true ∧ Q (.bl (!decide (x = y))) H
theorem dec_int {i j : Int} : decide (V.int i = V.int j) = (i == j) := by
 rw [Bool.eq_iff_iff]
 simp
theorem dec_bl {i j : Bool} : decide (V.bl i = V.bl j) = (i == j) := by
 rw [Bool.eq_iff_iff]
 simp
theorem dec_str {i j : Str} : decide (V.str i = V.str j) = (i == j) := by
 rw [Bool.eq_iff_iff]
 simp
theorem dec_byt {i j : Array UInt8} : decide (V.byt i = V.byt j) = (i.toList == j.toList) := by
 rw [Bool.eq_iff_iff]
 cases i
 cases j
 simp
section
variable {X : Cx} {a b c : Expr} {ta tb tc : TE} {pos : Pos}
theorem fin_bl {pins : List (Addr × Obj)} {σ : St} {H : Hp} {s : Shared} {Q : VK} {k k' : Bool} (I : Inv X pins σ H s) (q : Q (.bl k) H) (e : k = k') : EP X pins σ Q (.bool k') s := by
 subst e
 exact ⟨.bl k, H, I, rfl, q⟩
theorem op_eq : OpR X (compareOp .Eq) rEq := by
 intro pins s σ H x y v u Q I rx ry h
 obtain ⟨hs, q⟩ := h
 cases x with
 | non =>
  cases rx
  cases y with
  | non => cases ry; exact PySem.EqNone.eq_none_none (fin_bl I q (by simp))
  | bl j => cases ry; exact PySem.EqNone.eq_none_bool (fin_bl I q (by simp))
  | int j => obtain ⟨t', rfl⟩ := ry; exact PySem.EqNone.eq_none_int (fin_bl I q (by simp))
  | str j => obtain ⟨t', rfl⟩ := ry; exact PySem.EqNone.eq_none_str (fin_bl I q (by simp))
  | _ => exact absurd (show false = true from hs) Bool.false_ne_true
 | bl i =>
  cases rx
  cases y with
  | non => cases ry; exact PySem.EqNone.eq_bool_none (fin_bl I q (by simp))
  | bl j => cases ry; exact eq_bool (fin_bl I q dec_bl)
  | str j => obtain ⟨t', rfl⟩ := ry; exact PySem.EqMixed.eq_bool_str (fin_bl I q (by simp))
  | _ => exact absurd (show false = true from hs) Bool.false_ne_true
 | int i =>
  obtain ⟨t, rfl⟩ := rx
  cases y with
  | non => cases ry; exact PySem.EqNone.eq_int_none (fin_bl I q (by simp))
  | int j => obtain ⟨t', rfl⟩ := ry; exact eq_int (fin_bl I q dec_int)
  | str j => obtain ⟨t', rfl⟩ := ry; exact PySem.EqMixed.eq_int_str (fin_bl I q (by simp))
  | _ => exact absurd (show false = true from hs) Bool.false_ne_true
 | str i =>
  obtain ⟨t, rfl⟩ := rx
  cases y with
  | non => cases ry; exact PySem.EqNone.eq_str_none (fin_bl I q (by simp))
  | bl j => cases ry; exact PySem.EqMixed.eq_str_bool (fin_bl I q (by simp))
  | int j => obtain ⟨t', rfl⟩ := ry; exact PySem.EqMixed.eq_str_int (fin_bl I q (by simp))
  | str j => obtain ⟨t', rfl⟩ := ry; exact eq_str (fin_bl I q dec_str)
  | _ => exact absurd (show false = true from hs) Bool.false_ne_true
 | byt i =>
  obtain ⟨t, rfl⟩ := rx
  cases y with
  | byt j => obtain ⟨t', rfl⟩ := ry; exact PySem.W.eq_bytes (fin_bl I q dec_byt)
  | _ => exact absurd (show false = true from hs) Bool.false_ne_true
 | _ => cases y <;> exact absurd (show false = true from hs) Bool.false_ne_true
theorem op_ne : OpR X (compareOp .NotEq) rNe := by
 intro pins s σ H x y v u Q I rx ry h
 obtain ⟨hs, q⟩ := h
 cases x with
 | non =>
  cases rx
  cases y with
  | non => cases ry; exact PySem.EqNone.ne_none_none (fin_bl I q (by simp))
  | bl j => cases ry; exact PySem.EqNone.ne_none_bool (fin_bl I q (by simp))
  | int j => obtain ⟨t', rfl⟩ := ry; exact PySem.EqNone.ne_none_int (fin_bl I q (by simp))
  | str j => obtain ⟨t', rfl⟩ := ry; exact PySem.EqNone.ne_none_str (fin_bl I q (by simp))
  | _ => exact absurd (show false = true from hs) Bool.false_ne_true
 | bl i =>
  cases rx
  cases y with
  | non => cases ry; exact PySem.EqNone.ne_bool_none (fin_bl I q (by simp))
  | bl j => cases ry; exact ne_bool (fin_bl I q (congrArg not dec_bl))
  | str j => obtain ⟨t', rfl⟩ := ry; exact PySem.EqMixed.ne_bool_str (fin_bl I q (by simp))
  | _ => exact absurd (show false = true from hs) Bool.false_ne_true
 | int i =>
  obtain ⟨t, rfl⟩ := rx
  cases y with
  | non => cases ry; exact PySem.EqNone.ne_int_none (fin_bl I q (by simp))
  | int j => obtain ⟨t', rfl⟩ := ry; exact ne_int (fin_bl I q (congrArg not dec_int))
  | str j => obtain ⟨t', rfl⟩ := ry; exact PySem.EqMixed.ne_int_str (fin_bl I q (by simp))
  | _ => exact absurd (show false = true from hs) Bool.false_ne_true
 | str i =>
  obtain ⟨t, rfl⟩ := rx
  cases y with
  | non => cases ry; exact PySem.EqNone.ne_str_none (fin_bl I q (by simp))
  | bl j => cases ry; exact PySem.EqMixed.ne_str_bool (fin_bl I q (by simp))
  | int j => obtain ⟨t', rfl⟩ := ry; exact PySem.EqMixed.ne_str_int (fin_bl I q (by simp))
  | str j => obtain ⟨t', rfl⟩ := ry; exact ne_str (fin_bl I q (congrArg not dec_str))
  | _ => exact absurd (show false = true from hs) Bool.false_ne_true
 | byt i =>
  obtain ⟨t, rfl⟩ := rx
  cases y with
  | byt j => obtain ⟨t', rfl⟩ := ry; exact PySem.W.ne_bytes (fin_bl I q (congrArg not dec_byt))
  | _ => exact absurd (show false = true from hs) Bool.false_ne_true
 | _ => cases y <;> exact absurd (show false = true from hs) Bool.false_ne_true
theorem op_lt : OpR X (compareOp .Lt) (rI0 fun i j => .bl (decide (i < j))) := opB0 fun _ _ _ _ _ _ _ q => lt_int q
theorem op_le : OpR X (compareOp .LtE) (rI0 fun i j => .bl (decide (i ≤ j))) := opB0 fun _ _ _ _ _ _ _ q => le_int q
theorem op_gt : OpR X (compareOp .Gt) (rI0 fun i j => .bl (decide (j < i))) := opB0 fun _ _ _ _ _ _ _ q => gt_int q
theorem op_ge : OpR X (compareOp .GtE) (rI0 fun i j => .bl (decide (j ≤ i))) := opB0 fun _ _ _ _ _ _ _ q => ge_int q
theorem op_isN : OpR X (compareOp .Is) (fun x y H Q => y = .non ∧ Q (.bl (decide (x = .non))) H) := by
 intro pins s σ H x y v u Q I rx ry h
 obtain ⟨rfl, q⟩ := h
 cases ry
 refine is_none_gen (fin_bl I q ?_)
 cases x <;> first
  | (cases rx; rfl)
  | (obtain ⟨t, rfl⟩ := rx; rfl)
theorem nomark (b : Expr) {op : CmpOp} (h : op ≠ .In := by decide) (h2 : op ≠ .NotIn := by decide) : behindInMarks op b = false := by
 have e1 : (op == CmpOp.In) = false := by cases op <;> first | rfl | exact absurd rfl h
 have e2 : (op == CmpOp.NotIn) = false := by cases op <;> first | rfl | exact absurd rfl h2
 cases b <;> simp [behindInMarks, e1, e2]
theorem pe_cmpR {op : CmpOp} {r : R2} (ho : OpR X (compareOp op) r) (ha : PE X a ta) (hb : PE X b tb) (hm : behindInMarks op b = false) : PE X (.Compare a [op] [b] pos) (tOp r ta tb) := by
 intro pins s σ H Q I h
 exact wpAny_Compare1 (binT ha hb I h fun v u s2 x y H2 I2 rx ry q => ho pins s2 σ H2 x y v u Q I2 rx ry q) hm
def tTest (t : TE) : TT := fun σ H Q => t σ H fun x H' => ∃ k, x = .bl k ∧ Q k H'
theorem pt_cmpR {op : CmpOp} {r : R2} (ho : OpR X (compareOp op) r) (ha : PE X a ta) (hb : PE X b tb) (hm : behindInMarks op b = false) : PT X (.Compare a [op] [b] pos) (tTest (tOp r ta tb)) := by
 intro pins s σ H Q I h
 refine wpAny_isTrue_Compare1 (thn (ha pins s σ H _ I h) fun v s1 ⟨x, H1, I1, r1, q1⟩ => thn (hb pins s1 σ H1 _ I1 q1) fun u s2 ⟨y, H2, I2, r2, q2⟩ =>
  thn (ho pins s2 σ H2 x y v u _ I2 r1 r2 q2) fun c s3 ⟨z, H3, I3, r3, k, e, q3⟩ => ?_) hm
 subst e
 cases r3
 exact wpAny_truthy_bool ⟨H3, I3, q3⟩
def tChain (r r' : R2) (ta tb tc : TE) : TE := fun σ H Q => ta σ H fun x H1 => tb σ H1 fun y H2 => r x y H2 fun z H3 => ∃ k, z = .bl k ∧
 (if k = true then tc σ H3 fun w' H4 => r' y w' H4 Q else Q (.bl false) H3)
theorem pe_chain {op op' : CmpOp} {r r' : R2} (ho : OpR X (compareOp op) r) (ho' : OpR X (compareOp op') r') (ha : PE X a ta) (hb : PE X b tb) (hc : PE X c tc)
  (hm : lastMarks [op, op'] [b, c] = false := by with_unfolding_all rfl) : PE X (.Compare a [op, op'] [b, c] pos) (tChain r r' ta tb tc) := by
 intro pins s σ H Q I h
 refine Compare_chain (thn (ha pins s σ H _ I h) fun v s1 ⟨x, H1, I1, r1, q1⟩ => chain_link (thn (hb pins s1 σ H1 _ I1 q1) fun u s2 ⟨y, H2, I2, r2, q2⟩ =>
  thn (ho pins s2 σ H2 x y v u _ I2 r1 r2 q2) fun d s3 ⟨z, H3, I3, r3, k, e, q3⟩ => ?_)) hm
 subst e
 cases r3
 refine wpAny_truthy_bool ?_
 cases k with
 | false => exact ite_ff ⟨.bl false, H3, I3, rfl, q3⟩
 | true => exact ite_tt (chain_last (thn (hc pins s3 σ H3 _ I3 q3) fun w' s4 ⟨z', H4, I4, r4, q4⟩ => ho' pins s4 σ H4 y z' u w' Q I4 r2 r4 q4))
theorem pt_chain {op op' : CmpOp} {r r' : R2} (ho : OpR X (compareOp op) r) (ho' : OpR X (compareOp op') r') (ha : PE X a ta) (hb : PE X b tb) (hc : PE X c tc)
  (hm : lastMarks [op, op'] [b, c] = false := by with_unfolding_all rfl) : PT X (.Compare a [op, op'] [b, c] pos) (tTest (tChain r r' ta tb tc)) := by
 intro pins s σ H Q I h
 refine isTrue_chain (thn (ha pins s σ H _ I h) fun v s1 ⟨x, H1, I1, r1, q1⟩ => test_link (thn (hb pins s1 σ H1 _ I1 q1) fun u s2 ⟨y, H2, I2, r2, q2⟩ =>
  thn (ho pins s2 σ H2 x y v u _ I2 r1 r2 q2) fun d s3 ⟨z, H3, I3, r3, k, e, q3⟩ => ?_)) hm
 subst e
 cases r3
 refine wpAny_truthy_bool ?_
 cases k with
 | false =>
  obtain ⟨k', e', q'⟩ := q3
  cases e'
  exact ite_ff ⟨H3, I3, q'⟩
 | true =>
  refine ite_tt (test_last (thn (hc pins s3 σ H3 _ I3 q3) fun w' s4 ⟨z', H4, I4, r4, q4⟩ => thn (ho' pins s4 σ H4 y z' u w' _ I4 r2 r4 q4) fun d' s5 ⟨z2, H5, I5, r5, k2, e2, q5⟩ => ?_))
  subst e2
  cases r5
  exact wpAny_truthy_bool ⟨H5, I5, q5⟩
theorem line63 : (sizeLine : Nat) < 2 ^ 63 := by rw [sizeLine_eq]; decide
theorem vals1 {x : V} {us : List Value} (r : Vals [x] us) : ∃ u, us = [u] ∧ RelV x u := by
 cases r with
 | cons r1 r2 => cases r2; exact ⟨_, rfl, r1⟩
theorem vals2 {x y : V} {us : List Value} (r : Vals [x, y] us) : ∃ u w', us = [u, w'] ∧ RelV x u ∧ RelV y w' := by
 cases r with
 | cons r1 r2 =>
  cases r2 with
  | cons r3 r4 => cases r4; exact ⟨_, _, rfl, r1, r3⟩
theorem call_abs : CallR X (.builtin "abs") (fun xs H Q => ∃ i, xs = [.int i] ∧ Q (.int (if i < 0 then -i else i)) H) := by
 intro pins s σ H xs us Q I r h
 obtain ⟨i, rfl, q⟩ := h
 obtain ⟨u, rfl, t, rfl⟩ := vals1 r
 exact call_abs_int fun u tk => ⟨.int (if i < 0 then -i else i), H, I.tok _, ⟨_, rfl⟩, q⟩
theorem call_max2 (hc : X.calm = true) : CallR X (.builtin "max") (fun xs H Q => ∃ i j, xs = [.int i, .int j] ∧ Q (.int (if j > i then j else i)) H) := by
 intro pins s σ H xs us Q I r h
 obtain ⟨i, j, rfl, q⟩ := h
 obtain ⟨u, w', rfl, ⟨t, rfl⟩, ⟨t', rfl⟩⟩ := vals2 r
 refine max_two_ints (I.ok.hd hc) fun h' tk k => ⟨_, H, I.kept k, ?_, q⟩
 by_cases hj : j > i
 ·rw [if_pos hj, if_pos hj]; exact ⟨_, rfl⟩
 ·rw [if_neg hj, if_neg hj]; exact ⟨_, rfl⟩
theorem call_min2 (hc : X.calm = true) : CallR X (.builtin "min") (fun xs H Q => ∃ i j, xs = [.int i, .int j] ∧ Q (.int (if j < i then j else i)) H) := by
 intro pins s σ H xs us Q I r h
 obtain ⟨i, j, rfl, q⟩ := h
 obtain ⟨u, w', rfl, ⟨t, rfl⟩, ⟨t', rfl⟩⟩ := vals2 r
 refine min_two_ints (I.ok.hd hc) fun h' tk k => ⟨_, H, I.kept k, ?_, q⟩
 by_cases hj : j < i
 ·rw [if_pos hj, if_pos hj]; exact ⟨_, rfl⟩
 ·rw [if_neg hj, if_neg hj]; exact ⟨_, rfl⟩
end
end L2
namespace L2
open PySem PySem.Spec PyProof.Rows
structure ObjM (h : Heap) (x dx C : Addr) (mA : Str → Option Value) : Prop where
 obj : h.get? x = some (PySem.W.instObj C dx)
 ns : h.Ns1 dx mA
 ne : dx ≠ x
theorem lookIn_ns {h : Heap} {dx : Addr} {mA : Str → Option Value} (n : h.Ns1 dx mA) : ∃ od, h.get? dx = some od ∧ ∀ name, PySem.W.lookIn name od = some (mA name) := by
 obtain ⟨o, es, ep, ho, hd, hk, _, hm⟩ := n
 refine ⟨o, ho, fun name => ?_⟩
 have e := hm name
 unfold nsFind findBy at e
 rw [← Array.find?_toList] at e
 unfold PySem.W.lookIn
 rw [hd]
 dsimp only
 split
 ·rename_i y q
  rw [q] at e
  exact congrArg some e
 ·rename_i q
  rw [q] at e
  have a : es.toList.any (·.refKey) = false := by
   rw [List.any_eq_false]
   intro y hy
   obtain ⟨z, t, hkey⟩ := hk y (Array.mem_toList_iff.mp hy)
   simp [DictEntry.refKey, hkey]
  have a' : ¬ es.toList.any (·.refKey) = true := by rw [a]; exact Bool.false_ne_true
  rw [if_neg a']
  exact congrArg some e
theorem ObjM.look {h : Heap} {x dx C : Addr} {mA : Str → Option Value} (I : ObjM h x dx C mA) : ∃ od, PySem.W.InstAt h x (PySem.W.instObj C dx) C (some od) ∧ ∀ name, PySem.W.lookIn name od = some (mA name) :=
 let ⟨od, ho, hl⟩ := lookIn_ns I.ns
 ⟨od, ⟨I.obj, rfl, rfl, ho⟩, hl⟩
section
variable {prog : Program} {w : World} {A : Around} {E : Value → Shared → Prop} {s : Shared} {K : PySem.W.Frag} {x dx C f : Addr} {mA : Str → Option Value} {name : Str} {v : Value}
theorem get_map {expr : Bool} {Q : Value → Shared → Prop} (X : K.In s.heap) (I : ObjM s.heap x dx C mA) (hg : PySem.W.plainGet K C name = true) (hh : PySem.W.hasDictIn K C = true)
  (ha : PySem.W.findIn K (.ref C) name = some none) (hv : mA name = some v) (hv' : PySem.W.handedIn v = true) (h : Q v { s with toks := s.toks + 1 }) :
  wpAny (model prog w) A (getAttr (.ref x) name expr) Q E s := by
 obtain ⟨od, J, hl⟩ := I.look
 exact PySem.W.get_value X J (PySem.W.plainGet_of hg).1 (PySem.W.findObj_own hh ha rfl (by rw [hl, hv])) hv' h
theorem set_map {ns : List Str} {Q : Unit → Shared → Prop} (X : K.In s.heap) (I : ObjM s.heap x dx C mA)
  (hs : PySem.W.findIn K (.ref C) "__setattr__" = some (some (.builtin "object.__setattr__"))) (hp : PySem.W.plainOver K C = true) (ht : PySem.W.takerIn K C name = some none) (hh : PySem.W.hasDictIn K C = true)
  (hw : PySem.Within mA ns) (hsz : ns.length ≤ sizeLine)
  (h : ∀ h', ObjM h' x dx C (fun y => if y = name then some v else mA y) → Heap.SameBut dx s.heap h' → Q () { s with heap := h', toks := s.toks + 2 }) :
  wpAny (model prog w) A (setAttr (.ref x) name v) Q E s := by
 obtain ⟨od, J, hl⟩ := I.look
 refine PySem.W.set_plain X J hs (PySem.W.osa_open (s := { s with toks := s.toks + 1 }) (r := none) X J hp ht fun b => ?_)
 obtain ⟨cd, hc, hd'⟩ := PySem.W.any_some hh
 have hx : s.heap.get? x = some ⟨.ref C, some dx, .plain, #[]⟩ := I.obj
 refine wpAny_bind (wpAny_pure (wpAny_bind (wpAny_bind (wpAny_loadPart hx (wpAny_bind (PySem.W.Looks.here (s := { s with toks := s.toks + 1 }) (PySem.W.looks_clsIn X hc) ?_))))))
 rw [hd']
 refine wpAny_pure (a := some dx) (wpAny_bind (wpAny_pure (wpAny_bind ?_)))
 refine wpAny_nsSet1 (s := { s with toks := s.toks + 1 }) I.ns fun h' hn2 hs2 => ?_
 obtain ⟨oD, esD, epD, hoD, hdD, hcD⟩ := hn2.count (PySem.Within.cons name v hw)
 refine wpAny_bind (wpAny_lookBehind hoD (by rw [hdD]; exact pastItsLine_dict (Nat.le_trans hcD (by rw [List.length_cons]; omega))) ?_)
 exact wpAny_pure (h _ ⟨(hs2.2 _ (Ne.symm I.ne)).trans I.obj, hn2, I.ne⟩ hs2)
theorem make_map {R : Result → Shared → Prop} {vs : List Value} {kw : List (Str × Value)} (X : K.In s.heap) (hm : PySem.W.makesIn K C = true)
  (hi : PySem.W.findIn K (.ref C) "__init__" = some (some (.ref f))) (hf : PySem.W.typeIn K (.ref f) = some (.type "function"))
  (h : codeAny (model prog w) (A.under (.builtin "type.__call__" ⟨.ref C :: vs, kw⟩)) (.call (.ref f) ⟨.ref (s.heap.objs.size + 1) :: vs, kw⟩) (PySem.W.InitBack (s.heap.objs.size + 1) R)
   { s with heap := (s.heap.push PySem.W.emptyDict).push (PySem.W.instObj C s.heap.objs.size) }) :
  codeAny (model prog w) A (.call (.ref C) ⟨vs, kw⟩) R s := by
 obtain ⟨hh, g, d, t, os⟩ := s
 exact PySem.W.make_core (PySem.W.makes_of X hm) (PySem.W.looks_findIn X hi) (fun self => PySem.W.bind_fn X self hf) (.inl rfl) h
end
def putF (f : Str) (v : V) : List (Str × V) → List (Str × V)
 | [] => [(f, v)]
 | (g, x) :: r => if g = f then (g, v) :: r else (g, x) :: putF f v r
theorem lookup_putF (f g : Str) (v : V) : ∀ fs : List (Str × V), (putF f v fs).lookup g = if g = f then some v else fs.lookup g
 | [] => by
  show List.lookup g [(f, v)] = _
  by_cases h : g = f
  ·have hb : (g == f) = true := beq_iff_eq.mpr h
   simp only [List.lookup, hb, if_pos h]
  ·have hb : (g == f) = false := beq_eq_false_iff_ne.mpr h
   simp only [List.lookup, hb, if_neg h]
 | (k, x) :: r => by
  have ih := lookup_putF f g v r
  rw [show putF f v ((k, x) :: r) = (if k = f then (k, v) :: r else (k, x) :: putF f v r) from rfl]
  by_cases hk : k = f
  ·rw [if_pos hk]
   by_cases h : g = k
   ·have hb : (g == k) = true := beq_iff_eq.mpr h
    simp only [List.lookup, hb, if_pos (h.trans hk)]
   ·have hb : (g == k) = false := beq_eq_false_iff_ne.mpr h
    simp only [List.lookup, hb, if_neg (fun e : g = f => h (e.trans hk.symm))]
  ·rw [if_neg hk]
   by_cases h : g = k
   ·have hb : (g == k) = true := beq_iff_eq.mpr h
    simp only [List.lookup, hb, if_neg (fun e : g = f => hk (h.symm.trans e))]
   ·have hb : (g == k) = false := beq_eq_false_iff_ne.mpr h
    simp only [List.lookup, hb]
    exact ih
theorem keys_putF (f : Str) (v : V) : ∀ fs : List (Str × V), f ∈ (putF f v fs).map (·.1) ∧ ∀ g, g ∈ fs.map (·.1) → g ∈ (putF f v fs).map (·.1)
 | [] => ⟨by simp [putF], fun g h => by simp at h⟩
 | (k, x) :: r => by
  obtain ⟨i1, i2⟩ := keys_putF f v r
  rw [show putF f v ((k, x) :: r) = (if k = f then (k, v) :: r else (k, x) :: putF f v r) from rfl]
  by_cases hk : k = f
  ·rw [if_pos hk]
   subst hk
   exact ⟨by simp, fun g h => by simpa using h⟩
  ·rw [if_neg hk]
   refine ⟨?_, fun g h => ?_⟩
   ·rw [List.map_cons]
    exact List.mem_cons_of_mem _ i1
   ·rw [List.map_cons] at h ⊢
    rcases List.mem_cons.mp h with e | e
    ·exact List.mem_cons.mpr (.inl e)
    ·exact List.mem_cons_of_mem _ (i2 g e)
theorem length_putF (f : Str) (v : V) : ∀ fs : List (Str × V), (putF f v fs).length ≤ fs.length + 1
 | [] => by simp [putF]
 | (k, x) :: r => by
  have ih := length_putF f v r
  rw [show putF f v ((k, x) :: r) = (if k = f then (k, v) :: r else (k, x) :: putF f v r) from rfl]
  by_cases hk : k = f
  ·rw [if_pos hk, List.length_cons, List.length_cons]; omega
  ·rw [if_neg hk, List.length_cons, List.length_cons]; omega
theorem RelO.some_of {v : V} {o : Option Value} (r : RelO (some v) o) : ∃ u, o = some u ∧ RelV v u := by
 cases o with
 | none => exact (show False from r).elim
 | some u => exact ⟨u, rfl, r⟩
theorem handed_of {v : V} {u : Value} (r : RelV v u) : PySem.W.handedIn u = true := by
 cases v with
 | non => cases (show u = Value.none from r); rfl
 | bl b => cases (show u = Value.bool b from r); rfl
 | int i => obtain ⟨t, e⟩ := (show ∃ t, u = Value.int i t from r); cases e; rfl
 | str x => obtain ⟨t, e⟩ := (show ∃ t, u = Value.str x t from r); cases e; rfl
 | byt b => obtain ⟨t, e⟩ := (show ∃ t, u = Value.bytes b t from r); cases e; rfl
 | flt b => obtain ⟨t, e⟩ := (show ∃ t, u = Value.float b t from r); cases e; rfl
 | ref a => cases (show u = Value.ref a from r); rfl
 | ty n => cases (show u = Value.type n from r); rfl
section
variable {P : Program} {w : World} {H H' : Hp} {h h' : Heap} {a C dx : Addr} {fs fs' : List (Str × V)}
theorem ins_get (hok : HOk P w H h) (e : H a = some (.ins C dx fs)) : ∃ mA, ObjM h a dx C mA ∧ (∀ f, RelO (fs.lookup f) (mA f)) ∧ PySem.Within mA (fs.map (·.1)) ∧ fs.length ≤ 1000 ∧ H dx = some (.own a) := by
 obtain ⟨d, z, ne, ob, mA, n, r, q⟩ := (show ObjOk P w H h a (.ins C dx fs) from hok a _ e)
 exact ⟨mA, ⟨ob, n, ne⟩, r, q, z, d⟩
end
structure Cls (K : PySem.W.Frag) (C : Addr) : Prop where
 pg : PySem.W.plainGet K C Str.empty = true
 hd : PySem.W.hasDictIn K C = true
 po : PySem.W.plainOver K C = true
 sa : PySem.W.findIn K (.ref C) "__setattr__" = some (some (.builtin "object.__setattr__"))
theorem Cls.get {K : PySem.W.Frag} {C : Addr} (c : Cls K C) (f : Str) : PySem.W.plainGet K C f = true := c.pg
def NoAttr (K : PySem.W.Frag) (C : Addr) (f : Str) : Prop := PySem.W.findIn K (.ref C) f = some none
theorem NoAttr.taker {K : PySem.W.Frag} {C : Addr} {f : Str} (n : NoAttr K C f) : PySem.W.takerIn K C f = some none := by
 unfold PySem.W.takerIn
 rw [show PySem.W.findIn K (.ref C) f = some none from n]
 rfl
section
variable {X : Cx} {pins : List (Addr × Obj)} {σ : St} {H : Hp} {s : Shared} {a C dx : Addr} {fs : List (Str × V)} {f : Str} {v : V} {A : Around} {E : Value → Shared → Prop}
theorem getattr_ok {b : Bool} {Q : Value → Shared → Prop} (I : Inv X pins σ H s) (e : H a = some (.ins C dx fs)) (c : Cls X.K C) (n : NoAttr X.K C f) (l : fs.lookup f = some v)
  (h : ∀ u s', Inv X pins σ H s' → RelV v u → Q u s') : wpAny (model X.prog X.w) A (getAttr (.ref a) f b) Q E s := by
 obtain ⟨mA, O, r, _, _, _⟩ := ins_get I.hok e
 obtain ⟨u, hu, ru⟩ := RelO.some_of (v := v) (o := mA f) (by rw [← l]; exact r f)
 exact get_map I.kIn O (c.get f) c.hd n hu (handed_of ru) (h u _ (I.tok _) ru)
theorem setattr_ok {y : V} {u : Value} {Q : Unit → Shared → Prop} (I : Inv X pins σ H s) (e : H a = some (.ins C dx fs)) (c : Cls X.K C) (n : NoAttr X.K C f) (hl : fs.length < 1000) (ry : RelV y u)
  (h : ∀ s', Inv X pins σ (upd H a (.ins C dx (putF f y fs))) s' → Q () s') : wpAny (model X.prog X.w) A (setAttr (.ref a) f u) Q E s := by
 obtain ⟨mA, O, r, wi, _, ho⟩ := ins_get I.hok e
 have hz : (fs.map (·.1)).length ≤ sizeLine := by rw [List.length_map, sizeLine_eq]; omega
 refine set_map I.kIn O c.sa c.po n.taker c.hd wi hz fun h' O' sb => h _ ?_
 have hd : ∃ o, h'.get? dx = some o := let ⟨o, _, _, e', _⟩ := O'.ns; ⟨o, e'⟩
 refine I.write (x := a) (e := dx) (by rw [e]; exact True.intro) (.inr ho) (fun b q hb z => (sb.2 b hb).trans z) hd ?_
 refine ⟨by rw [upd_ne O.ne]; exact ho, ?_, O.ne, O'.obj, _, O'.ns, fun g => ?_, fun g hg => ?_⟩
 ·have := length_putF f y fs; omega
 ·show RelO ((putF f y fs).lookup g) (if g = f then some u else mA g)
  rw [lookup_putF]
  by_cases q : g = f
  ·rw [if_pos q, if_pos q]; exact ry
  ·rw [if_neg q, if_neg q]; exact r g
 ·by_cases q : g = f
  ·rw [q]; exact (keys_putF f y fs).1
  ·refine (keys_putF f y fs).2 g (wi g fun z => hg ?_)
   show (if g = f then some u else mA g) = none
   rw [if_neg q]; exact z
theorem Inv.made (I : Inv X pins σ H s) : Inv X pins σ (upd (upd H s.heap.objs.size (.own (s.heap.objs.size + 1))) (s.heap.objs.size + 1) (.ins C s.heap.objs.size []))
  { s with heap := (s.heap.push PySem.W.emptyDict).push (PySem.W.instObj C s.heap.objs.size) } := by
 have e1 : (s.heap.push PySem.W.emptyDict).get? s.heap.objs.size = some PySem.W.emptyDict := Heap.get?_push_size s.heap rfl
 have e2 : ((s.heap.push PySem.W.emptyDict).push (PySem.W.instObj C s.heap.objs.size)).get? (s.heap.objs.size + 1) = some (PySem.W.instObj C s.heap.objs.size) := by
  have := Heap.get?_push_size (s.heap.push PySem.W.emptyDict) (o := PySem.W.instObj C s.heap.objs.size) rfl
  rwa [Heap.size_push] at this
 have e3 : (s.heap.push PySem.W.emptyDict).Ns s.heap.objs.size (fun _ => none) := ⟨PySem.W.emptyDict, #[], _, e1, rfl, (fun e he => absurd he (by simp)), fun _ => rfl⟩
 have I1 := I.laid (a := s.heap.objs.size) (o := .own (s.heap.objs.size + 1)) (h' := s.heap.push PySem.W.emptyDict) (t' := s.toks) (fun b u q => Heap.get?_push_of_some _ q) (Nat.le_refl _) ⟨_, e1⟩
 refine I1.laid (a := s.heap.objs.size + 1) (o := .ins C s.heap.objs.size []) (t' := s.toks) (fun b u q => Heap.get?_push_of_some _ q) (Nat.le_of_eq (Heap.size_push _ _)) ?_
 have ne : s.heap.objs.size ≠ s.heap.objs.size + 1 := Nat.ne_of_lt (Nat.lt_succ_self _)
 refine ⟨by rw [upd_ne ne, upd_same], Nat.zero_le _, ne, e2, fun _ => none, (Heap.Ns1.of_empty e3).at fun o q => Heap.get?_push_of_some _ q, fun _ => True.intro, fun y hy => absurd rfl hy⟩
theorem attr_of {prog : Program} {w : World} {env : Env} {e : Expr} {f : Str} {pos : Pos} {s : Shared} {Q : Value → Shared → Prop} (hb : attributeBase e f env (eval e env) = eval e env)
  (h : wpAny (model prog w) A (eval e env) (fun o s₁ => wpAny (model prog w) A (getAttr o f true) Q E s₁) E s) : wpAny (model prog w) A (eval (.Attribute e f pos) env) Q E s :=
 Attribute_any_ h (by rw [arm_eval_Attribute, hb])
end
def tFld (K : PySem.W.Frag) (ta : TE) (f : Str) : TE := fun σ H Q => ta σ H fun x H1 => ∃ a C dx fs v, x = .ref a ∧ H1 a = some (.ins C dx fs) ∧ Cls K C ∧ NoAttr K C f ∧ fs.lookup f = some v ∧ Q v H1
def sFld (K : PySem.W.Frag) (ta tv : TE) (f : Str) : TS := fun D σ H => tv σ H fun y H1 => ta σ H1 fun x H2 => ∃ a C dx fs, x = .ref a ∧ H2 a = some (.ins C dx fs) ∧ Cls K C ∧ NoAttr K C f ∧ fs.length < 1000 ∧
 D.nx σ (upd H2 a (.ins C dx (putF f y fs)))
section
variable {X : Cx} {o e value : Expr} {f : Str} {pos pos' tpos : Pos} {ta tv : TE}
theorem pe_fld (he : PE X e ta) (hb : attributeBase e f X.env (eval e X.env) = eval e X.env) : PE X (.Attribute e f pos) (tFld X.K ta f) := by
 intro pins s σ H Q I h
 refine attr_of hb (thn (he pins s σ H _ I h) fun u s1 ⟨x, H1, I1, rx, a, C, dx, fs, v, ex, ea, c, n, l, q⟩ => ?_)
 subst ex
 obtain rfl : u = Value.ref a := rx
 exact getattr_ok I1 ea c n l fun u' s2 I2 ru => ⟨v, H1, I2, ru, q⟩
theorem ps_fld (ha : PE X o ta) (hv : PE X value tv) (hs : swapsWith value (some (.Attribute o f pos')) pos.line X.env = pure false) : PS X (.Assign [.Attribute o f pos'] value pos) (sFld X.K ta tv f) := by
 intro pins s σ H D I h
 refine plainObj_wpAny_Assign_Attribute (thn (hv pins s σ H _ I h) fun u s1 ⟨y, H1, I1, ry, q⟩ => thn (ha pins s1 σ H1 _ I1 q) fun ov s2 ⟨x, H2, I2, rx, a, C, dx, fs, ex, ea, c, n, l, q2⟩ => ?_) hs
 subst ex
 obtain rfl : ov = Value.ref a := rx
 exact setattr_ok I2 ea c n l ry fun s3 I3 => ⟨σ, _, I3, q2⟩
end
section
variable {X : Cx} {pins : List (Addr × Obj)} {σ : St} {H : Hp} {s : Shared} {A : Around} {E : Value → Shared → Prop} {Q : Value → Shared → Prop} {c : Value} {b : Bool}
end
end L2
namespace L2
open PySem PySem.Spec PyProof.Rows
structure Room (k : Nat) (A : Around) : Prop where
 hd : A.handled = none
 dp : A.depth + 3 * k + 5 < recursionLimit
 un : A.units + 16 * k + 200 < cLine
theorem Room.mono {j k : Nat} {A : Around} (r : Room k A) (h : j ≤ k) : Room j A := ⟨r.hd, by have := r.dp; omega, by have := r.un; omega⟩
theorem Room.deeper {k : Nat} {A : Around} (r : Room (k + 1) A) (env : Env) : Room k (A.deeper env) :=
 ⟨r.hd, by have := r.dp; show A.depth + 1 + 3 * k + 5 < _; omega, by have := r.un; show A.units + 3 + 16 * k + 200 < _; omega⟩
theorem make_depth {A : Around} {C : Addr} {us : List Value} {kw : List (Str × Value)} : (A.under (.builtin "type.__call__" ⟨.ref C :: us, kw⟩)).depth = A.depth + 1 := by
 first | rfl | simp [Around.under, Code.weight, Code.isCreation, Code.isGuard, Code.isCaller, Code.frames, Code.isFrame, guardIds]
theorem make_units {A : Around} {C : Addr} {us : List Value} {kw : List (Str × Value)} : (A.under (.builtin "type.__call__" ⟨.ref C :: us, kw⟩)).units = A.units + 1 := by
 first | rfl | simp [Around.under, Code.cUnits, Code.frames, Code.isFrame]
theorem Room.make {k : Nat} {A : Around} (r : Room (k + 1) A) (C : Addr) (us : List Value) (kw : List (Str × Value)) : Room k (A.under (.builtin "type.__call__" ⟨.ref C :: us, kw⟩)) :=
 ⟨r.hd, by have := r.dp; rw [make_depth]; omega, by have := r.un; rw [make_units]; omega⟩
theorem Room.depth {k : Nat} {A : Around} (r : Room k A) : A.depth < recursionLimit := by have := r.dp; omega
def tNil : TA := fun _ H Q => Q [] H
def tCons (ta : TE) (tr : TA) : TA := fun σ H Q => ta σ H fun x H1 => tr σ H1 fun xs H2 => Q (x :: xs) H2
section
variable {X : Cx} {e : Expr} {es : List Expr} {te : TE} {t : TA} {pos : Pos}
theorem pa_nil : PA X [] tNil := fun _ _ _ _ H Q I h => Calls.spliced_nil ⟨[], H, I, .nil, h⟩
theorem pa_cons (ha : PE X e te) (hr : PA X es t) (hs : starEach (e :: es) X.env = (false, eval e X.env) :: starEach es X.env := by rfl) : PA X (e :: es) (tCons te t) := by
 intro pos pins s σ H Q I h
 rw [hs]
 show wpAny _ _ (spliced ((false, eval e X.env) :: backTo pos (starEach es X.env))) _ _ s
 refine Calls.spliced_cons (thn (ha pins s σ H _ I h) fun u s1 ⟨x, H1, I1, r1, q1⟩ => ?_)
 exact thn (hr pos pins s1 σ H1 _ I1 q1) fun us s2 ⟨xs, H2, I2, r2, q2⟩ => ⟨x :: xs, H2, I2, .cons r1 r2, q2⟩
def tTup (t : TA) : TE := fun σ H Q => t σ H fun xs H1 => xs.length ≤ sizeLine ∧ ∀ p, H1 p = none → Q (.ref p) (upd H1 p (.tup xs))
def tLst (t : TA) : TE := fun σ H Q => t σ H fun xs H1 => xs.length ≤ sizeLine ∧ ∀ p, H1 p = none → Q (.ref p) (upd H1 p (.lst xs))
theorem pe_tup {x1} (h : PA X es t) : PE X (.Tuple es x1 pos) (tTup t) := by
 intro pins s σ H Q I hq
 refine wpAny_Tuple_spliced (thn (h pos pins s σ H _ I hq) fun us s1 ⟨xs, H1, I1, r, z, q⟩ => ⟨by rw [← r.length]; exact z, ?_⟩)
 have hf : H1 s1.heap.objs.size = none := I1.hok.fresh (Nat.le_refl _)
 refine ⟨.ref s1.heap.objs.size, upd H1 s1.heap.objs.size (.tup xs), I1.laid (t' := s1.toks) (fun b u e => Heap.get?_push_of_some _ e) (Nat.le_refl _) ?_, rfl, q _ hf⟩
 exact ⟨z, us, r, ⟨_, Heap.get?_push_size _ rfl, rfl, _, rfl⟩⟩
theorem pe_lst (h : PA X es t) : PE X (.List es pos) (tLst t) := by
 intro pins s σ H Q I hq
 refine wpAny_List_spliced (thn (h pos pins s σ H _ I hq) fun us s1 ⟨xs, H1, I1, r, z, q⟩ => ⟨by rw [← r.length]; exact z, ?_⟩)
 have hf : H1 s1.heap.objs.size = none := I1.hok.fresh (Nat.le_refl _)
 refine ⟨.ref s1.heap.objs.size, upd H1 s1.heap.objs.size (.lst xs), I1.laid (t' := s1.toks) (fun b u e => Heap.get?_push_of_some _ e) (Nat.le_refl _) ?_, rfl, q _ hf⟩
 exact ⟨z, us, 0, r, Heap.get?_push_size _ rfl⟩
end
abbrev Sp := List V → Hp → VK → XK → Prop
abbrev CXT := List Env → Hp → Shared → XK → Value → Shared → Prop
structure Env0 (P : Program) (w : World) (K : PySem.W.Frag) (mg : Str → Option Value) (base : Heap) (A : Around) (outer : List Env) (s : Shared) (H : Hp) : Prop where
 frames : A.frames = some outer
 mod : Mod K mg base
 bs : ∀ b o, base.get? b = some o → s.heap.get? b = some o ∧ H b = none
 bsz : base.objs.size ≤ s.heap.objs.size
 funs : s.heap.FunFrames base outer
 frf : ∀ b ∈ frs outer, H b = none
 hok : HOk P w H s.heap
 bare : AllBare s.gens
def CE (outer : List Env) (P : Program) (w : World) (H : Hp) (s : Shared) (Q : VK) (u : Value) (s' : Shared) : Prop :=
 ∃ v H', s'.os = s.os ∧ AllBare s'.gens ∧ Un (frs outer) [] H H' s.heap s'.heap ∧ HOk P w H' s'.heap ∧ RelV v u ∧ Q v H'
def CR (CX : CXT) (outer : List Env) (P : Program) (w : World) (H : Hp) (s : Shared) (Q : VK) (E : XK) (r : Result) (s' : Shared) : Prop :=
 match r with
 | .ok (.ret u) => CE outer P w H s Q u s'
 | .ok _ => False
 | .error e => CX outer H s E e s'
structure FnOk (P : Program) (w : World) (K : PySem.W.Frag) (mg : Str → Option Value) (base : Heap) (CX : CXT) (k : Nat) (f : Addr) (fd : FuncData) (ps : List Str) (sp : Sp) : Prop where
 len : ∀ vs H Q E, sp vs H Q E → vs.length = ps.length
 run : ∀ (A : Around) (outer : List Env) (s : Shared) (H : Hp) (args : Args) (us : List Value) (vs : List V) (Q : VK) (E : XK), Room k A → Env0 P w K mg base A outer s H → BindsTo s fd args (ps.zip us) → Vals vs us → sp vs H Q E →
  codeAny (model P w) A (.call (.ref f) args) (CR CX outer P w H s Q E) s
theorem FnOk.mono {P : Program} {w : World} {K : PySem.W.Frag} {mg : Str → Option Value} {base : Heap} {CX : CXT} {j k : Nat} {f : Addr} {fd : FuncData} {ps : List Str} {sp : Sp} (F : FnOk P w K mg base CX j f fd ps sp) (h : j ≤ k) :
  FnOk P w K mg base CX k f fd ps sp := ⟨F.len, fun A outer s H args us vs Q E hr => F.run A outer s H args us vs Q E (hr.mono h)⟩
theorem Env0.make {P : Program} {w : World} {K : PySem.W.Frag} {mg : Str → Option Value} {base : Heap} {A : Around} {outer : List Env} {s : Shared} {H : Hp} (e : Env0 P w K mg base A outer s H) (C : Addr) (us : List Value) (kw : List (Str × Value)) :
  Env0 P w K mg base (A.under (.builtin "type.__call__" ⟨.ref C :: us, kw⟩)) outer s H := ⟨by first | exact e.frames | (simpa [Around.under, Code.envs, Code.isFrame, pushEnvs] using e.frames), e.mod, e.bs, e.bsz, e.funs, e.frf, e.hok, e.bare⟩
section
variable {X : Cx} {pins : List (Addr × Obj)} {σ : St} {H : Hp} {s s' : Shared}
theorem Inv.env0 (I : Inv X pins σ H s) : Env0 X.prog X.w X.K X.mg X.base X.A X.stack s H :=
 ⟨I.ok.frames, I.ok.mod, I.bs, Nat.le_trans I.ok.bsz I.sz, I.stack, I.stkFree, I.hok, I.bare⟩
theorem Inv.after {Q : VK} {u : Value} (I : Inv X pins σ H s) (h : CE X.stack X.prog X.w H s Q u s') : EP X pins σ Q u s' := by
 obtain ⟨v, H', os, bare, un, hok, r, q⟩ := h
 obtain ⟨hh, g, d, t, os'⟩ := s'
 obtain rfl : os' = s.os := os
 exact ⟨v, H', I.call (h' := hh) (g' := g) (d' := d) (t' := t) (ch := []) un hok bare (fun b z => absurd z (by simp)), r, q⟩
end
def tCall (sp : Sp) (dvs : List V) (E : XK) (t : TA) : TE := fun σ H Q => t σ H fun vs H1 => sp (vs ++ dvs) H1 Q E
def tMake (C : Addr) (sp : Sp) (dvs : List V) (E : XK) (t : TA) : TE := fun σ H Q => t σ H fun vs H1 => ∀ x dx, H1 x = none → H1 dx = none → dx ≠ x →
 sp (.ref x :: (vs ++ dvs)) (upd (upd H1 dx (.own x)) x (.ins C dx [])) (fun v H2 => v = .non ∧ Q (.ref x) H2) E
def Binds (K : PySem.W.Frag) (fd : FuncData) (ps : List Str) (ds : List Value) : Prop :=
 ∀ (s : Shared) (us : List Value), K.In s.heap → (us ++ ds).length = ps.length → BindsTo s fd ⟨us, []⟩ (ps.zip (us ++ ds))
theorem Binds.all {K : PySem.W.Frag} {fd : FuncData} {ps : List Str} (h : ∀ us : List Value, us.length = ps.length → bindArgs fd ⟨us, []⟩ = pure (ps.zip us)) : Binds K fd ps [] := fun s us _ hl => by
 rw [List.append_nil] at hl ⊢
 exact .of_eq (h us hl)
def Passes (CX : CXT) (X : Cx) (E : XK) : Prop := ∀ (pins : List (Addr × Obj)) (σ : St) (H : Hp) (s : Shared) (e : Value) (s' : Shared), Inv X pins σ H s → CX X.stack H s E e s' → X.xe e s'
section
variable {X : Cx} {CX : CXT} {k : Nat} {f C : Addr} {fd : FuncData} {ps : List Str} {sp : Sp} {dvs : List V} {ds : List Value} {E : XK} {x m : Str} {p pos apos : Pos} {e o : Expr} {es : List Expr} {ta : TE} {t : TA}
theorem run_fn {pins : List (Addr × Obj)} {σ : St} {H : Hp} {s : Shared} {Q : VK} {us : List Value} {vs : List V} (F : FnOk X.prog X.w X.K X.mg X.base CX k f fd ps sp) (hr : Room k X.A) (hb : Binds X.K fd ps ds) (hd : Vals dvs ds) (hx : Passes CX X E)
  (I : Inv X pins σ H s) (r : Vals vs us) (h : sp (vs ++ dvs) H Q E) : wpAny (model X.prog X.w) X.A (call (.ref f) us) (EP X pins σ Q) X.xe s := by
 have r2 : Vals (vs ++ dvs) (us ++ ds) := r.append hd
 have hl : (us ++ ds).length = ps.length := by rw [← r2.length]; exact F.len _ _ _ _ h
 refine wpAny_call (codeAny_mono (F.run X.A X.stack s H ⟨us, []⟩ (us ++ ds) (vs ++ dvs) Q E hr I.env0 (hb s us I.kIn hl) r2 h) fun r s' hq => ?_)
 cases r with
 | error e => exact hx pins σ H s e s' I hq
 | ok fl =>
  cases fl with
  | ret u => exact I.after hq
  | next => exact False.elim hq
  | brk => exact False.elim hq
  | cont => exact False.elim hq
theorem pe_call (F : FnOk X.prog X.w X.K X.mg X.base CX k f fd ps sp) (hr : Room k X.A) (hg : Gl X x) (hm : X.mg x = some (.ref f)) (hk : PySem.W.keepIn X.K (.ref f) = true) (hb : Binds X.K fd ps ds) (hd : Vals dvs ds) (hx : Passes CX X E)
  (ha : PA X (e :: es) t) (hdb : (x == ("__debug__" : Str)) = false := by decide) (he : starEach (e :: es) X.env = (false, eval e X.env) :: starEach es X.env := by rfl) (hpl : (backTo pos (starEach es X.env)).any (·.1) = false := by rfl) :
  PE X (.Call (.Name x p) (e :: es) [] pos) (tCall sp dvs E t) := by
 intro pins s σ H Q I h
 refine wpAny_Call_Name_kw (ld_glob I hg hm ?_ hdb)
 refine PySem.W.callWith_K (h₀ := X.base) I.ok.mod.kin hk (thn (ha pos pins s σ H _ I h) fun us s1 ⟨vs, H1, I1, r, q⟩ => ⟨I1.kIn, ?_⟩) he hpl
 exact run_fn F hr hb hd hx I1 r q
structure Mk (K : PySem.W.Frag) (C f : Addr) : Prop where
 makes : PySem.W.makesIn K C = true
 init : PySem.W.findIn K (.ref C) "__init__" = some (some (.ref f))
 fn : PySem.W.isFn K (.ref f) = true
 kp : PySem.W.keepIn K (.ref C) = true
theorem run_make {pins : List (Addr × Obj)} {σ : St} {H : Hp} {s : Shared} {Q : VK} {us : List Value} {vs : List V} (M : Mk X.K C f) (F : FnOk X.prog X.w X.K X.mg X.base CX k f fd ps sp) (hr : Room (k + 1) X.A) (hb : Binds X.K fd ps ds) (hd : Vals dvs ds)
  (hx : Passes CX X E) (I : Inv X pins σ H s) (r : Vals vs us)
  (h : ∀ x dx, H x = none → H dx = none → dx ≠ x → sp (.ref x :: (vs ++ dvs)) (upd (upd H dx (.own x)) x (.ins C dx [])) (fun v H2 => v = .non ∧ Q (.ref x) H2) E) :
  wpAny (model X.prog X.w) X.A (call (.ref C) us) (EP X pins σ Q) X.xe s := by
 have hq := h (s.heap.objs.size + 1) s.heap.objs.size (I.hok.fresh (Nat.le_succ _)) (I.hok.fresh (Nat.le_refl _)) (Nat.ne_of_lt (Nat.lt_succ_self _))
 have I2 := Inv.made (C := C) I
 have r2 : Vals (V.ref (s.heap.objs.size + 1) :: (vs ++ dvs)) (Value.ref (s.heap.objs.size + 1) :: (us ++ ds)) := .cons rfl (r.append hd)
 have hl : (Value.ref (s.heap.objs.size + 1) :: us ++ ds).length = ps.length := by
  have e := r2.length
  rw [F.len _ _ _ _ hq] at e
  exact e.symm
 refine wpAny_call (make_map (f := f) I.kIn M.makes M.init (beq_iff_eq.mp M.fn) (codeAny_mono (F.run _ X.stack _ _ ⟨Value.ref (s.heap.objs.size + 1) :: us, []⟩ (Value.ref (s.heap.objs.size + 1) :: (us ++ ds)) _ _ E (hr.make C us [])
  (I2.env0.make C us []) (hb _ (Value.ref (s.heap.objs.size + 1) :: us) I2.kIn hl) r2 hq) fun r s' hq' => ?_))
 cases r with
 | error e => exact hx pins σ _ _ e s' I2 hq'
 | ok fl =>
  cases fl with
  | ret u =>
   obtain ⟨v, H', I3, rv, ev, q3⟩ := I2.after hq'
   subst ev
   exact ⟨rv, ⟨V.ref (s.heap.objs.size + 1), H', I3, rfl, q3⟩⟩
  | next => exact False.elim hq'
  | brk => exact False.elim hq'
  | cont => exact False.elim hq'
theorem pe_make (M : Mk X.K C f) (F : FnOk X.prog X.w X.K X.mg X.base CX k f fd ps sp) (hr : Room (k + 1) X.A) (hg : Gl X x) (hm : X.mg x = some (.ref C)) (hb : Binds X.K fd ps ds) (hd : Vals dvs ds) (hx : Passes CX X E)
  (ha : PA X (e :: es) t) (hdb : (x == ("__debug__" : Str)) = false := by decide) (he : starEach (e :: es) X.env = (false, eval e X.env) :: starEach es X.env := by rfl) (hpl : (backTo pos (starEach es X.env)).any (·.1) = false := by rfl) :
  PE X (.Call (.Name x p) (e :: es) [] pos) (tMake C sp dvs E t) := by
 intro pins s σ H Q I h
 refine wpAny_Call_Name_kw (ld_glob I hg hm ?_ hdb)
 refine PySem.W.callWith_K (h₀ := X.base) I.ok.mod.kin M.kp (thn (ha pos pins s σ H _ I h) fun us s1 ⟨vs, H1, I1, r, q⟩ => ⟨I1.kIn, ?_⟩) he hpl
 exact run_make M F hr hb hd hx I1 r q
end
section
variable {X : Cx} {CX : CXT} {k : Nat} {f C : Addr} {fd : FuncData} {ps ks : List Str} {sp : Sp} {E : XK} {x m : Str} {p pos apos kpos : Pos} {e o : Expr} {es : List Expr} {kws : List Keyword} {te ta : TE} {t tk : TA} {nm : Option Str}
variable {g : List Value → List Value → List Value} {gV : List V → List V → List V}
end
structure FnScope (N P : List Str) (sc : Scope) : Prop where
 kind : sc.kind = .function
 co : sc.isCoroutine = false
 gen : sc.isGenerator = false
 nd : N.Nodup
 pre : N.take P.length = P
 par : ∀ x ∈ P, sc.names.lookup x = some .local ∨ sc.names.lookup x = some .cell
 nofree : ∀ y ∈ sc.names, y.2 ≠ .free
theorem bindL_out {kindOf : Str → Option NameKind} {x : Str} : ∀ {binds : List (Str × Value)} {m : Str → Option Value}, (∀ v, (x, v) ∉ binds) → bindL kindOf binds m x = m x
 | [], _, _ => rfl
 | (n, v) :: r, m, h => by
  unfold bindL
  rw [bindL_out fun w hw => h w (List.mem_cons_of_mem _ hw)]
  split
  ·have : x ≠ n := by rintro rfl; exact h v List.mem_cons_self
   simp [this]
  ·rfl
theorem bindC_out {kindOf : Str → Option NameKind} {x : Str} : ∀ {binds : List (Str × Value)} {m : Str → Option Value}, (∀ v, (x, v) ∉ binds) → bindC kindOf binds m x = m x
 | [], _, _ => rfl
 | (n, v) :: r, m, h => by
  unfold bindC
  rw [bindC_out fun w hw => h w (List.mem_cons_of_mem _ hw)]
  split
  ·rfl
  ·have : x ≠ n := by rintro rfl; exact h v List.mem_cons_self
   simp [this]
theorem bindL_get {kindOf : Str → Option NameKind} {x : Str} {v : Value} : ∀ {P : List Str} {vs : List Value} {i : Nat} {m : Str → Option Value}, P.Nodup → P[i]? = some x → vs[i]? = some v → kindOf x = some .local →
  bindL kindOf (P.zip vs) m x = some v
 | [], _, _, _, _, h, _, _ => by simp at h
 | _ :: _, [], _, _, _, _, h, _ => by simp at h
 | p :: P, w :: vs, 0, m, nd, h1, h2, hk => by
  simp at h1 h2; subst h1; subst h2
  show bindL kindOf ((p, w) :: P.zip vs) m p = _
  unfold bindL
  rw [bindL_out fun v hv => (List.nodup_cons.mp nd).1 (List.of_mem_zip hv).1, if_pos hk]
  simp
 | p :: P, w :: vs, i + 1, m, nd, h1, h2, hk => by
  show bindL kindOf ((p, w) :: P.zip vs) m x = _
  unfold bindL
  exact bindL_get (i := i) (List.nodup_cons.mp nd).2 (by simpa using h1) (by simpa using h2) hk
theorem bindC_get {kindOf : Str → Option NameKind} {x : Str} {v : Value} : ∀ {P : List Str} {vs : List Value} {i : Nat} {m : Str → Option Value}, P.Nodup → P[i]? = some x → vs[i]? = some v → kindOf x ≠ some .local →
  bindC kindOf (P.zip vs) m x = some v
 | [], _, _, _, _, h, _, _ => by simp at h
 | _ :: _, [], _, _, _, _, h, _ => by simp at h
 | p :: P, w :: vs, 0, m, nd, h1, h2, hk => by
  simp at h1 h2; subst h1; subst h2
  show bindC kindOf ((p, w) :: P.zip vs) m p = _
  unfold bindC
  rw [bindC_out fun v hv => (List.nodup_cons.mp nd).1 (List.of_mem_zip hv).1, if_neg hk]
  simp
 | p :: P, w :: vs, i + 1, m, nd, h1, h2, hk => by
  show bindC kindOf ((p, w) :: P.zip vs) m x = _
  unfold bindC
  exact bindC_get (i := i) (List.nodup_cons.mp nd).2 (by simpa using h1) (by simpa using h2) hk
def start (N : List Str) (vs : List V) : St := vs.map some ++ List.replicate (N.length - vs.length) none
def cxOf (CX : CXT) (P : Program) (w : World) (K : PySem.W.Frag) (mg : Str → Option Value) (base : Heap) (N : List Str) (qual : Str) (scope : Scope) (f : Addr) (cd : Value) (A : Around) (outer : List Env) (s : Shared) (H : Hp) (E : XK) : Cx where
 prog := P
 w := w
 K := K
 mg := mg
 base := base
 A := A.deeper (envOfC qual scope s.heap.objs.size f cd)
 N := N
 s_0 := s
 H_0 := H
 env := envOfC qual scope s.heap.objs.size f cd
 outer := outer
 stack := envOfC qual scope s.heap.objs.size f cd :: outer
 ex := []
 calm := true
 fn := fun _ => true
 pn := []
 xe := fun e s' => wpAny (model P w) (A.deeper (envOfC qual scope s.heap.objs.size f cd)) (leaving (envOfC qual scope s.heap.objs.size f cd) e) (fun _ s'' => CX outer H s E e s'') (fun e' s'' => CX outer H s E e' s'') s'
theorem cell_has {sc : Scope} {n : Nat} {x : Str} (h : sc.names.lookup x = some .cell) : ∃ c, (cellsFrom n sc.names []).lookup x = some c := by
 have q := PySem.W.cellsFrom_some sc.names n [] (.inl h)
 exact Option.isSome_iff_exists.mp q
theorem inv_start {CX : CXT} {P : Program} {w : World} {K : PySem.W.Frag} {mg : Str → Option Value} {base : Heap} {N ps : List Str} {qual : Str} {scope : Scope} {f : Addr} {cd : Value} {A : Around} {outer : List Env} {s s1 : Shared} {H : Hp} {E : XK} {us : List Value} {vs : List V}
  (S : FnScope N ps scope) (hd : A.handled = none) (e0 : Env0 P w K mg base A outer s H) (hl : vs.length = ps.length) (r : Vals vs us)
  (x : InCallC s s.heap.objs.size (bindL (envOfC qual scope s.heap.objs.size f cd).kindOf (ps.zip us) fun _ => none) (cellsFrom (s.heap.objs.size + 1) scope.names []) (bindC (envOfC qual scope s.heap.objs.size f cd).kindOf (ps.zip us) fun _ => none) s1) :
  Inv (cxOf CX P w K mg base N qual scope f cd A outer s H E) [] (start N vs) H s1 := by
 have hpl : ps.length ≤ N.length := by have := congrArg List.length S.pre; rw [List.length_take] at this; omega
 obtain ⟨h1, tk, rfl, hk⟩ := x.done
 have noA : ∀ b : Addr, b ∉ (cxOf CX P w K mg base N qual scope f cd A outer s H E).ex := fun b z => absurd (show b ∈ ([] : List Addr) from z) (by simp)
 refine ⟨⟨e0.mod, S.kind, rfl, rfl, Nat.le_refl _, fun y z c h1 h2 => ?_, fun y hy => ?_, fun y c _ h => ?_, fun _ => hd, Around.frames_deeper e0.frames, .inr ⟨rfl, rfl⟩, fun b z => absurd z (noA b), e0.bs, e0.bsz, fun b _ _ => noA b, fun b z => absurd z (noA b), e0.funs, e0.frf⟩,
  rfl, e0.bare, Un.kept hk, ⟨_, x.toInCall.ns, fun i y v h1 h2 h3 => ?_⟩, fun y c h => ⟨_, x.cell y c h⟩, e0.hok.fresh (Nat.le_refl _), fun y c h => ?_, fun p hp => absurd (show p ∈ ([] : List (Addr × Obj)) from hp) (by simp), e0.hok.kept hk, ?_⟩
 ·exact name_of_addr x.apart (PySem.mem_of_lookup h1) (PySem.mem_of_lookup h2)
 ·have hy : scope.names.lookup y = some .cell ∨ scope.names.lookup y = some .free := hy
  rcases hy with hy | hy
  ·exact cell_has hy
  ·exact absurd rfl (S.nofree _ (PySem.mem_of_lookup hy))
 ·exact Nat.le_of_lt (x.above y c (PySem.mem_of_lookup h))
 ·have hi : i < vs.length := by
   unfold start at h2
   by_cases hi : i < vs.length
   ·exact hi
   ·rw [List.getElem?_append_right (by simpa using hi)] at h2
    rw [List.getElem?_replicate] at h2
    split at h2 <;> cases h2
  have ha : vs[i]? = some v := by
   unfold start at h2
   rw [List.getElem?_append_left (by simpa using hi), List.getElem?_map] at h2
   cases e : vs[i]? with
   | none => rw [e] at h2; cases h2
   | some a => rw [e] at h2; cases h2; rfl
  obtain ⟨u, hu, rv⟩ := r.get ha
  have hp : ps[i]? = some y := by
   rw [← S.pre, List.getElem?_take_of_lt (by omega)]; exact h1
  have ndP : ps.Nodup := by rw [← S.pre]; exact S.nd.sublist (List.take_sublist _ _)
  refine ⟨u, rv, ?_⟩
  rcases S.par y (List.mem_of_getElem? hp) with k | k
  ·exact .inl ⟨k, bindL_get ndP hp hu k⟩
  ·obtain ⟨c, e⟩ := cell_has (n := s.heap.objs.size + 1) k
   refine .inr ⟨.inl k, c, e, ?_⟩
   have q := x.cell y c e
   rw [bindC_get ndP hp hu (by show scope.names.lookup y ≠ _; rw [k]; decide)] at q
   exact q
 ·exact e0.hok.fresh (Nat.le_of_lt (x.above y c (PySem.mem_of_lookup h)))
 ·unfold start
  show _ = N.length
  rw [List.length_append, List.length_map, List.length_replicate]
  omega
theorem fn_of {CX : CXT} {P : Program} {w : World} {K : PySem.W.Frag} {mg : Str → Option Value} {base : Heap} {k : Nat} {f : Addr} {name qual : Str} {params : Arguments} {body : List Stmt} {scope : Scope} {dV kV doc pm cdv ct oc : Value} {an od : Option Addr}
  {osl : Array (Option Value)} {N ps : List Str} {sp : Sp} (lk : K.lookup f = some ⟨oc, od, .func (PySem.W.fnOf name qual params body scope dV kV doc pm an cdv ct), osl⟩) (hcd : PySem.W.codeIn K cdv qual = true) (S : FnScope N ps scope)
  (len : ∀ vs H Q E, sp vs H Q E → vs.length = ps.length)
  (hbody : ∀ (A : Around) (outer : List Env) (s : Shared) (H : Hp) (vs : List V) (Q : VK) (E : XK), Room k (A.deeper (envOfC qual scope s.heap.objs.size f cdv)) → sp vs H Q E →
   ∃ t, PSs (cxOf CX P w K mg base N qual scope f cdv A outer s H E) body t ∧ t { nx := fun _ H' => Q .non H', rt := Q } (start N vs) H) :
  FnOk P w K mg base CX (k + 1) f (PySem.W.fnOf name qual params body scope dV kV doc pm an cdv ct) ps sp := by
 refine ⟨len, fun A outer s H args us vs Q E hr e0 hb r hsp => ?_⟩
 have hl := len _ _ _ _ hsp
 have KX : K.In s.heap := e0.mod.kin.keeps fun b o e => (e0.bs b o e).1
 have lim : s.heap.NoLimit := e0.mod.nolimit.keeps fun b o e => (e0.bs b o e).1
 have hkind : ∀ y ∈ ps.zip us, scope.names.lookup y.1 = some .local ∨ (scope.names.lookup y.1 = some .cell ∧ ((cellsFrom (s.heap.objs.size + 1) scope.names []).lookup y.1).isSome = true) := fun ⟨n, v⟩ hy => by
  rcases S.par n (List.of_mem_zip hy).1 with q | q
  ·exact .inl q
  ·exact .inr ⟨q, PySem.W.cellsFrom_some _ _ _ (.inl q)⟩
 refine codeAny_call_function hr.depth (KX _ _ lk) rfl S.co S.gen rfl (PySem.W.codeRec_of KX hcd) (hb _ _ _ _ ?_)
 refine wpAny_newFunctionEnv_cells S.kind hkind fun env he s1 x => ?_
 subst he
 refine ⟨lim.keeps x.toInCall.keep, codeAny_func ?_⟩
 obtain ⟨t, ht, hq⟩ := hbody A outer s H vs Q E (hr.deeper _) hsp
 have I : Inv (cxOf CX P w K mg base N qual scope f cdv A outer s H E) [] (start N vs) H s1 := inv_start S hr.hd e0 hl r x
 refine wpAny_mono (ht [] s1 (start N vs) H _ I hq) (fun fl s' hs => ?_) fun e s' hs => hs
 have fin : ∀ {σ' : St} {H' : Hp} {v : V} {u : Value}, Inv (cxOf CX P w K mg base N qual scope f cdv A outer s H E) [] σ' H' s' → RelV v u → Q v H' → CE outer P w H s Q u s' :=
  fun {σ' H' v u} J rv q => ⟨v, H', J.os, J.bare, J.base, J.hok, rv, q⟩
 cases fl with
 | ret u =>
  obtain ⟨v, σ', H', J, rv, q⟩ := hs
  exact fin J rv q
 | next =>
  obtain ⟨σ', H', J, q⟩ := hs
  exact fin (v := V.non) (u := Value.none) J rfl q
 | brk =>
  obtain ⟨_, _, _, q⟩ := hs
  exact False.elim q
 | cont =>
  obtain ⟨_, _, _, q⟩ := hs
  exact False.elim q
end L2
namespace L2
open PySem PySem.Spec PyProof.Rows
section
variable {X : Cx} {x : Str} {p pos : Pos} {e : Expr} {es : List Expr} {t : TA} {id T : String} {r : List V → Hp → VK → Prop}
def tCB (r : List V → Hp → VK → Prop) (t : TA) : TE := fun σ H Q => t σ H fun vs H1 => r vs H1 Q
theorem pe_callB (hc : CallR X (.builtin id) r) (hg : Gl X x) (hm : X.mg x = none) (hv : bootBuiltins x = some (.builtin id)) (ha : PA X (e :: es) t) (hn : x ≠ "__name__" := by decide) (hdb : (x == ("__debug__" : Str)) = false := by decide)
  (he : starEach (e :: es) X.env = (false, eval e X.env) :: starEach es X.env := by rfl) (hpl : (backTo pos (starEach es X.env)).any (·.1) = false := by rfl) : PE X (.Call (.Name x p) (e :: es) [] pos) (tCB r t) := by
 intro pins s σ H Q I h
 refine wpAny_Call_Name_kw (ld_blt I hg hm hv ?_ hn hdb)
 exact PyProof.Rows.callWith_builtin1 (thn (ha pos pins s σ H _ I h) fun us s1 ⟨vs, H1, I1, r1, q1⟩ => hc pins s1 σ H1 vs us Q I1 r1 q1) he hpl
theorem pe_callTy (hc : CallR X (.type T) r) (hg : Gl X x) (hm : X.mg x = none) (hv : bootBuiltins x = some (.type T)) (ha : PA X (e :: es) t) (hn : x ≠ "__name__" := by decide) (hdb : (x == ("__debug__" : Str)) = false := by decide)
  (he : starEach (e :: es) X.env = (false, eval e X.env) :: starEach es X.env := by rfl) (hpl : (backTo pos (starEach es X.env)).any (·.1) = false := by rfl) : PE X (.Call (.Name x p) (e :: es) [] pos) (tCB r t) := by
 intro pins s σ H Q I h
 refine wpAny_Call_Name_kw (ld_blt I hg hm hv ?_ hn hdb)
 exact PyProof.Rows.callWith_type1 (thn (ha pos pins s σ H _ I h) fun us s1 ⟨vs, H1, I1, r1, q1⟩ => hc pins s1 σ H1 vs us Q I1 r1 q1) he hpl
end
end L2
namespace HT
open PySem PyProof.Rows
section
open PySem.SeqAt
open PySem.AutoSeq1 (wpAny_loadPart')
open PySem.MeetsSeq PySem.MeetsSeq2 PySem.MeetsSeq3
end
section
variable {prog : Program} {w : World} {A : Around} {E : Value → Shared → Prop} {s : Shared}
def sIx (n d : Nat) : Option Int → Nat
 | none => d
 | some v => if v < 0 then (v + (n : Int)).toNat else min v.toNat n
theorem sIx_none (n d : Nat) : sIx n d none = d := rfl
theorem sIx_nat (n d k : Nat) : sIx n d (some (k : Int)) = min k n := by
 show (if (k : Int) < 0 then ((k : Int) + (n : Int)).toNat else min (k : Int).toNat n) = min k n
 rw [if_neg (by omega), Int.toNat_natCast]
end
end HT
namespace L2
open PySem PySem.Spec PyProof.Rows
abbrev TO := St → Hp → (Option Int → Hp → Prop) → Prop
def PO (X : Cx) (e : Option Expr) (t : TO) : Prop :=
 ∀ (pins : List (Addr × Obj)) (s : Shared) (σ : St) (H : Hp) (Q : Option Int → Hp → Prop), Inv X pins σ H s → t σ H Q →
  wpAny (model X.prog X.w) X.A (evalPart e X.env) (fun u s' => ∃ o H', Inv X pins σ H' s' ∧ IsPart u o ∧ Q o H') X.xe s
def tNoPart : TO := fun _ H Q => Q none H
def tPart (t : TE) : TO := fun σ H Q => t σ H fun x H1 => ∃ i, x = .int i ∧ Q (some i) H1
section
variable {X : Cx} {e : Expr} {te : TE} {lo hi : Option Expr} {tl th : TO} {pos p2 : Pos}
theorem po_none : PO X none tNoPart := by
 intro pins s σ H Q I h
 rw [evalPart_none]
 exact wpAny_pure ⟨none, H, I, .none, h⟩
theorem po_some (h : PE X e te) : PO X (some e) (tPart te) := by
 intro pins s σ H Q I hw
 rw [evalPart_some]
 refine thn (h pins s σ H _ I hw) fun u s1 ⟨x, H1, I1, r1, q1⟩ => ?_
 obtain ⟨i, rfl, q⟩ := q1
 obtain ⟨t, rfl⟩ := r1
 exact ⟨some i, H1, I1, .int i t, q⟩
def SlR (X : Cx) (r : V → Option Int → Option Int → Hp → VK → Prop) : Prop :=
 ∀ (pins : List (Addr × Obj)) (s : Shared) (σ : St) (H : Hp) (x : V) (v vl vu : Value) (lo hi : Option Int) (sl : Addr) (Q : VK), Inv X pins σ H s → RelV x v → s.heap.IsSliceOf sl vl vu .none → IsPart vl lo → IsPart vu hi → r x lo hi H Q →
  ∃ T id, typeLookup (.type T) "__getitem__" = pure (some (.builtin id)) ∧ s.TypeIs v T ∧ wpAny (model X.prog X.w) X.A (getItem v (.ref sl)) (EP X pins σ Q) X.xe s
def tSl (r : V → Option Int → Option Int → Hp → VK → Prop) (te : TE) (tl th : TO) : TE := fun σ H Q => te σ H fun x H1 => tl σ H1 fun l H2 => th σ H2 fun u H3 => r x l u H3 Q
theorem pe_slice {r : V → Option Int → Option Int → Hp → VK → Prop} (hr : SlR X r) (he : PE X e te) (hl : PO X lo tl) (hu : PO X hi th) : PE X (.Subscript e (.Slice lo hi none p2) pos) (tSl r te tl th) := by
 intro pins s σ H Q I h
 refine Subscript_ (thn (he pins s σ H _ I h) fun v s1 ⟨x, H1, I1, r1, q1⟩ => ?_)
 refine wpAny_Slice (thn (hl pins s1 σ H1 _ I1 q1) fun vl s2 ⟨l, H2, I2, pl, q2⟩ => thn (hu pins s2 σ H2 _ I2 q2) fun vu s3 ⟨u, H3, I3, pu, q3⟩ => ?_)
 rw [evalPart_none]
 refine wpAny_pure ?_
 have I4 : Inv X pins σ H3 { s3 with heap := s3.heap.push { cls := .type "slice", data := .fields #[vl, vu, .none] } } := I3.kept (t' := s3.toks) fun b ob q => Heap.get?_push_of_some _ q
 obtain ⟨T, id, hT, ht, hg⟩ := hr pins { s3 with heap := s3.heap.push { cls := .type "slice", data := .fields #[vl, vu, .none] } } σ H3 x v vl vu l u s3.heap.objs.size Q I4 r1 (Heap.IsSliceOf.new ..) pl pu q3
 show wpAny (model X.prog X.w) X.A (subscriptTail e (.Slice lo hi none p2) v (.ref s3.heap.objs.size)) (EP X pins σ Q) X.xe { s3 with heap := s3.heap.push { cls := .type "slice", data := .fields #[vl, vu, .none] } }
 exact tail_any (ops := [.ref s3.heap.objs.size, v]) ht hT hg (by with_unfolding_all rfl)
def cutV (xs : List V) (lo hi : Option Int) : List V := (xs.drop (HT.sIx xs.length 0 lo)).take (HT.sIx xs.length xs.length hi - HT.sIx xs.length 0 lo)
theorem cutV_length (xs : List V) (lo hi : Option Int) : (cutV xs lo hi).length ≤ xs.length := by
 unfold cutV
 rw [List.length_take, List.length_drop]
 omega
end
end L2
namespace L2
open PySem PySem.Spec PyProof.Rows
def ixN (n : Nat) (i : Int) : Option Nat := if 0 ≤ i then (if i < n then some i.toNat else none) else if -(n : Int) ≤ i then some (i + n).toNat else none
def atI {α : Type} (xs : List α) (i : Int) : Option α := (ixN xs.length i).bind fun j => xs[j]?
theorem ixN_seq {n : Nat} {i : Int} {j : Nat} (h : ixN n i = some j) : seqIndex? i n = some j ∧ j < n ∧ -(n : Int) ≤ i ∧ i < n := by
 unfold ixN at h
 by_cases h0 : 0 ≤ i
 ·rw [if_pos h0] at h
  by_cases h1 : i < n
  ·rw [if_pos h1] at h
   have e : i.toNat = j := Option.some.inj h
   exact ⟨by rw [seqIndex_of h0 h1, e], by omega, by omega, h1⟩
  ·rw [if_neg h1] at h; cases h
 ·rw [if_neg h0] at h
  by_cases h1 : -(n : Int) ≤ i
  ·rw [if_pos h1] at h
   have e : (i + n).toNat = j := Option.some.inj h
   exact ⟨by rw [seqIndex_neg (by omega) h1, e], by omega, h1, by omega⟩
  ·rw [if_neg h1] at h; cases h
theorem atI_get {α : Type} {xs : List α} {i : Int} {v : α} (h : atI xs i = some v) : ∃ j, seqIndex? i xs.length = some j ∧ xs[j]? = some v ∧ j < xs.length ∧ -(xs.length : Int) ≤ i ∧ i < xs.length := by
 unfold atI at h
 cases e : ixN xs.length i with
 | none => rw [e] at h; cases h
 | some j =>
  rw [e] at h
  obtain ⟨h1, h2, h3, h4⟩ := ixN_seq e
  exact ⟨j, h1, h, h2, h3, h4⟩
theorem atI_nat {α : Type} {xs : List α} {j : Nat} {v : α} (h : xs[j]? = some v) : atI xs (j : Int) = some v := by
 have hj : j < xs.length := (List.getElem?_eq_some_iff.mp h).1
 have e : ixN xs.length (j : Int) = some j := by
  unfold ixN
  rw [if_pos (by omega), if_pos (by omega)]; simp
 unfold atI; rw [e]; exact h
theorem atI_last {α : Type} (xs : List α) (v : α) : atI (xs ++ [v]) (-1) = some v := by
 have hl : (xs ++ [v]).length = xs.length + 1 := by simp
 have e : ixN (xs ++ [v]).length (-1) = some xs.length := by
  unfold ixN
  rw [hl, if_neg (by decide), if_pos (by omega)]
  congr 1
  omega
 unfold atI
 rw [e]
 show (xs ++ [v])[xs.length]? = some v
 simp
def PlainIx (b : Expr) : Prop := ∀ o i, subscripted b false o i = operate [o, i] (getItem o i)
def IxR (X : Cx) (r : R2) : Prop :=
 ∀ (value slice : Expr) (pins : List (Addr × Obj)) (s : Shared) (σ : St) (H : Hp) (x y : V) (v u : Value) (Q : VK), Inv X pins σ H s → RelV x v → RelV y u → r x y H Q →
  subscripted slice false v u = operate [v, u] (getItem v u) → wpAny (model X.prog X.w) X.A (subscriptTail value slice v u) (EP X pins σ Q) X.xe s
def MtR (X : Cx) (id : String) (r : V → List V → Hp → VK → Prop) : Prop :=
 ∀ (pins : List (Addr × Obj)) (s : Shared) (σ : St) (H : Hp) (x : V) (xs : List V) (v : Value) (us : List Value) (Q : VK), Inv X pins σ H s → RelV x v → Vals xs us → r x xs H Q →
  wpAny (model X.prog X.w) X.A (call (.builtin id) (v :: us)) (EP X pins σ Q) X.xe s
section
variable {X : Cx} {a b : Expr} {ta tb : TE} {pos : Pos}
theorem pe_ix {r : R2} (hr : IxR X r) (ha : PE X a ta) (hb : PE X b tb) (hs : PlainIx b) : PE X (.Subscript a b pos) (tOp r ta tb) := by
 intro pins s σ H Q I h
 exact Subscript_ (binT ha hb I h fun v u s2 x y H2 I2 rx ry q => hr a b pins s2 σ H2 x y v u Q I2 rx ry q (hs _ _))
def rIxL (K : PySem.W.Frag) : R2 := fun x y H Q => ∃ p xs i v, x = .ref p ∧ y = .int i ∧ SqL K H p xs ∧ atI xs i = some v ∧ Q v H
def rIxT (K : PySem.W.Frag) : R2 := fun x y H Q => ∃ p xs i v, x = .ref p ∧ y = .int i ∧ SqT K H p xs ∧ atI xs i = some v ∧ Q v H
theorem ix_list : IxR X (rIxL X.K) := by
 intro value slice pins s σ H x y v u Q I rx ry h hs
 obtain ⟨p, xs, i, z, rfl, rfl, hq, he, q⟩ := h
 cases rx
 obtain ⟨t, rfl⟩ := ry
 obtain ⟨its, r, pl, hz⟩ := I.list hq
 obtain ⟨j, h1, h2, h3, h4, h5⟩ := atI_get he
 obtain ⟨w, ew, rw'⟩ := r.get h2
 have hl := r.length
 have hn := line63
 have fin : EP X pins σ Q w s := ⟨z, H, I, rw', q⟩
 by_cases h0 : 0 ≤ i
 ·have hj : i.toNat = j := by
   rw [seqIndex_of h0 h5] at h1
   exact Option.some.inj h1
  exact item_listR pl.isList h0 (by omega) (by rw [hj]; simpa using ew) fin hs
 ·have hj : (i + (its.toArray.size : Int)).toNat = j := by
   rw [seqIndex_neg (by omega) h4] at h1
   rw [List.size_toArray, ← hl]
   exact Option.some.inj h1
  exact subscriptTail_builtinR (x := w) pl.isList.typeIs slot_list_getitem.lookup
   (wpAny_getItem_list_neg (Q := fun r s' => r = w ∧ EP X pins σ Q r s') pl.isList (by omega) (by rw [List.size_toArray] <;> omega) (by omega) (by rw [hj]; simpa using ew) ⟨rfl, fin⟩) hs
theorem ix_tup : IxR X (rIxT X.K) := by
 intro value slice pins s σ H x y v u Q I rx ry h hs
 obtain ⟨p, xs, i, z, rfl, rfl, hq, he, q⟩ := h
 cases rx
 obtain ⟨t, rfl⟩ := ry
 obtain ⟨its, r, pl, hz⟩ := I.tuple hq
 obtain ⟨j, h1, h2, h3, h4, h5⟩ := atI_get he
 obtain ⟨w, ew, rw'⟩ := r.get h2
 have hl := r.length
 have hn := line63
 have fin : EP X pins σ Q w s := ⟨z, H, I, rw', q⟩
 exact subscriptTail_builtinR (x := w) pl.typeIs slot_tuple_getitem.lookup
  (getItem_tuple (j := j) (Q := fun r s' => r = w ∧ EP X pins σ Q r s') pl (by omega) (by omega) (by rw [List.size_toArray, ← hl]; exact h1) (by simpa using ew) ⟨rfl, fin⟩) hs
theorem mapSeq_set (its : List Value) (n j : Nat) (u : Value) : Obj.mapSeq (·.setIfInBounds j u) { cls := .type "list", data := .seq its.toArray n } = { cls := .type "list", data := .seq (its.set j u).toArray n } := by
 simp [Obj.mapSeq]
theorem Inv.lst {pins : List (Addr × Obj)} {σ : St} {H : Hp} {s : Shared} {p : Addr} {xs : List V} (I : Inv X pins σ H s) (h : H p = some (.lst xs)) :
  ∃ (its : List Value) (n : Nat), Vals xs its ∧ s.heap.get? p = some { cls := .type "list", data := .seq its.toArray n } ∧ xs.length ≤ sizeLine := by
 obtain ⟨z, its, n, r, e⟩ := I.hok p _ h
 exact ⟨its, n, r, e, z⟩
theorem Inv.lstUpd {pins : List (Addr × Obj)} {σ : St} {H : Hp} {s : Shared} {p : Addr} {xs ys : List V} {its its' : List Value} {n n' : Nat} {f : Obj → Obj} (I : Inv X pins σ H s) (h : H p = some (.lst xs))
  (ho : s.heap.get? p = some { cls := .type "list", data := .seq its.toArray n }) (hf : f { cls := .type "list", data := .seq its.toArray n } = { cls := .type "list", data := .seq its'.toArray n' }) (r : Vals ys its') (hz : ys.length ≤ sizeLine) (t : Nat) :
  Inv X pins σ (upd H p (.lst ys)) { s with heap := s.heap.update p f, toks := t } := by
 have e : (s.heap.update p f).get? p = some { cls := .type "list", data := .seq its'.toArray n' } := by
  rw [Heap.get?_update_self f ho (by rw [hf] <;> rfl), hf]
 refine I.write (x := p) (e := p) (by rw [h]; trivial) (.inl rfl) (fun b u hb q => (Heap.get?_update_other _ _ (Ne.symm hb)).trans q) ⟨_, e⟩ ?_
 exact ⟨hz, its', n', r, e⟩
def rSetL : V → V → V → Hp → (Hp → Prop) → Prop := fun o i v H Q => ∃ p xs k j, o = .ref p ∧ i = .int k ∧ H p = some (.lst xs) ∧ ixN xs.length k = some j ∧ Q (upd H p (.lst (xs.set j v)))
theorem set_list : PSet X rSetL := by
 intro pins s σ H o i v ov iv u Q I ro ri rv h
 obtain ⟨p, xs, k, j, rfl, rfl, hp, hj, q⟩ := h
 cases ro
 obtain ⟨t, rfl⟩ := ri
 obtain ⟨its, n, r, ho, hz⟩ := I.lst hp
 obtain ⟨h1, h2, h3, h4⟩ := ixN_seq hj
 have hl := r.length
 have hn := line63
 have I' : Inv X pins σ (upd H p (.lst (xs.set j v))) { s with heap := s.heap.update p (Obj.mapSeq (·.setIfInBounds j u)) } :=
  I.lstUpd hp ho (mapSeq_set its n j u) (r.set rv j) (by rw [List.length_set]; exact hz) s.toks
 by_cases h0 : 0 ≤ k
 ·have hk : k.toNat = j := by
   rw [seqIndex_of h0 h4] at h1
   exact Option.some.inj h1
  exact PySem.W.ki_setAt ho h0 (by omega) (by rw [List.size_toArray, ← hl]; exact h4) (by rw [hk]; exact ⟨_, I', q⟩)
 ·have hk : (k + (its.toArray.size : Int)).toNat = j := by
   rw [seqIndex_neg (by omega) h3] at h1
   rw [List.size_toArray, ← hl]
   exact Option.some.inj h1
  exact PySem.W.ki_setBack ho (by omega) (by rw [List.size_toArray, ← hl]; exact h3) (by omega) (by rw [hk]; exact ⟨_, I', q⟩)
theorem slice_bounds (lo hi : Option Int) (n : Nat) : (sliceBounds lo hi none n).1 = ((HT.sIx n 0 lo : Nat) : Int) ∧ (sliceBounds lo hi none n).2.1 = ((HT.sIx n n hi : Nat) : Int) ∧ (sliceBounds lo hi none n).2.2 = 1 := by
 refine ⟨?_, ?_, rfl⟩
 ·cases lo with
  | none => simp [sliceBounds, HT.sIx]
  | some i =>
   simp only [sliceBounds, HT.sIx, Option.getD_none, show (1 : Int) > 0 by decide, if_true]
   by_cases h : i < 0
   ·simp only [h, if_true] <;> omega
   ·simp only [h, if_false] <;> omega
 ·cases hi with
  | none => simp [sliceBounds, HT.sIx]
  | some i =>
   simp only [sliceBounds, HT.sIx, Option.getD_none, show (1 : Int) > 0 by decide, if_true]
   by_cases h : i < 0
   ·simp only [h, if_true] <;> omega
   ·simp only [h, if_false] <;> omega
theorem slicePick_cut (its : List Value) (lo hi : Option Int) : slicePick its.toArray lo hi none = ((its.drop (HT.sIx its.length 0 lo)).take (HT.sIx its.length its.length hi - HT.sIx its.length 0 lo)).toArray := by
 obtain ⟨h1, h2, h3⟩ := slice_bounds lo hi its.toArray.size
 unfold slicePick
 rw [h1, h2, h3]
 simp only [sliceRange_one, pick_run, List.size_toArray] <;> rfl
def rSlL (K : PySem.W.Frag) : V → Option Int → Option Int → Hp → VK → Prop := fun x lo hi H Q => ∃ a xs, x = .ref a ∧ SqL K H a xs ∧ ∀ p, H p = none → Q (.ref p) (upd H p (.lst (cutV xs lo hi)))
theorem sl_list : SlR X (rSlL X.K) := by
 intro pins s σ H x v vl vu lo hi sl Q I rx hs pl pu h
 obtain ⟨a, xs, rfl, hx, q⟩ := h
 cases rx
 obtain ⟨its, r, ht, hz⟩ := I.list hx
 have hlen := r.length
 refine ⟨"list", _, slot_list_getitem.lookup, ht.isList.typeIs, ?_⟩
 refine wpAny_getItem_list_slice ht.isList hs pl pu .none (by simp) ?_ (by rw [List.size_toArray] <;> omega)
 rw [slicePick_cut, ← hlen]
 refine ⟨.ref s.heap.objs.size, _, I.laid (t' := s.toks) (o := .lst (cutV xs lo hi)) (fun b ob q => Heap.get?_push_of_some _ q) (Nat.le_refl _) ?_, rfl, q _ (I.hok.fresh (Nat.le_refl _))⟩
 exact ⟨Nat.le_trans (cutV_length xs lo hi) hz, _, 0, (r.drop (HT.sIx xs.length 0 lo)).take (HT.sIx xs.length xs.length hi - HT.sIx xs.length 0 lo), Heap.get?_push_size _ rfl⟩
def flatV : V → Bool
 | .non => true
 | .bl _ => true
 | .int _ => true
 | .str _ => true
 | _ => false
def eqV : V → V → Bool
 | .non, .non => true
 | .bl a, .bl b => a == b
 | .bl a, .int b => (if a then 1 else 0) == b
 | .int a, .bl b => a == (if b then 1 else 0)
 | .int a, .int b => a == b
 | .str a, .str b => a == b
 | _, _ => false
theorem eqAt_V {A : Around} {s : Shared} {y x : V} {u v : Value} (ry : RelV y u) (rx : RelV x v) (fy : flatV y = true) (fx : flatV x = true) : SeqAt.EqAt A s u v (eqV y x) := by
 cases y with
 | non =>
  cases ry
  cases x with
  | non => cases rx; exact SeqAt.EqAt.same _
  | bl b => cases rx; exact SeqAt.EqAt.none_bool b
  | int b => obtain ⟨t, rfl⟩ := rx; exact SeqAt.EqAt.none_int b t
  | str b => obtain ⟨t, rfl⟩ := rx; exact SeqAt.EqAt.none_str b t
  | _ => exact absurd (show false = true from fx) Bool.false_ne_true
 | bl a =>
  cases ry
  cases x with
  | non => cases rx; exact SeqAt.EqAt.bool_none a
  | bl b => cases rx; exact SeqAt.EqAt.bool_bool a b
  | int b => obtain ⟨t, rfl⟩ := rx; exact SeqAt.EqAt.bool_int a b t
  | str b => obtain ⟨t, rfl⟩ := rx; exact SeqAt.EqAt.bool_str a b t
  | _ => exact absurd (show false = true from fx) Bool.false_ne_true
 | int a =>
  obtain ⟨t', rfl⟩ := ry
  cases x with
  | non => cases rx; exact SeqAt.EqAt.int_none a t'
  | bl b => cases rx; exact SeqAt.EqAt.int_bool a t' b
  | int b => obtain ⟨t, rfl⟩ := rx; exact SeqAt.EqAt.int_int a t' b t
  | str b => obtain ⟨t, rfl⟩ := rx; exact SeqAt.EqAt.int_str a t' b t
  | _ => exact absurd (show false = true from fx) Bool.false_ne_true
 | str a =>
  obtain ⟨t', rfl⟩ := ry
  cases x with
  | non => cases rx; exact SeqAt.EqAt.str_none a t'
  | bl b => cases rx; exact SeqAt.EqAt.str_bool a t' b
  | int b => obtain ⟨t, rfl⟩ := rx; exact SeqAt.EqAt.str_int a t' b t
  | str b => obtain ⟨t, rfl⟩ := rx; exact SeqAt.EqAt.str_str a t' b t
  | _ => exact absurd (show false = true from fx) Bool.false_ne_true
 | _ => exact absurd (show false = true from fy) Bool.false_ne_true
def eqU (x : V) (u : Value) : Bool := match u with
 | .none => eqV .non x
 | .bool b => eqV (.bl b) x
 | .int i _ => eqV (.int i) x
 | .str z _ => eqV (.str z) x
 | _ => false
theorem eqU_of {x y : V} {u : Value} (r : RelV y u) (f : flatV y = true) : eqU x u = eqV y x := by
 cases y with
 | non => cases r; rfl
 | bl b => cases r; rfl
 | int i => obtain ⟨t, rfl⟩ := r; rfl
 | str z => obtain ⟨t, rfl⟩ := r; rfl
 | _ => exact absurd (show false = true from f) Bool.false_ne_true
theorem any_eqU {x : V} : ∀ {xs : List V} {us : List Value}, Vals xs us → xs.all flatV = true → us.any (eqU x) = xs.any fun y => eqV y x
 | _, _, .nil, _ => rfl
 | y :: xs, u :: us, .cons r t, f => by
  rw [List.all_cons, Bool.and_eq_true] at f
  rw [List.any_cons, List.any_cons, eqU_of r f.1, any_eqU t f.2]
theorem mem_eqAt {A : Around} {s : Shared} {x : V} {v : Value} (rx : RelV x v) (fx : flatV x = true) : ∀ {xs : List V} {us : List Value}, Vals xs us → xs.all flatV = true → ∀ u ∈ us, SeqAt.EqAt A s u v (eqU x u)
 | _, _, .nil, _ => fun u hu => by cases hu
 | y :: xs, u :: us, .cons r t, f => fun u' hu => by
  rw [List.all_cons, Bool.and_eq_true] at f
  rcases List.mem_cons.mp hu with rfl | hu
  ·rw [eqU_of r f.1]; exact eqAt_V r rx f.1 fx
  ·exact mem_eqAt rx fx t f.2 u' hu
def inV (x : V) (xs : List V) : Bool := xs.any fun y => eqV y x
def rIn (K : PySem.W.Frag) (neg : Bool) : R2 := fun x y H Q => ∃ p xs, y = .ref p ∧ (SqL K H p xs ∨ SqT K H p xs) ∧ flatV x = true ∧ xs.all flatV = true ∧ Q (.bl (if neg then !inV x xs else inV x xs)) H
theorem op_in_seq : OpR X (compareOp .In) (rIn X.K false) := by
 intro pins s σ H x y v u Q I rx ry h
 obtain ⟨p, xs, rfl, hq, fx, fs, q⟩ := h
 cases ry
 rcases hq with hq | hq
 ·obtain ⟨its, r, pl, hz⟩ := I.list hq
  refine SeqAt.in_listAt (eqU x) pl.isList (fun w hw => mem_eqAt rx fx r fs w (by simpa using hw)) ⟨.bl _, H, I, rfl, ?_⟩
  rw [show its.toArray.any (eqU x) = its.any (eqU x) by simp, any_eqU r fs]
  exact q
 ·obtain ⟨its, r, pl, hz⟩ := I.tuple hq
  refine SeqAt.in_tupleAt (eqU x) pl (fun w hw => mem_eqAt rx fx r fs w (by simpa using hw)) ⟨.bl _, H, I, rfl, ?_⟩
  rw [show its.toArray.any (eqU x) = its.any (eqU x) by simp, any_eqU r fs]
  exact q
theorem call_len_seq : CallR X (.builtin "len") (fun xs H Q => ∃ p ys, xs = [.ref p] ∧ (SqL X.K H p ys ∨ SqT X.K H p ys) ∧ Q (.int ys.length) H) := by
 intro pins s σ H xs us Q I r h
 obtain ⟨p, ys, rfl, hq, q⟩ := h
 obtain ⟨u, rfl, rx⟩ := vals1 r
 cases rx
 have hn := line63
 rcases hq with hq | hq
 ·obtain ⟨its, r', pl, hz⟩ := I.list hq
  have hlen := r'.length
  exact Calls.call_len_list pl.isList (by simp only [List.size_toArray] <;> omega) ⟨.int ys.length, H, I.tok _, ⟨s.toks + 1, by rw [List.size_toArray, hlen]⟩, q⟩
 ·obtain ⟨its, r', pl, hz⟩ := I.tuple hq
  have hlen := r'.length
  exact len_tuple pl (by simp only [List.size_toArray] <;> omega) ⟨.int ys.length, H, I.tok _, ⟨s.toks + 1, by rw [List.size_toArray, hlen]⟩, q⟩
def tyV (K : PySem.W.Frag) (T : String) (x : V) (H : Hp) : Prop := match x with
 | .str _ => T = "str"
 | .int _ => T = "int"
 | .ref p => (T = "list" ∧ ∃ xs, SqL K H p xs) ∨ (T = "tuple" ∧ ∃ o, K.lookup p = some o ∧ o.cls = .type "tuple" ∧ o.dict = none) ∨
   (T = "dict" ∧ ((∃ kvs, H p = some (.dK kvs)) ∨ ∃ kvs, H p = some (.dT kvs))) ∨ (T = "set" ∧ ∃ S n, H p = some (.set S n))
 | _ => False
theorem tyV_is {pins : List (Addr × Obj)} {σ : St} {H : Hp} {s : Shared} {T : String} {x : V} {v : Value} (I : Inv X pins σ H s) (r : RelV x v) (ty : tyV X.K T x H) :
  s.TypeIs v T ∧ ∀ a, v = .ref a → ∃ ob, s.heap.get? a = some ob ∧ ob.dict = none := by
 cases x with
 | str z =>
  obtain ⟨t, rfl⟩ := r
  cases (show T = "str" from ty)
  exact ⟨typeIs_str s z t, fun _ e => nomatch e⟩
 | int i =>
  obtain ⟨t, rfl⟩ := r
  cases (show T = "int" from ty)
  exact ⟨typeIs_int s i t, fun _ e => nomatch e⟩
 | ref p =>
  cases r
  rcases ty with ⟨rfl, xs, hq⟩ | ⟨rfl, o, hk, hc, hd⟩ | ⟨rfl, hk⟩ | ⟨rfl, S, n, hk⟩
  ·obtain ⟨its, _, pl, _⟩ := I.list hq
   refine ⟨pl.isList.typeIs, fun a e => ?_⟩
   cases e
   obtain ⟨o, n, e, c, hd, _⟩ := pl
   exact ⟨o, e, hd⟩
  ·refine ⟨⟨o, I.kIn p o hk, hc⟩, fun a e => ?_⟩
   cases e
   exact ⟨o, I.kIn _ o hk, hd⟩
  ·have z : ∃ o, s.heap.get? p = some o ∧ o.ExactDict := by
    rcases hk with ⟨kvs, hk⟩ | ⟨kvs, hk⟩
    ·obtain ⟨_, _, _, _, o, _, _, e, ex, _⟩ := I.hok p _ hk
     exact ⟨o, e, ex⟩
    ·obtain ⟨_, _, _, _, o, _, _, e, ex, _⟩ := I.hok p _ hk
     exact ⟨o, e, ex⟩
   obtain ⟨o, e, ex⟩ := z
   refine ⟨⟨o, e, ex.1⟩, fun a e2 => ?_⟩
   cases e2
   exact ⟨o, e, ex.2.1⟩
  ·obtain ⟨o, _, _, _, e, ex, _⟩ := I.hok p _ hk
   refine ⟨⟨o, e, ex.1⟩, fun a e2 => ?_⟩
   cases e2
   exact ⟨o, e, ex.2.1⟩
 | _ => exact False.elim ty
def tBM (K : PySem.W.Frag) (T : String) (r : V → List V → Hp → VK → Prop) (to : TE) (t : TA) : TE := fun σ H Q => to σ H fun x H1 => tyV K T x H1 ∧ t σ H1 fun xs H2 => r x xs H2 Q
variable {o e : Expr} {es : List Expr} {to : TE} {t : TA} {name : Str} {apos cpos : Pos} {T id : String} {r : V → List V → Hp → VK → Prop}
theorem pe_bm (pa : PlainAttrs T) (slot : Slot T name id) (hty : typeOf (.builtin id) = pure (.type "method_descriptor")) (hm : MtR X id r) (ho : PE X o to) (ha : PA X (e :: es) t)
  (hbase : attributeBase o name X.env (eval o X.env) = eval o X.env := by rfl)
  (hfew : ((backTo cpos (starEach (e :: es) X.env)).all (fun x => !x.1) && (backToKw cpos (keywordEach [] X.env)).all (fun x => x.1.isSome)
   && decide ((e :: es).length + ([] : List Keyword).length + (if ([] : List Keyword).isEmpty then 0 else 1) < 30)) = true := by rfl)
  (hline : (apos.endLine == cpos.line) = true := by rfl) (hs : starEach (e :: es) X.env = (false, eval e X.env) :: starEach es X.env := by rfl) (hplain : (backTo cpos (starEach es X.env)).any (·.1) = false := by rfl) :
  PE X (.Call (.Attribute o name apos) (e :: es) [] cpos) (tBM X.K T r to t) := by
 intro pins s σ H Q I h
 refine wpAny_Call_method_late hbase hfew hline rfl (thn (ho pins s σ H _ I h) fun v s1 ⟨x, H1, I1, r1, ty, q1⟩ => ?_)
 obtain ⟨h1, h2⟩ := tyV_is I1 r1 ty
 refine ⟨T, id, pa, slot, hty, h1, h2, ?_⟩
 have hA := ha cpos pins s1 σ H1 _ I1 q1
 rw [hs] at hA ⊢
 refine Calls.callWith_builtin (by show (false || (backTo cpos (starEach es X.env)).any (·.1)) = false; rw [hplain] <;> rfl) (Calls.evalArgs_plain ?_)
 exact thn hA fun us s2 ⟨vs, H2, I2, r2, q2⟩ => hm pins s2 σ H2 x vs v us Q I2 r1 r2 q2
end
end L2
namespace L2
open PySem PySem.Spec PyProof.Rows
def MtM (X : Cx) (id : String) (r : V → List V → Hp → VK → Prop) : Prop :=
 ∀ (pins : List (Addr × Obj)) (s : Shared) (σ : St) (H : Hp) (x : V) (xs : List V) (v : Value) (us : List Value) (Q : VK), Inv X pins σ H s → RelV x v → Vals xs us → r x xs H Q →
  wpAny (model X.prog X.w) X.A (call (.builtin id) (v :: us)) (EP X pins σ Q) X.xe s
theorem Vals.one : ∀ {x : V} {us : List Value}, Vals [x] us → ∃ u, us = [u] ∧ RelV x u
 | _, _, .cons r .nil => ⟨_, rfl, r⟩
section
variable {X : Cx} {pins : List (Addr × Obj)} {σ : St} {H : Hp} {s : Shared} {l b : Addr} {xs ys zs : List V}
theorem Inv.lset {its its' : List Value} {n : Nat} {f : Array Value → Array Value} {t' : Nat} (I : Inv X pins σ H s) (hH : H l = some (.lst xs))
  (e : s.heap.get? l = some { cls := .type "list", data := .seq its.toArray n }) (hf : f its.toArray = its'.toArray) (hv : Vals ys its') (hz : ys.length ≤ sizeLine) :
  Inv X pins σ (upd H l (.lst ys)) { s with heap := s.heap.update l (Obj.mapSeq f), toks := t' } := by
 have q := PySem.IsL.update e f
 rw [hf] at q
 refine I.write (x := l) (e := l) (by rw [hH]; exact trivial) (.inl rfl) (fun b' u hb hu => (Heap.get?_update_other s.heap (Obj.mapSeq f) (Ne.symm hb)).trans hu) ⟨_, q⟩ ?_
 exact ⟨hz, its', _, hv, q⟩
theorem Inv.lnew {its : List Value} {t' : Nat} (I : Inv X pins σ H s) (hv : Vals ys its) (hz : ys.length ≤ sizeLine) :
  Inv X pins σ (upd H s.heap.objs.size (.lst ys)) { s with heap := s.heap.push { cls := .type "list", data := .seq its.toArray }, toks := t' } :=
 I.laid (fun _ _ q => Heap.get?_push_of_some _ q) (Nat.le_refl _) ⟨hz, its, 0, hv, Heap.get?_push_size _ rfl⟩
theorem Inv.fresh (I : Inv X pins σ H s) : H s.heap.objs.size = none := I.hok.fresh (Nat.le_refl _)
theorem Inv.lstM (I : Inv X pins σ H s) (hH : H l = some (.lst xs)) : xs.length ≤ sizeLine ∧ ∃ (its : List Value) (n : Nat), Vals xs its ∧ xs.length = its.length ∧ s.heap.get? l = some { cls := .type "list", data := .seq its.toArray n } := by
 obtain ⟨z, its, n, r, e⟩ := I.hok l _ hH
 exact ⟨z, its, n, r, r.length, e⟩
theorem notLongL {n : Nat} (h : n ≤ sizeLine) : Builtin.List.listTooLong n = false := by
 unfold Builtin.List.listTooLong
 exact decide_eq_false (by omega)
end
section
variable {X : Cx}
def rAppend : V → List V → Hp → VK → Prop := fun x vs H Q => ∃ l xs y, x = .ref l ∧ vs = [y] ∧ H l = some (.lst xs) ∧ xs.length < sizeLine ∧ Q .non (upd H l (.lst (xs ++ [y])))
theorem mt_append : MtM X "list.append" rAppend := by
 intro pins s σ H x vs v us Q I rx rv h
 obtain ⟨l, xs, y, rfl, rfl, hH, hz, q⟩ := h
 cases rx
 obtain ⟨u, rfl, ru⟩ := rv.one
 obtain ⟨z, its, n, r, hl, e⟩ := I.lstM hH
 refine call_meets F.slot_list_append ⟨_, e, rfl⟩ F.entry_list_append (F.args_list_append_2 _ _) (PySem.list_append l its.toArray n u (by rw [List.size_toArray]; omega)) ⟨e, ?_⟩
 refine ⟨.non, _, I.lset (its' := its ++ [u]) hH e (by simp) (r.append (.cons ru .nil)) ?_, rfl, q⟩
 rw [List.length_append, List.length_singleton]
 omega
def rExtend : V → List V → Hp → VK → Prop := fun x vs H Q => ∃ l b xs zs, x = .ref l ∧ vs = [.ref b] ∧ H l = some (.lst xs) ∧ H b = some (.lst zs) ∧ xs.length + zs.length ≤ sizeLine ∧ Q .non (upd H l (.lst (xs ++ zs)))
theorem mt_extend : MtM X "list.extend" rExtend := by
 intro pins s σ H x vs v us Q I rx rv h
 obtain ⟨l, b, xs, zs, rfl, rfl, hH, hB, hz, q⟩ := h
 cases rx
 obtain ⟨u, rfl, ru⟩ := rv.one
 cases ru
 obtain ⟨z, its, n, r, hl, e⟩ := I.lstM hH
 obtain ⟨z2, its2, n2, r2, hl2, e2⟩ := I.lstM hB
 have hsz : its.toArray.size + its2.toArray.size ≤ sizeLine := by rw [List.size_toArray, List.size_toArray]; omega
 have hlong : ¬ (!its.toArray.isEmpty && Builtin.List.listTooLong (its.toArray.size + its2.toArray.size)) = true := by
  rw [notLongL hsz, Bool.and_false]
  exact Bool.false_ne_true
 refine call_meets F.slot_list_extend ⟨_, e, rfl⟩ F.entry_list_extend (F.args_list_extend_2 _ _)
  (AutoSeq1.list_extend_list_list_0 l its.toArray n b its2.toArray n2 hlong (by rw [List.size_toArray]; omega) (by omega)) ⟨e, e2, ?_⟩
 refine ⟨.non, _, I.lset (its' := its ++ its2) hH e (by simp) (r.append r2) ?_, rfl, q⟩
 rw [List.length_append]
 omega
def rCat : R2 := fun x y H Q => ∃ l b xs zs, x = .ref l ∧ y = .ref b ∧ H l = some (.lst xs) ∧ H b = some (.lst zs) ∧ xs.length + zs.length ≤ sizeLine ∧ ∀ p, H p = none → Q (.ref p) (upd H p (.lst (xs ++ zs)))
theorem op_cat : OpR X (binaryOp .Add) rCat := by
 intro pins s σ H x y v u Q I rx ry h
 obtain ⟨l, b, xs, zs, rfl, rfl, hH, hB, hz, q⟩ := h
 cases rx
 cases ry
 obtain ⟨z, its, n, r, hl, e⟩ := I.lstM hH
 obtain ⟨z2, its2, n2, r2, hl2, e2⟩ := I.lstM hB
 refine PySem.P.add_list e e2 ?_ (by rw [List.size_toArray, List.size_toArray]; omega)
 have ea : its.toArray ++ its2.toArray = (its ++ its2).toArray := by simp
 rw [ea]
 exact ⟨.ref _, _, I.lnew (t' := s.toks) (r.append r2) (by rw [List.length_append]; omega), rfl, q _ I.fresh⟩
end
section
variable {prog : Program} {w : World} {A : Around} {E : Value → Shared → Prop} {s : Shared}
end
section
variable {X : Cx}
end
end L2
namespace L2
open PySem PySem.Spec PyProof.Rows
theorem Vals.ints : ∀ {ns : List Int} {us : List Value}, Vals (ns.map V.int) us → IntsAre us ns
 | [], us, h => by
  rw [List.map_nil] at h
  cases h
  exact IntsAre.nil
 | n :: ns, us, h => by
  rw [List.map_cons] at h
  cases h with
  | cons r t =>
   obtain ⟨k, rfl⟩ := r
   exact IntsAre.cons n k (Vals.ints t)
theorem vals_of_ints : ∀ {us : List Value} {ns : List Int}, IntsAre us ns → Vals (ns.map V.int) us
 | _, _, .nil => by rw [List.map_nil]; exact Paired.nil
 | _, _, .cons n t h => by rw [List.map_cons]; exact Paired.cons (show RelV (V.int n) (Value.int n t) from ⟨t, rfl⟩) (vals_of_ints h)
theorem Vals.bls : ∀ {bs : List Bool} {us : List Value}, Vals (bs.map V.bl) us → us = bs.map Value.bool
 | [], us, h => by
  rw [List.map_nil] at h
  cases h
  rfl
 | b :: bs, us, h => by
  rw [List.map_cons] at h
  cases h with
  | cons r t =>
   cases r
   rw [Vals.bls t, List.map_cons]
theorem Vals.ref1 {a : Addr} {us : List Value} (r : Vals [V.ref a] us) : us = [Value.ref a] := by
 cases r with
 | cons r t =>
  cases t
  cases r
  rfl
section
variable {prog : Program} {w : World} {A : Around} {E : Value → Shared → Prop} {s : Shared} {l : Addr} {its : List Value} {ns : List Int} {Q : Value → Shared → Prop}
theorem max_raw (hh : A.handled = none) (hl : s.heap.IsList l its.toArray) (hi : IntsAre its ns) (hne : 0 < ns.length)
  (h : ∀ h' tk M t', (∀ b o, s.heap.get? b = some o → h'.get? b = some o) → M ∈ ns → (∀ a, a ∈ ns → a ≤ M) → Q (.int M t') { s with heap := h', toks := tk }) : wpAny (model prog w) A (call (.builtin "max") [.ref l]) Q E s := by
 obtain ⟨xs, e⟩ := hi.allInts.items
 have hn : numsOf (intItems xs).toList = ns := by rw [← e]; exact hi.numsOf
 rw [nums_intItems] at hn
 subst hn
 rw [e] at hl
 have hsz : 0 < xs.size := by simpa using hne
 refine PySem.max_intList hh hl hsz fun v h' tk hv hk => ?_
 obtain ⟨t, rfl⟩ := intItems_at hv
 obtain ⟨h1, h2⟩ := argBest_gt (numAt xs) (xs.size - 1)
 refine h h' tk _ t hk ?_ fun a ha => ?_
 ·rw [numAt_eq]; exact PySem.getD_mem (by rw [List.length_map, Array.length_toList]; omega)
 ·obtain ⟨j, hj, rfl⟩ := mem_getD ha
  rw [List.length_map, Array.length_toList] at hj
  rw [← numAt_eq]; exact h2 j (by omega)
theorem min_raw (hh : A.handled = none) (hl : s.heap.IsList l its.toArray) (hi : IntsAre its ns) (hne : 0 < ns.length)
  (h : ∀ h' tk M t', (∀ b o, s.heap.get? b = some o → h'.get? b = some o) → M ∈ ns → (∀ a, a ∈ ns → M ≤ a) → Q (.int M t') { s with heap := h', toks := tk }) : wpAny (model prog w) A (call (.builtin "min") [.ref l]) Q E s := by
 obtain ⟨xs, e⟩ := hi.allInts.items
 have hn : numsOf (intItems xs).toList = ns := by rw [← e]; exact hi.numsOf
 rw [nums_intItems] at hn
 subst hn
 rw [e] at hl
 have hsz : 0 < xs.size := by simpa using hne
 refine PySem.min_intList hh hl hsz fun v h' tk hv hk => ?_
 obtain ⟨t, rfl⟩ := intItems_at hv
 obtain ⟨h1, h2⟩ := argBest_lt (numAt xs) (xs.size - 1)
 refine h h' tk _ t hk ?_ fun a ha => ?_
 ·rw [numAt_eq]; exact PySem.getD_mem (by rw [List.length_map, Array.length_toList]; omega)
 ·obtain ⟨j, hj, rfl⟩ := mem_getD ha
  rw [List.length_map, Array.length_toList] at hj
  rw [← numAt_eq]; exact h2 j (by omega)
end
section
variable {X : Cx}
def rMax (K : PySem.W.Frag) : List V → Hp → VK → Prop := fun vs H Q => ∃ (a : Addr) (ns : List Int), vs = [V.ref a] ∧ SqL K H a (ns.map V.int) ∧ 0 < ns.length ∧ ∀ m, m ∈ ns → (∀ y, y ∈ ns → y ≤ m) → Q (.int m) H
def rMin (K : PySem.W.Frag) : List V → Hp → VK → Prop := fun vs H Q => ∃ (a : Addr) (ns : List Int), vs = [V.ref a] ∧ SqL K H a (ns.map V.int) ∧ 0 < ns.length ∧ ∀ m, m ∈ ns → (∀ y, y ∈ ns → m ≤ y) → Q (.int m) H
theorem cr_max (hc : X.calm = true) : CallR X (.builtin "max") (rMax X.K) := by
 intro pins s σ H vs us Q I r h
 obtain ⟨a, ns, rfl, hs, hne, q⟩ := h
 obtain ⟨its, rv, hl, _⟩ := I.list hs
 rw [Vals.ref1 r]
 exact max_raw (I.ok.hd hc) hl.isList rv.ints hne fun h' tk m t' hk h1 h2 => ⟨.int _, H, I.kept hk, ⟨_, rfl⟩, q m h1 h2⟩
theorem cr_min (hc : X.calm = true) : CallR X (.builtin "min") (rMin X.K) := by
 intro pins s σ H vs us Q I r h
 obtain ⟨a, ns, rfl, hs, hne, q⟩ := h
 obtain ⟨its, rv, hl, _⟩ := I.list hs
 rw [Vals.ref1 r]
 exact min_raw (I.ok.hd hc) hl.isList rv.ints hne fun h' tk m t' hk h1 h2 => ⟨.int _, H, I.kept hk, ⟨_, rfl⟩, q m h1 h2⟩
end
section
variable {X : Cx}
end
section
variable {X : Cx}
end
theorem iter_any {prog : Program} {w : World} {A : Around} {E : Value → Shared → Prop} {s : Shared} {l : Addr} {items : Array Value} {Q : Value → Shared → Prop} (hl : s.heap.IsList l items)
  (h : ∀ s₂ : Shared, s₂ = { s with heap := s.heap.push { cls := .type "list_iterator", data := .fields #[.ref l, .int 0 0] } } →
   (s₂.heap.IsListIter s.heap.objs.size l 0 ∧ s₂.heap.IsList l items) → l ≠ s.heap.objs.size → Q (.ref s.heap.objs.size) s₂) : wpAny (model prog w) A (pyIter (.ref l)) Q E s := by
 have hlt : l < s.heap.objs.size := by obtain ⟨_, e, _⟩ := hl; exact Heap.lt_size e
 exact wpAny_pyIter_list hl (h _ rfl ⟨⟨_, Heap.get?_push_size _ rfl, rfl, rfl⟩, hl.push _⟩ (Nat.ne_of_lt hlt))
theorem truth_bools {prog : Program} {w : World} {A : Around} {bs : List Bool} {its : List Value} (e : its = bs.map Value.bool) :
  TruthOf prog w A (fun i v => its.toArray[i]? = some v) (fun i => bs.getD i false) := fun i v s Q E hv hq => by
 have hv' : its[i]? = some v := by simpa using hv
 rw [e, List.getElem?_map] at hv'
 obtain ⟨b, hb, rfl⟩ := Option.map_eq_some_iff.mp hv'
 have hg : bs.getD i false = b := by rw [List.getD_eq_getElem?_getD, hb] <;> rfl
 have hq' : Q (bs.getD i false) s := hq
 rw [hg] at hq'
 exact wpAny_truthy_bool hq'
theorem any_range : ∀ bs : List Bool, (List.range bs.length).any (fun i => bs.getD i false) = bs.any id
 | [] => rfl
 | b :: bs => by
  rw [List.length_cons, List.range_succ_eq_map, List.any_cons, List.any_map, List.any_cons, ← any_range bs]
  all_goals rfl
section
variable {X : Cx}
def rAny (K : PySem.W.Frag) : List V → Hp → VK → Prop := fun vs H Q => ∃ (a : Addr) (bs : List Bool), vs = [V.ref a] ∧ SqL K H a (bs.map V.bl) ∧ Q (.bl (bs.any id)) H
theorem cr_any (hc : X.calm = true) : CallR X (.builtin "any") (rAny X.K) := by
 intro pins s σ H vs us Q I r h
 obtain ⟨a, bs, rfl, hs, q⟩ := h
 obtain ⟨its, rv, hl, _⟩ := I.list hs
 rw [Vals.ref1 r]
 have hb := rv.bls
 refine call_any_walk (iter_any hl.isList fun s₂ e2 st hne => ?_)
 subst e2
 refine ⟨_, _, _, _, _, _, _, rfl, Walks.list (A := X.A.in1) (I.ok.hd hc) _ a hne its.toArray, st, truth_bools hb, fun h' tk hk => ?_⟩
 refine ⟨.bl _, H, I.kept fun b o eo => hk b o (fun hmem => ?_) (Heap.get?_push_of_some _ eo), ?_, q⟩
 ·rcases List.mem_cons.mp hmem with e1 | hmem
  ·exact absurd (e1 ▸ Heap.lt_size eo) (Nat.lt_irrefl _)
  ·cases hmem
 ·show Value.bool _ = Value.bool _
  rw [← any_range, hb, List.size_toArray, List.length_map]
end
section
variable {X : Cx} {pins : List (Addr × Obj)} {σ : St} {H : Hp} {s : Shared}
end
section
variable {X : Cx}
end
end L2
namespace L2
open PySem PySem.Spec PyProof.Rows
abbrev CellAt (h : Heap) (c : Addr) (v : Option Value) : Prop := h.IsCell c v
def relS (scope sc : Scope) : Scope :=
 { scope with names := scope.names.map fun (n, k) => if (k == .free && sc.kind == .function && sc.names.lookup n == some .cell) then (n, .cell) else (n, k) }
def cloFrom (cells : List (Str × Addr)) : List (Str × NameKind) → List (Str × Addr) → List (Str × Addr)
 | [], acc => acc
 | (n, k) :: r, acc => if k == .free then cloFrom cells r ((n, (cells.lookup n).getD 0) :: acc) else cloFrom cells r acc
theorem closure_loop (env : Env) (f : Str × NameKind → List (Str × Addr) → Sem (ForInStep (List (Str × Addr))))
  (hf : ∀ n k c, f (n, k) c = if k == .free then (do let a ← cellOf env n; pure (.yield ((n, a) :: c))) else pure (.yield c)) :
  ∀ (names : List (Str × NameKind)) (acc : List (Str × Addr)), (∀ y ∈ names, y.2 = .free → ∃ c, env.cells.lookup y.1 = some c) → forIn names acc f = pure (cloFrom env.cells names acc)
 | [], acc, _ => by rw [List.forIn_nil]; rfl
 | (n, k) :: r, acc, h => by
  rw [List.forIn_cons, hf]
  have ih := fun acc => closure_loop env f hf r acc fun y hy => h y (List.mem_cons_of_mem _ hy)
  unfold cloFrom
  by_cases hk : (k == NameKind.free) = true
  ·rw [if_pos hk, if_pos hk]
   obtain ⟨c, hc⟩ := h (n, k) List.mem_cons_self (by simpa using hk)
   have e : cellOf env n = pure c := by unfold cellOf; rw [hc]
   rw [e]
   have e2 : (env.cells.lookup n).getD 0 = c := by rw [hc]; rfl
   rw [e2]
   exact ih _
  ·rw [if_neg hk, if_neg hk]
   exact ih _
theorem closure_ok {scope : Scope} {env : Env} (h : ∀ y ∈ scope.names, y.2 = .free → ∃ c, env.cells.lookup y.1 = some c) : closureFor scope env = pure (cloFrom env.cells scope.names []) := by
 simp only [closureFor]
 rw [closure_loop env _ (fun n k c => rfl) scope.names [] h]
 rfl
theorem mem_lookup {α : Type} : ∀ {l : List (Str × α)} {n : Str} {c : α}, (n, c) ∈ l → ∃ c', l.lookup n = some c'
 | (k, v) :: r, n, c, h => by
  rw [List.lookup_cons]
  cases hb : n == k with
  | true => exact ⟨_, rfl⟩
  | false =>
   rcases List.mem_cons.mp h with e | h
   ·cases e; simp at hb
   ·exact mem_lookup h
theorem cloFrom_mem {cells : List (Str × Addr)} : ∀ {names : List (Str × NameKind)} {acc : List (Str × Addr)} {n : Str} {c : Addr}, (n, c) ∈ cloFrom cells names acc → (n, c) ∈ acc ∨ ((n, .free) ∈ names ∧ c = (cells.lookup n).getD 0)
 | [], _, _, _, h => .inl h
 | (m, k) :: r, acc, n, c, h => by
  unfold cloFrom at h
  split at h
  ·rename_i hk
   have hk : k = .free := by simpa using hk
   rcases cloFrom_mem h with h | ⟨h1, h2⟩
   ·rcases List.mem_cons.mp h with e | h
    ·cases e; exact .inr ⟨hk ▸ List.mem_cons_self, rfl⟩
    ·exact .inl h
   ·exact .inr ⟨List.mem_cons_of_mem _ h1, h2⟩
  ·rcases cloFrom_mem h with h | ⟨h1, h2⟩
   ·exact .inl h
   ·exact .inr ⟨List.mem_cons_of_mem _ h1, h2⟩
theorem cloFrom_acc {cells : List (Str × Addr)} : ∀ {names : List (Str × NameKind)} {acc : List (Str × Addr)} {p : Str × Addr}, p ∈ acc → p ∈ cloFrom cells names acc
 | [], _, _, h => h
 | (m, k) :: r, acc, p, h => by
  unfold cloFrom
  split
  ·exact cloFrom_acc (List.mem_cons_of_mem _ h)
  ·exact cloFrom_acc h
theorem cloFrom_has {cells : List (Str × Addr)} : ∀ {names : List (Str × NameKind)} {acc : List (Str × Addr)} {n : Str}, (n, .free) ∈ names → (n, (cells.lookup n).getD 0) ∈ cloFrom cells names acc
 | (m, k) :: r, acc, n, h => by
  unfold cloFrom
  rcases List.mem_cons.mp h with e | h
  ·cases e
   exact cloFrom_acc List.mem_cons_self
  ·split
   ·exact cloFrom_has h
   ·exact cloFrom_has h
theorem cells_mem : ∀ {names : List (Str × NameKind)} {h : Heap} {acc : List (Str × Addr)} {x : Str} {c : Addr}, (x, c) ∈ cellsFrom h.objs.size names acc →
  (x, c) ∈ acc ∨ ((x, .cell) ∈ names ∧ h.objs.size ≤ c ∧ CellAt (pushCells h names) c none)
 | [], _, _, _, _, h => .inl h
 | (n, k) :: r, h, acc, x, c, hm => by
  unfold cellsFrom at hm
  unfold pushCells
  split at hm
  ·rename_i hk
   rw [if_pos hk]
   have hk : k = .cell := by simpa using hk
   rw [← Heap.size_push h { cls := .type "cell", data := .cell none }] at hm
   rcases cells_mem hm with hm | ⟨h1, h2, h3⟩
   ·rcases List.mem_cons.mp hm with e | hm
    ·cases e
     exact .inr ⟨hk ▸ List.mem_cons_self, Nat.le_refl _, _, pushCells_keeps r _ _ _ (Heap.get?_push_size _ rfl), rfl⟩
    ·exact .inl hm
   ·rw [Heap.size_push] at h2
    exact .inr ⟨List.mem_cons_of_mem _ h1, Nat.le_of_succ_le h2, h3⟩
  ·rename_i hk
   rw [if_neg hk]
   rcases cells_mem hm with hm | ⟨h1, h2, h3⟩
   ·exact .inl hm
   ·exact .inr ⟨List.mem_cons_of_mem _ h1, h2, h3⟩
theorem cells_acc : ∀ {names : List (Str × NameKind)} {n : Nat} {acc : List (Str × Addr)} {p : Str × Addr}, p ∈ acc → p ∈ cellsFrom n names acc
 | [], _, _, _, h => h
 | (m, k) :: r, n, acc, p, h => by
  unfold cellsFrom
  split
  ·exact cells_acc (List.mem_cons_of_mem _ h)
  ·exact cells_acc h
theorem cells_has : ∀ {names : List (Str × NameKind)} {n : Nat} {acc : List (Str × Addr)} {x : Str}, (x, .cell) ∈ names → ∃ c, (x, c) ∈ cellsFrom n names acc
 | (m, k) :: r, n, acc, x, h => by
  unfold cellsFrom
  rcases List.mem_cons.mp h with e | h
  ·cases e
   exact ⟨n, cells_acc List.mem_cons_self⟩
  ·split
   ·exact cells_has h
   ·exact cells_has h
theorem cells_inj : ∀ {names : List (Str × NameKind)} {h : Heap} {acc : List (Str × Addr)} {x y : Str} {c : Addr}, (∀ p ∈ acc, p.2 < h.objs.size) → (∀ x y c, (x, c) ∈ acc → (y, c) ∈ acc → x = y) →
  (x, c) ∈ cellsFrom h.objs.size names acc → (y, c) ∈ cellsFrom h.objs.size names acc → x = y
 | [], _, _, _, _, _, _, hi, h1, h2 => hi _ _ _ h1 h2
 | (n, k) :: r, h, acc, x, y, c, hl, hi, h1, h2 => by
  unfold cellsFrom at h1 h2
  split at h1
  ·rename_i hk
   rw [if_pos hk] at h2
   rw [← Heap.size_push h { cls := .type "cell", data := .cell none }] at h1 h2
   refine cells_inj (h := h.push _) (fun p hp => ?_) (fun x y c a b => ?_) h1 h2
   ·rw [Heap.size_push]
    rcases List.mem_cons.mp hp with rfl | hp
    ·exact Nat.lt_succ_self _
    ·exact Nat.lt_succ_of_lt (hl p hp)
   ·rcases List.mem_cons.mp a with e | a <;> rcases List.mem_cons.mp b with e' | b
    ·cases e; cases e'; rfl
    ·cases e; exact absurd (hl _ b) (Nat.lt_irrefl _)
    ·cases e'; exact absurd (hl _ a) (Nat.lt_irrefl _)
    ·exact hi _ _ _ a b
  ·rename_i hk
   rw [if_neg hk] at h2
   exact cells_inj hl hi h1 h2
theorem newEnv_comp {M : Model} {A : Around} {E : Value → Shared → Prop} {s : Shared} {scope : Scope} {globals : Addr} {closure : List (Str × Addr)} {qual : Str} {func : Option Addr} {code : Value} {around : Env} {builtins : Addr} {Q : Env → Shared → Prop}
  (h : Q (newEnv scope s.heap.objs.size globals (cellsFrom (s.heap.objs.size + 1) scope.names closure) qual func code (some around) builtins)
   { s with heap := pushCells (s.heap.push { cls := .type "dict", data := .dict #[] }) scope.names }) :
  wpAny M A (newFunctionEnv scope globals closure [] qual func code (some around) builtins) Q E s := by
 simp only [newFunctionEnv, Option.isSome_some, if_true]
 refine wpAny_bind (wpAny_alloc ?_)
 refine wpAny_bind (wpAny_layCells _ (fun n k c => rfl) scope.names closure _ _ ?_)
 rw [show ({ s with heap := s.heap.push { cls := .type "dict", data := .dict #[] } } : Shared).heap.objs.size = s.heap.objs.size + 1 from Heap.size_push ..]
 rw [List.forIn_nil]
 exact wpAny_bind (wpAny_pure (wpAny_pure h))
theorem lookup_relS {sc : Scope} : ∀ {names : List (Str × NameKind)} {x : Str} {k : NameKind},
  (names.map fun (n, k) => if (k == NameKind.free && sc.kind == .function && sc.names.lookup n == some .cell) then (n, NameKind.cell) else (n, k)).lookup x = some k →
  ∃ k', names.lookup x = some k' ∧ (k = k' ∨ (k' = .free ∧ k = .cell))
 | [], _, _, h => by simp at h
 | (n, k₀) :: r, x, k, h => by
  have ih := @lookup_relS sc r x k
  have h' : List.lookup x ((if (k₀ == NameKind.free && sc.kind == .function && sc.names.lookup n == some .cell) = true then (n, NameKind.cell) else (n, k₀)) :: (r.map _)) = some k := h
  cases hx : x == n with
  | true =>
   simp only [List.lookup_cons, hx]
   by_cases hc : (k₀ == NameKind.free && sc.kind == .function && sc.names.lookup n == some .cell) = true
   ·rw [if_pos hc] at h'
    simp only [List.lookup_cons, hx] at h'
    cases h'
    simp only [Bool.and_eq_true, beq_iff_eq] at hc
    exact ⟨k₀, rfl, .inr ⟨hc.1.1, rfl⟩⟩
   ·rw [if_neg hc] at h'
    simp only [List.lookup_cons, hx] at h'
    cases h'
    exact ⟨_, rfl, .inl rfl⟩
  | false =>
   simp only [List.lookup_cons, hx]
   by_cases hc : (k₀ == NameKind.free && sc.kind == .function && sc.names.lookup n == some .cell) = true
   ·rw [if_pos hc] at h'
    simp only [List.lookup_cons, hx] at h'
    exact ih h'
   ·rw [if_neg hc] at h'
    simp only [List.lookup_cons, hx] at h'
    exact ih h'
structure BlkOk (N : List Str) (sc scope : Scope) (own : List (Str × Nat)) : Prop where
 kind : scope.kind = .function
 uniq : ∀ y ∈ scope.names, scope.names.lookup y.1 = some y.2
 ix : ∀ p ∈ own, N[p.2]? = some p.1
 free : ∀ y ∈ scope.names, y.2 = .free → sc.names.lookup y.1 = some .cell ∨ sc.names.lookup y.1 = some .free
 own : ∀ y ∈ scope.names, y.2 = .local ∨ y.2 = .cell → y.1 ∈ own.map (·.1) ∨ y.1 ∉ N
def wipe (σ : St) : List Nat → St
 | [] => σ
 | v :: vs => (wipe σ vs).set v none
theorem wipe_length (σ : St) : ∀ vs : List Nat, (wipe σ vs).length = σ.length
 | [] => rfl
 | v :: vs => by unfold wipe; rw [List.length_set, wipe_length σ vs]
theorem wipe_some {σ : St} {i : Nat} {x : V} : ∀ {vs : List Nat}, (wipe σ vs)[i]? = some (some x) → σ[i]? = some (some x) ∧ i ∉ vs
 | [], h => ⟨h, by simp⟩
 | v :: vs, h => by
  unfold wipe at h
  by_cases hi : v = i
  ·subst hi
   by_cases hv : v < (wipe σ vs).length
   ·rw [List.getElem?_set_self hv] at h; cases h
   ·rw [List.getElem?_eq_none (by simpa using hv)] at h; cases h
  ·rw [List.getElem?_set_ne hi] at h
   obtain ⟨h1, h2⟩ := wipe_some h
   exact ⟨h1, by simp only [List.mem_cons, not_or]; exact ⟨fun e => hi e.symm, h2⟩⟩
abbrev Cx.blk (X : Cx) (s : Shared) (H : Hp) (scope : Scope) (cenv : Env) (fp : List Addr) : Cx := { X with s_0 := s, H_0 := H, env := cenv, outer := X.stack, ex := fp, fn := fun x => scope.names.lookup x == some .cell, pn := [], xe := fun _ _ => False }
section
variable {X : Cx} {pins : List (Addr × Obj)} {σ : St} {H : Hp} {s : Shared}
theorem block_start {scope : Scope} {own : List (Str × Nat)} {fp : List Addr} (I : Inv X pins σ H s) (ok : BlkOk X.N X.env.scope scope own) (hN : X.N.Nodup) (hfp : ∀ b ∈ fp, FpOk X pins H b ∧ b < s.heap.objs.size) :
  Inv (X.blk s H scope (compEnvC scope (cellsFrom (s.heap.objs.size + 1) scope.names (cloFrom X.env.cells scope.names [])) s.heap.objs.size X.env) fp) [] (wipe σ (own.map (·.2))) H { s with heap := pushCells (s.heap.push { cls := .type "dict", data := .dict #[] }) scope.names } := by
 have hfree : ∀ y ∈ scope.names, y.2 = .free → ∃ c, X.env.cells.lookup y.1 = some c := fun y hy e => by
  rcases ok.free y hy e with k | k
  ·exact I.ok.has _ (.inl k)
  ·exact I.ok.has _ (.inr k)
 generalize hcenv : compEnvC scope (cellsFrom (s.heap.objs.size + 1) scope.names (cloFrom X.env.cells scope.names [])) s.heap.objs.size X.env = cenv
 have kp : ∀ b o, s.heap.get? b = some o → (pushCells (s.heap.push { cls := .type "dict", data := .dict #[] }) scope.names).get? b = some o := fun b o e => pushCells_keeps _ _ _ _ (Heap.get?_push_of_some _ e)
 have hL : cenv.locals = s.heap.objs.size := by rw [← hcenv]; rfl
 have hcl : cenv.cells = cellsFrom (s.heap.objs.size + 1) scope.names (cloFrom X.env.cells scope.names []) := by rw [← hcenv]; rfl
 have hsc : cenv.scope = relS scope X.env.scope := by rw [← hcenv]; rfl
 rw [← Heap.size_push s.heap { cls := .type "dict", data := .dict #[] }] at hcl
 have cm : ∀ {y c}, (y, c) ∈ cloFrom X.env.cells scope.names [] → X.env.cells.lookup y = some c ∧ c < s.heap.objs.size := fun {y c} hm => by
  rcases cloFrom_mem hm with hm | ⟨h1, rfl⟩
  ·cases hm
  ·obtain ⟨c, hc⟩ := hfree _ h1 rfl
   rw [hc]
   obtain ⟨w, z⟩ := I.cell _ _ hc
   exact ⟨rfl, z.lt⟩
 have mem : ∀ {y c}, cenv.cells.lookup y = some c → (X.env.cells.lookup y = some c ∧ c < s.heap.objs.size) ∨ (s.heap.objs.size + 1 ≤ c ∧ CellAt (pushCells (s.heap.push { cls := .type "dict", data := .dict #[] }) scope.names) c none) := fun {y c} e => by
  rw [hcl] at e
  rcases cells_mem (PySem.mem_of_lookup e) with hm | ⟨_, h2, h3⟩
  ·exact .inl (cm hm)
  ·rw [Heap.size_push] at h2; exact .inr ⟨h2, h3⟩
 have look : ∀ {y}, scope.names.lookup y = some .free → ∃ c, cenv.cells.lookup y = some c ∧ X.env.cells.lookup y = some c := fun {y} hl => by
  have hy : (y, NameKind.free) ∈ scope.names := PySem.mem_of_lookup hl
  obtain ⟨c', e'⟩ := mem_lookup (cells_acc (names := scope.names) (n := (s.heap.push { cls := .type "dict", data := .dict #[] }).objs.size) (cloFrom_has (cells := X.env.cells) (acc := []) hy))
  rw [← hcl] at e'
  refine ⟨c', e', ?_⟩
  rw [hcl] at e'
  rcases cells_mem (PySem.mem_of_lookup e') with hm | ⟨h1, _, _⟩
  ·exact (cm hm).1
  ·have := ok.uniq _ h1
   rw [hl] at this; cases this
 have okB : (X.blk s H scope cenv fp).Ok := by
  refine ⟨I.ok.mod, by show cenv.scope.kind = _; rw [hsc]; exact ok.kind, by show cenv.globals = _; rw [← hcenv]; exact I.ok.glob, by show cenv.builtins = _; rw [← hcenv]; exact I.ok.blt, by show s.heap.objs.size ≤ cenv.locals; rw [hL]; exact Nat.le_refl _,
   fun y z c e1 e2 => ?_, fun y hy => ?_, fun y c z e => ?_, I.ok.hd, I.ok.frames, .inl rfl, fun b hb => ⟨?_, fun y c e z => ?_⟩, I.bs, Nat.le_trans I.ok.bsz I.sz, fun b o e hb => ?_, fun b hb z => ?_, I.stack, I.stkFree⟩
  ·have e1 : cenv.cells.lookup y = some c := e1
   have e2 : cenv.cells.lookup z = some c := e2
   rw [hcl] at e1 e2
   refine cells_inj (fun p hp => ?_) (fun y z c a b => I.ok.inj y z c (cm a).1 (cm b).1) (PySem.mem_of_lookup e1) (PySem.mem_of_lookup e2)
   rw [Heap.size_push]
   exact Nat.lt_succ_of_lt (cm (y := p.1) (c := p.2) hp).2
  ·show ∃ c, cenv.cells.lookup y = some c
   have key : ∀ k, cenv.kindOf y = some k → (k = .cell ∨ k = .free) → ∃ c, cenv.cells.lookup y = some c := fun k hk hk' => by
    unfold Env.kindOf at hk
    rw [hsc] at hk
    obtain ⟨k', e, r⟩ := lookup_relS hk
    have : k' = .cell ∨ k' = .free := by
     rcases r with rfl | ⟨rfl, _⟩
     ·exact hk'
     ·exact .inr rfl
    rcases this with rfl | rfl
    ·obtain ⟨c, hm⟩ := cells_has (n := (s.heap.push { cls := .type "dict", data := .dict #[] }).objs.size) (acc := cloFrom X.env.cells scope.names []) (PySem.mem_of_lookup e)
     obtain ⟨c', e'⟩ := mem_lookup hm
     exact ⟨c', by rw [hcl]; exact e'⟩
    ·obtain ⟨c, h1, _⟩ := look e
     exact ⟨c, h1⟩
   rcases hy with hy | hy
   ·exact key _ hy (.inl rfl)
   ·exact key _ hy (.inr rfl)
  ·have z : (scope.names.lookup y == some NameKind.cell) = true := z
   have z : scope.names.lookup y = some .cell := by simpa using z
   have e : cenv.cells.lookup y = some c := e
   rw [hcl] at e
   rcases cells_mem (PySem.mem_of_lookup e) with hm | ⟨_, h2, _⟩
   ·rcases cloFrom_mem hm with hm | ⟨h1, _⟩
    ·cases hm
    ·have q := ok.uniq _ h1
     rw [z] at q; cases q
   ·rw [Heap.size_push] at h2
    exact Nat.le_of_succ_le h2
  ·show b ≠ cenv.locals
   rw [hL]; exact Nat.ne_of_lt (hfp b hb).2
  ·have e : cenv.cells.lookup y = some c := e
   rcases mem e with ⟨h1, _⟩ | ⟨h1, _⟩
   ·exact (hfp b hb).1.2.2.2.2.1 y c h1 z
   ·have h2 : s.heap.objs.size + 1 ≤ b := by rw [← z]; exact h1
    exact absurd (Nat.lt_of_lt_of_le (hfp b hb).2 (Nat.le_of_succ_le h2)) (Nat.lt_irrefl _)
  ·rcases (hfp b hb).1.2.2.2.1 with z | z
   ·exact I.ok.noex b o e z
   ·exact absurd (Nat.lt_of_lt_of_le (Heap.lt_size e) (Nat.le_trans I.ok.bsz z)) (Nat.lt_irrefl _)
  ·rcases List.mem_cons.mp (I.stkSub b z) with z | z
   ·exact (hfp b hb).1.2.1 z
   ·exact (hfp b hb).1.2.2.1 z
 refine ⟨okB, rfl, I.bare, Un.kept kp, ⟨fun _ => none, ?_, fun i y av e1 e2 e3 => ?_⟩, fun y c e => ?_, ?_, fun y c e => ?_, fun p hp => ?_, I.hok.kept kp, by rw [wipe_length]; exact I.len⟩
 ·show Heap.Ns _ cenv.locals _
  rw [hL]
  exact Heap.Ns.keeps (Heap.Ns.new ..) fun b o e => pushCells_keeps _ _ _ _ e
 ·obtain ⟨e2, hne⟩ := wipe_some e2
  have hfr : scope.names.lookup y = some .free ∧ (cenv.kindOf y = some .cell ∨ cenv.kindOf y = some .free) := by
   have key : ∀ k, cenv.scope.names.lookup y = some k → k = .local ∨ k = .cell ∨ k = .free → scope.names.lookup y = some .free ∧ (cenv.kindOf y = some .cell ∨ cenv.kindOf y = some .free) := fun k hk hk' => by
    have hk0 := hk
    rw [hsc] at hk
    obtain ⟨k', e, r⟩ := lookup_relS hk
    have no : ¬ (k' = .local ∨ k' = .cell) := fun hh => by
     rcases ok.own _ (PySem.mem_of_lookup e) hh with e' | e'
     ·obtain ⟨p, hp, hpy⟩ := List.mem_map.mp e'
      have e3 := ok.ix p hp
      have : p.1 = y := hpy
      rw [this] at e3
      exact hne (List.mem_map.mpr ⟨p, hp, nodup_ix hN e3 e1⟩)
     ·exact e' (List.mem_of_getElem? e1)
    rcases r with rfl | ⟨rfl, rfl⟩
    ·rcases hk' with rfl | rfl | rfl
     ·exact absurd (.inl rfl) no
     ·exact absurd (.inr rfl) no
     ·exact ⟨e, .inr hk0⟩
    ·exact ⟨e, .inl hk0⟩
   have e3 : Vis cenv.scope y := e3
   rcases e3 with e3 | e3 | e3
   ·exact key _ e3 (.inl rfl)
   ·exact key _ e3 (.inr (.inl rfl))
   ·exact key _ e3 (.inr (.inr rfl))
  obtain ⟨m, hn, hl⟩ := I.loc
  have hvis : Vis X.env.scope y := (ok.free _ (PySem.mem_of_lookup hfr.1) rfl).elim (fun k => .inr (.inl k)) (fun k => .inr (.inr k))
  obtain ⟨w, r, q⟩ := hl i y av e1 e2 hvis
  refine ⟨w, r, .inr ⟨hfr.2, ?_⟩⟩
  obtain ⟨c, h1, h2⟩ := look hfr.1
  rcases q with ⟨k, _⟩ | ⟨_, c', e', z⟩
  ·have k : X.env.scope.names.lookup y = some .local := k
   rcases ok.free _ (PySem.mem_of_lookup hfr.1) rfl with k' | k' <;> rw [show X.env.scope.names.lookup y = _ from k'] at k <;> cases k
  ·rw [h2] at e'; cases e'
   exact ⟨c, h1, z.keeps kp⟩
 ·have e : cenv.cells.lookup y = some c := e
  rcases mem e with ⟨h1, _⟩ | ⟨_, z⟩
  ·obtain ⟨w, z⟩ := I.cell y c h1
   exact ⟨w, z.keeps kp⟩
  ·exact ⟨_, z⟩
 ·show H cenv.locals = none
  rw [hL]; exact I.hok.fresh (Nat.le_refl _)
 ·have e : cenv.cells.lookup y = some c := e
  rcases mem e with ⟨h1, _⟩ | ⟨h1, _⟩
  ·exact I.freeC y c h1
  ·exact I.hok.fresh (Nat.le_of_succ_le h1)
 ·exact absurd (show p ∈ ([] : List (Addr × Obj)) ++ [] from hp) (by simp)
theorem app_ok {E : Value → Shared → Prop} {D : Addr} {xs : List V} {y : V} {v : Value} {Q : Value → Shared → Prop} (I : Inv X pins σ H s) (hD : H D = some (.lst xs)) (hz : xs.length < sizeLine) (r : RelV y v)
  (h : ∀ s', Inv X pins σ (upd H D (.lst (xs ++ [y]))) s' → Q .none s') : wpAny (model X.prog X.w) X.A (call (.builtin "list.append") [.ref D, v]) Q E s := by
 obtain ⟨hz', its, n, ri, e⟩ := I.hok D _ hD
 have hl := ri.length
 refine append_at (hsz := by rw [List.size_toArray]; omega) e fun h' sb ho' => ?_
 refine h { s with heap := h' } (I.write (t' := s.toks) (by rw [hD]; trivial) (.inl rfl) (fun b u hb q => (sb.2 b hb).trans q) ⟨_, ho'⟩ ⟨by rw [List.length_append]; exact hz, its ++ [v], n + 1, ri.append (.cons r .nil), ?_⟩)
 rw [ho']
 simp
def PTs (X : Cx) (ifs : List Expr) (t : TT) : Prop :=
 ∀ (pins : List (Addr × Obj)) (s : Shared) (σ : St) (H : Hp) (Q : Bool → Hp → Prop), Inv X pins σ H s → t σ H Q →
  wpAny (model X.prog X.w) X.A (forIn ifs true fun c r => if r = true then do let ok ← isTrue c X.env (eval c X.env); pure (ForInStep.yield ok) else pure (ForInStep.yield r)) (TP X pins σ Q) X.xe s
def tYes : TT := fun _ H Q => Q true H
theorem pts_nil : PTs X [] tYes := fun _ _ _ H _ I h => wpAny_tests_nil ⟨H, I, h⟩
theorem pts_one {c : Expr} {t : TT} (h : PT X c t) : PTs X [c] t := fun pins s σ H Q I hw => wpAny_tests_one (h pins s σ H Q I hw)
end
theorem thnF {α : Type} {t : Sem α} {Q Q' : α → Shared → Prop} {M : Model} {A : Around} {E : Value → Shared → Prop} {s : Shared} (h : wpAny M A t Q (fun _ _ => False) s) (hQ : ∀ a s, Q a s → Q' a s) : wpAny M A t Q' E s := wpAny_mono h hQ fun _ _ z => False.elim z
theorem compLoop_any {prog : Program} {w : World} {A : Around} {R : Result → Shared → Prop} {s : Shared} {elt target iter : Expr} {ifs : List Expr} {scope : Scope} {pos : Pos} {it acc : Value} {env : Env} (I : Nat → Shared → Prop)
  (turn : ∀ n s, I n s → wpAny (model prog w) A (pyNext it) (fun r s₁ => match r with
   | none => R (.ok .next) s₁
   | some v => wpAny (model prog w) A (letOwnedTupleGo target it v) (fun _ s₁' => wpAny (model prog w) A (assign target env v) (fun _ s₂ =>
     wpAny (model prog w) A (forIn ifs true fun c r => if r = true then do let ok ← isTrue c env (eval c env); pure (ForInStep.yield ok) else pure (ForInStep.yield r)) (fun ok s₃ =>
      if ok = true then wpAny (model prog w) A (eval elt env) (fun x s₄ =>
       wpAny (model prog w) A (call (.builtin "list.append") [acc, x]) (fun _ s₅ => ∃ m, m < n ∧ I m s₅) (notedBy (model prog w) A env fun e s' => R (.error e) s') s₄) (notedBy (model prog w) A env fun e s' => R (.error e) s') s₃
      else ∃ m, m < n ∧ I m s₃) (notedBy (model prog w) A env fun e s' => R (.error e) s') s₂) (notedBy (model prog w) A env fun e s' => R (.error e) s') s₁') (notedBy (model prog w) A env fun e s' => R (.error e) s') s₁) (notedBy (model prog w) A env fun e s' => R (.error e) s') s)
  (n : Nat) (h : I n s) :
  codeAny (model prog w) A (.compLoop (.ListComp elt [⟨target, iter, ifs, 0⟩] scope pos) 0 it acc env) R s := by
 refine codeAny_loop rfl I (fun n s hI => ?_) n h
 show wpAny _ A ((compTurn (.ListComp elt [⟨target, iter, ifs, 0⟩] scope pos) 0 it acc env).onRaise (fun x => do noteFrame x env; theTreesLotGoes x)) _ _ s
 refine wpAny_noted ?_
 rw [compTurn_list]
 refine wpAny_bind (wpAny_standAt (wpAny_bind (wpAny_mono (turn n s hI) (fun r s₁ h₁ => ?_) fun _ _ h' => h')))
 cases r with
 | none => exact wpAny_pure h₁
 | some v =>
  refine wpAny_bind (wpAny_mono h₁ (fun _ s₁' h₁' => ?_) fun _ _ h' => h')
  refine wpAny_bind (wpAny_mono h₁' (fun _ s₂ h₂ => wpAny_bind (wpAny_mono h₂ (fun ok s₃ h₃ => ?_) fun _ _ h' => h')) fun _ _ h' => h')
  cases ok with
  | false => exact wpAny_pure ⟨rfl, h₃⟩
  | true =>
   exact wpAny_bind (wpAny_bind (wpAny_mono h₃ (fun x s₄ h₄ => wpAny_bind (wpAny_mono h₄ (fun _ s₅ h₅ => wpAny_pure (wpAny_pure ⟨rfl, h₅⟩)) fun _ _ h' => h')) fun _ _ h' => h'))
section
variable {X : Cx}
def tLc (wi : TI) (g : TG) (tt : TT) (te : TE) (vs : List Nat) : TE := fun σ H Q => wi σ H fun J H1 => ∀ D, H1 D = none → ∃ W : Nat → Nat → Hp → Prop, (∃ m, W 0 m (upd H1 D (.lst []))) ∧ ∀ i m H, W i m H →
 (J.stop i H ∧ Q (.ref D) H) ∨ (J.go i H ∧ ∃ Nx : Hp → Prop, (∀ H', Nx H' → ∃ m', m' < m ∧ W (i + 1) m' H') ∧ ∀ x H', J.yld i H x H' → g x (wipe σ vs) H' fun σ2 H2 => wipe σ2 vs = wipe σ vs ∧ tt σ2 H2 fun b H3 =>
  if b = true then te σ2 H3 fun y H4 => ∃ acc, H4 D = some (.lst acc) ∧ acc.length < sizeLine ∧ Nx (upd H4 D (.lst (acc ++ [y]))) else Nx H3)
theorem lc_core {pins : List (Addr × Obj)} {s : Shared} {σ : St} {H : Hp} {Q : VK} {elt tg iter : Expr} {ifs : List Expr} {scope : Scope} {own : List (Str × Nat)} {pos pos' : Pos} {wi : TI} {g : TG} {tt : TT} {te : TE} {use : Option (Value → Sem Unit)} {Qf : Value → Shared → Prop}
  (hc : X.calm = true) (hN : X.N.Nodup) (I : Inv X pins σ H s) (hi : PI X tg iter wi) (ok : BlkOk X.N X.env.scope scope own)
  (hg : ∀ (s : Shared) (H : Hp) (C : Addr) (cl : List (Str × Addr)) (fp : List Addr), PG (X.blk s H scope (compEnvC scope cl C X.env) fp) tg g) (ht : ∀ (s : Shared) (H : Hp) (C : Addr) (cl : List (Str × Addr)) (fp : List Addr), PTs (X.blk s H scope (compEnvC scope cl C X.env) fp) ifs tt)
  (he : ∀ (s : Shared) (H : Hp) (C : Addr) (cl : List (Str × Addr)) (fp : List Addr), PE (X.blk s H scope (compEnvC scope cl C X.env) fp) elt te) (hs : ∀ x, foldedSetIterable iter X.env x = pure x)
  (h : tLc wi g tt te (own.map (·.2)) σ H Q)
  (hRR : ∀ D C s' m H', Inv X pins σ H' s' → Q (.ref D) H' → s'.heap.Ns C m → FpOk X pins H' C → compPost (model X.prog X.w) X.A X.xe use Qf (.ref D) C (.ok .next) s') :
  wpAny (model X.prog X.w) X.A (comprehension (.ListComp elt [⟨tg, iter, ifs, 0⟩] scope pos) scope X.env pos' (newList []) false (eval iter X.env) use) Qf X.xe s := by
 have hfree : ∀ y ∈ scope.names, y.2 = .free → ∃ c, X.env.cells.lookup y.1 = some c := fun y hy e => by
  rcases ok.free y hy e with k | k
  ·exact I.ok.has _ (.inl k)
  ·exact I.ok.has _ (.inr k)
 refine wpAny_comprehension_free (use := use) rfl hs (closure_ok hfree) ok.kind (fun y hy e => by rw [ok.uniq y hy, e])
  (thn (hi pins s σ H _ I h) fun xv s1 hx => thn hx fun itv s2 h2 => ?_)
 obtain ⟨it, fp, tn, J, H2, e, I2, T, st2, f2, q⟩ := h2
 subst e
 refine wpAny_newObj_type (newEnv_comp ?_) (by show 0 ≤ sizeLine; decide)
 generalize hD : s2.heap.objs.size = D
 have hDn : H2 D = none := I2.hok.fresh (Nat.le_of_eq hD)
 obtain ⟨W, ⟨m0, w0⟩, turn⟩ := q D hDn
 generalize hs3 : ({ s2 with heap := s2.heap.push { cls := .type "list", data := .seq ([] : List Value).toArray } } : Shared) = s3
 have I3 : Inv X pins σ (upd H2 D (.lst [])) s3 := by
  rw [← hs3]
  refine I2.laid (t' := s2.toks) (fun b o e => Heap.get?_push_of_some _ e) (Nat.le_of_eq hD) ⟨Nat.zero_le _, [], 0, .nil, ?_⟩
  rw [← hD]
  exact Heap.get?_push_size _ rfl
 have h3 : s3.heap = s2.heap.push { cls := .type "list", data := .seq ([] : List Value).toArray } := by rw [← hs3]
 have sz : ∀ b ∈ fp, b < s2.heap.objs.size := fun b hb => by
  obtain ⟨o, e, _⟩ := T.obj _ _ st2 b hb
  exact Heap.lt_size e
 have f3 : ∀ b ∈ fp, FpOk X pins (upd H2 D (.lst [])) b ∧ b < s3.heap.objs.size := fun b hb => by
  have hlt := sz b hb
  refine ⟨⟨?_, (f2 b hb).2⟩, by rw [h3, Heap.size_push]; exact Nat.lt_succ_of_lt hlt⟩
  rw [upd_ne (by rw [← hD]; exact Nat.ne_of_lt hlt)]
  exact (f2 b hb).1
 have st3 : tn 0 s3.heap := T.keep _ _ _ st2 fun b _ o e => by rw [h3]; exact Heap.get?_push_of_some _ e
 have I4 := block_start I3 ok hN f3
 have pg := hg s3 (upd H2 D (.lst [])) s3.heap.objs.size (cellsFrom (s3.heap.objs.size + 1) scope.names (cloFrom X.env.cells scope.names [])) fp
 have pt := ht s3 (upd H2 D (.lst [])) s3.heap.objs.size (cellsFrom (s3.heap.objs.size + 1) scope.names (cloFrom X.env.cells scope.names [])) fp
 have pe := he s3 (upd H2 D (.lst [])) s3.heap.objs.size (cellsFrom (s3.heap.objs.size + 1) scope.names (cloFrom X.env.cells scope.names [])) fp
 show codeAny _ _ (.compStart (.ListComp elt [⟨tg, iter, ifs, 0⟩] scope pos) 0 (.ref it) (.ref D) (compEnvC scope (cellsFrom (s3.heap.objs.size + 1) scope.names (cloFrom X.env.cells scope.names [])) s3.heap.objs.size X.env)) (compPost (model X.prog X.w) X.A X.xe use Qf (.ref D) s3.heap.objs.size) { s3 with heap := pushCells (s3.heap.push { cls := .type "dict", data := .dict #[] }) scope.names }
 have nfp : ∀ b ∈ fp, (upd H2 D (.lst [])) b = none := fun b hb => (f3 b hb).1.1
 generalize hce : compEnvC scope (cellsFrom (s3.heap.objs.size + 1) scope.names (cloFrom X.env.cells scope.names [])) s3.heap.objs.size X.env = ce at I4 pg pt pe ⊢
 have cL : ce.locals = s3.heap.objs.size := by subst hce; rfl
 generalize hH3 : upd H2 D (.lst []) = H3 at I3 I4 pg pt pe w0 nfp f3
 generalize hs4 : ({ s3 with heap := pushCells (s3.heap.push { cls := .type "dict", data := .dict #[] }) scope.names } : Shared) = s4 at I4 ⊢
 have st4 : tn 0 s4.heap := T.keep _ _ _ st3 fun b _ o e => by rw [← hs4]; exact pushCells_keeps _ _ _ _ (Heap.get?_push_of_some _ e)
 have stat : ∀ {σ' : St} {H' : Hp} {s' : Shared}, Inv (X.blk s3 H3 scope ce fp) [] σ' H' s' → (∀ b ∈ fp, H' b = none) → ∀ b ∈ fp, FpOk (X.blk s3 H3 scope ce fp) [] H' b := fun {σ' H' s'} I' hn b hb =>
  ⟨hn b hb, (I'.ok.exf b hb).1, I'.ok.exfs b hb, .inl hb, fun x c e => (I'.ok.exf b hb).2 x c e, fun p hp => absurd (show p ∈ ([] : List (Addr × Obj)) ++ [] from hp) (by simp)⟩
 have loop : codeAny (model X.prog X.w) X.A (.compLoop (.ListComp elt [⟨tg, iter, ifs, 0⟩] scope pos) 0 (.ref it) (.ref D) ce) (compPost (model X.prog X.w) X.A X.xe use Qf (.ref D) s3.heap.objs.size) s4 := by
  refine compLoop_any (fun n s' => ∃ i H', Inv (X.blk s3 H3 scope ce fp) [] (wipe σ (own.map (·.2))) H' s' ∧ tn i s'.heap ∧ (∀ b ∈ fp, H' b = none) ∧ W i n H') ?_ m0 ⟨0, H3, I4, st4, nfp, w0⟩
  rintro n s5 ⟨i, H5, I5, st5, n5, w5⟩
  rcases turn i n H5 w5 with ⟨stop, qq⟩ | ⟨go, Nx, hNx, step⟩
  ·have td := T.done (X.blk s3 H3 scope ce fp) rfl rfl rfl hc i [] s5 _ H5 (fun _ _ => False) I5 (stat I5 n5) st5 stop
   refine thnF td fun r s6 ⟨hr, I6⟩ => ?_
   subst hr
   have I7 : Inv X pins σ H5 s6 := I3.call' (ch := fp) I6.os I6.base I6.hok I6.bare fun b hb => ⟨(f3 b hb).1.2.2.2.1, (f3 b hb).1.2.1, (f3 b hb).1.2.2.2.2.1, (f3 b hb).1.2.2.2.2.2⟩
   have nC : H5 s3.heap.objs.size = none := by
    have z : H5 ce.locals = none := I6.free
    rw [cL] at z
    exact z
   obtain ⟨m, hn, _⟩ := I6.loc
   have hn : s6.heap.Ns ce.locals m := hn
   rw [cL] at hn
   exact hRR D s3.heap.objs.size s6 m H5 I7 qq hn (I3.fpOk (Nat.le_refl _) nC)
  ·have ti := T.item (X.blk s3 H3 scope ce fp) rfl rfl rfl hc i [] s5 _ H5 (fun _ _ => False) I5 (stat I5 n5) st5 go
   refine thnF ti fun r s6 ⟨u, hr, h6⟩ => ?_
   subst hr
   refine thnF h6 fun _ s7 ⟨x, H7, I7, r7, y7, st7, n7⟩ => ?_
   have I7' := I7.pinned (stat I7 n7) (T.obj _ _ st7)
   refine thnF (pg _ s7 _ H7 x u _ I7' r7 (step x H7 y7)) fun _ s8 ⟨σ8, H8, I8, hw8, q8⟩ => ?_
   refine thnF (pt _ s8 σ8 H8 _ I8 q8) fun b s9 ⟨H9, I9, q9⟩ => ?_
   have fin : ∀ {s' : Shared} {H' : Hp}, Inv (X.blk s3 H3 scope ce fp) ([] ++ pinsAt fp s7.heap) σ8 H' s' → Nx H' → ∃ m, m < n ∧ ∃ i H', Inv (X.blk s3 H3 scope ce fp) [] (wipe σ (own.map (·.2))) H' s' ∧ tn i s'.heap ∧ (∀ b ∈ fp, H' b = none) ∧ W i m H' := fun {s' H'} I' nx => by
    obtain ⟨m', hm, w'⟩ := hNx H' nx
    have pin' : ∀ b ∈ fp, ∀ o, s7.heap.get? b = some o → s'.heap.get? b = some o ∧ H' b = none := fun b hb o e =>
     let z := I'.pin (b, o) (List.mem_append_right _ (List.mem_append_right _ (mem_pinsAt hb e)))
     ⟨z.1, z.2.1⟩
    have hl : (wipe σ (own.map (·.2))).length = σ8.length := by rw [← hw8, wipe_length]
    refine ⟨m', hm, i + 1, H', (I'.unpinned (pins := [])).weak hl (fun j v e => ?_), T.keep _ _ _ st7 fun b hb o e => (pin' b hb o e).1, fun b hb => ?_, w'⟩
    ·rw [← hw8] at e
     exact (wipe_some e).1
    ·obtain ⟨o, e, _⟩ := T.obj _ _ st7 b hb
     exact (pin' b hb o e).2
   cases b with
   | false =>
    simp only [Bool.false_eq_true, if_false] at q9 ⊢
    exact fin I9 q9
   | true =>
    simp only [if_true] at q9 ⊢
    refine thnF (pe _ s9 σ8 H9 _ I9 q9) fun z s10 ⟨yv, H10, I10, r10, acc, hD10, hz10, nx⟩ => ?_
    exact app_ok (X := X.blk s3 H3 scope ce fp) I10 hD10 hz10 r10 fun s11 I11 => fin I11 nx
 exact codeAny_compStart_list loop (T.self X.A 0 _ _ _ st4 loop)
theorem pe_lc {elt tg iter : Expr} {ifs : List Expr} {scope : Scope} {own : List (Str × Nat)} {pos : Pos} {wi : TI} {g : TG} {tt : TT} {te : TE} (hc : X.calm = true) (hN : X.N.Nodup) (hi : PI X tg iter wi) (ok : BlkOk X.N X.env.scope scope own)
  (hg : ∀ (s : Shared) (H : Hp) (C : Addr) (cl : List (Str × Addr)) (fp : List Addr), PG (X.blk s H scope (compEnvC scope cl C X.env) fp) tg g) (ht : ∀ (s : Shared) (H : Hp) (C : Addr) (cl : List (Str × Addr)) (fp : List Addr), PTs (X.blk s H scope (compEnvC scope cl C X.env) fp) ifs tt)
  (he : ∀ (s : Shared) (H : Hp) (C : Addr) (cl : List (Str × Addr)) (fp : List Addr), PE (X.blk s H scope (compEnvC scope cl C X.env) fp) elt te) (hs : ∀ x, foldedSetIterable iter X.env x = pure x := by intro _; rfl) :
  PE X (.ListComp elt [⟨tg, iter, ifs, 0⟩] scope pos) (tLc wi g tt te (own.map (·.2))) := by
 intro pins s σ H Q I h
 rw [eval_ListComp]
 refine lc_core hc hN I hi ok hg ht he hs h fun D C s' m H' I' q hn f => ⟨m, hn, fun h'' sb => ?_⟩
 obtain ⟨f0, f1, f2, f3, f4, f5⟩ := f
 exact ⟨.ref D, H', I'.turned (t' := s'.toks) (fun b o hb e => (sb.2 b hb).trans e) f0 f1 f3 f4 f5, rfl, q⟩
theorem ps_setLc {i : Nat} {y : Str} {py : Pos} {elt tg iter : Expr} {ifs : List Expr} {scope : Scope} {own : List (Str × Nat)} {pos spos : Pos} {wi : TI} {g : TG} {tt : TT} {te : TE} (hc : X.calm = true) (hN : X.N.Nodup) (hy : X.N[i]? = some y) (hyl : X.env.scope.names.lookup y = some .local)
  (hsw : swapsWith (.ListComp elt [⟨tg, iter, ifs, 0⟩] scope pos) (some (.Name y py)) spos.line X.env = pure true) (hi : PI X tg iter wi) (ok : BlkOk X.N X.env.scope scope own)
  (hg : ∀ (s : Shared) (H : Hp) (C : Addr) (cl : List (Str × Addr)) (fp : List Addr), PG (X.blk s H scope (compEnvC scope cl C X.env) fp) tg g) (ht : ∀ (s : Shared) (H : Hp) (C : Addr) (cl : List (Str × Addr)) (fp : List Addr), PTs (X.blk s H scope (compEnvC scope cl C X.env) fp) ifs tt)
  (he : ∀ (s : Shared) (H : Hp) (C : Addr) (cl : List (Str × Addr)) (fp : List Addr), PE (X.blk s H scope (compEnvC scope cl C X.env) fp) elt te) (hs : ∀ x, foldedSetIterable iter X.env x = pure x := by intro _; rfl) :
  PS X (.Assign [.Name y py] (.ListComp elt [⟨tg, iter, ifs, 0⟩] scope pos) spos) (tAsg (tLc wi g tt te (own.map (·.2))) (gName i)) := by
 intro pins s σ H D I h
 rw [exec_Assign_Name_used _ _ _ _ hsw]
 refine wpAny_bind (wpAny_standAt (wpAny_bind ?_))
 show wpAny _ X.A (do let _ ← comprehension (.ListComp elt [⟨tg, iter, ifs, 0⟩] scope pos) scope X.env (firstIterPos [⟨tg, iter, ifs, 0⟩] pos) (newList []) false (eval iter X.env) (some (assign (.Name y py) X.env))) _ _ s
 have h : tLc wi g tt te (own.map (·.2)) σ H (fun x H1 => gName i x σ H1 D.nx) := h
 refine wpAny_bind (thn (lc_core (Qf := fun _ s' => SP X pins D .next s') hc hN I hi ok hg ht he hs h fun L C s' m H' I' q hn f => ?_) fun _ s' hq => wpAny_pure (wpAny_pure hq))
 show wpAny _ _ (assign (.Name y py) X.env (.ref L)) _ _ _
 refine wpAny_assign_Name (store_ok2 (v := V.ref L) I' hN hy (.inl hyl) rfl (fun s2 I2 ⟨a, sb, ha⟩ => ?_) (.inr hyl))
 obtain ⟨f0, f1, f2, f3, f4, f5⟩ := f
 have haC : C ≠ a := by
  rcases ha with z | z
  ·rw [z]; exact f1
  ·exact fun e => f4 y a z e.symm
 refine ⟨m, hn.sameBut sb haC, fun h3 sb3 => ?_⟩
 exact ⟨_, H', I2.turned (t' := s2.toks) (fun b o hb e => (sb3.2 b hb).trans e) f0 f1 f3 f4 f5, q⟩
theorem sw_true {elt : Expr} {gs : List Comprehension} {scope : Scope} {pos py : Pos} {y : Str} {l : Nat} {env : Env} (hk : env.scope.kind = .function) (hy : env.scope.names.lookup y = some .local) (hl : (py.line == pos.line) = true)
  (ha : (scope.names.any fun (n, k) => n == y && (k == .local || k == .cell)) = false) : swapsWith (.ListComp elt gs scope pos) (some (.Name y py)) l env = pure true := by
 have ky : env.kindOf y = some .local := hy
 have hb : env.blockKind = .function := by unfold Env.blockKind; rw [hk]; rfl
 unfold swapsWith
 simp only [hb, ky, ha, Expr.pos, hl]
 rfl
end
theorem lc_range {lo : Int} {n : Nat} {g : TG} {tt : TT} {te : TE} {vs : List Nat} {σ : St} {H1 : Hp} {D : Addr} {Qd : Hp → Prop} (Pv : Nat → Hp → Prop) (h0 : Pv 0 (upd H1 D (.lst [])))
  (hs : ∀ i H, i < n → Pv i H → g (.int (lo + i)) (wipe σ vs) H fun σ2 H2 => wipe σ2 vs = wipe σ vs ∧ tt σ2 H2 fun b H3 =>
   if b = true then te σ2 H3 fun y H4 => ∃ acc, H4 D = some (.lst acc) ∧ acc.length < sizeLine ∧ Pv (i + 1) (upd H4 D (.lst (acc ++ [y]))) else Pv (i + 1) H3) (hd : ∀ H, Pv n H → Qd H) :
  ∃ W : Nat → Nat → Hp → Prop, (∃ m, W 0 m (upd H1 D (.lst []))) ∧ ∀ i m H, W i m H →
   ((Itr lo n).stop i H ∧ Qd H) ∨ ((Itr lo n).go i H ∧ ∃ Nx : Hp → Prop, (∀ H', Nx H' → ∃ m', m' < m ∧ W (i + 1) m' H') ∧ ∀ x H', (Itr lo n).yld i H x H' → g x (wipe σ vs) H' fun σ2 H2 => wipe σ2 vs = wipe σ vs ∧ tt σ2 H2 fun b H3 =>
    if b = true then te σ2 H3 fun y H4 => ∃ acc, H4 D = some (.lst acc) ∧ acc.length < sizeLine ∧ Nx (upd H4 D (.lst (acc ++ [y]))) else Nx H3) := by
 refine ⟨fun i m H => m = n - i ∧ i ≤ n ∧ Pv i H, ⟨n, by simp, Nat.zero_le _, h0⟩, ?_⟩
 rintro i m H ⟨rfl, hi, p⟩
 by_cases hlt : i < n
 ·refine .inr ⟨hlt, Pv (i + 1), fun H' p' => ⟨n - (i + 1), by omega, rfl, hlt, p'⟩, fun x H' y => ?_⟩
  obtain ⟨e, y⟩ := y
  subst e y
  exact hs i _ hlt p
 ·have e : i = n := by omega
  subst e
  exact .inl ⟨Nat.le_refl _, hd H p⟩
theorem lc_list {K : PySem.W.Frag} {a : Addr} {xs : List V} {g : TG} {tt : TT} {te : TE} {vs : List Nat} {σ : St} {H1 : Hp} {D : Addr} {Qd : Hp → Prop} (Pv : Nat → Hp → Prop) (h0 : Pv 0 (upd H1 D (.lst []))) (hl : ∀ i H, i ≤ xs.length → Pv i H → SqL K H a xs)
  (hs : ∀ i x H, xs[i]? = some x → Pv i H → g x (wipe σ vs) H fun σ2 H2 => wipe σ2 vs = wipe σ vs ∧ tt σ2 H2 fun b H3 =>
   if b = true then te σ2 H3 fun y H4 => ∃ acc, H4 D = some (.lst acc) ∧ acc.length < sizeLine ∧ Pv (i + 1) (upd H4 D (.lst (acc ++ [y]))) else Pv (i + 1) H3) (hd : ∀ H, Pv xs.length H → Qd H) :
  ∃ W : Nat → Nat → Hp → Prop, (∃ m, W 0 m (upd H1 D (.lst []))) ∧ ∀ i m H, W i m H →
   ((Itl K a).stop i H ∧ Qd H) ∨ ((Itl K a).go i H ∧ ∃ Nx : Hp → Prop, (∀ H', Nx H' → ∃ m', m' < m ∧ W (i + 1) m' H') ∧ ∀ x H', (Itl K a).yld i H x H' → g x (wipe σ vs) H' fun σ2 H2 => wipe σ2 vs = wipe σ vs ∧ tt σ2 H2 fun b H3 =>
    if b = true then te σ2 H3 fun y H4 => ∃ acc, H4 D = some (.lst acc) ∧ acc.length < sizeLine ∧ Nx (upd H4 D (.lst (acc ++ [y]))) else Nx H3) := by
 refine ⟨fun i m H => m = xs.length - i ∧ i ≤ xs.length ∧ Pv i H, ⟨xs.length, by simp, Nat.zero_le _, h0⟩, ?_⟩
 rintro i m H ⟨rfl, hi, p⟩
 have q := hl i H hi p
 by_cases hlt : i < xs.length
 ·refine .inr ⟨⟨xs, xs[i], q, by simp [hlt]⟩, Pv (i + 1), fun H' p' => ⟨xs.length - (i + 1), by omega, rfl, hlt, p'⟩, fun x H' y => ?_⟩
  obtain ⟨e, y⟩ := y
  subst e
  exact hs i x _ (y xs q) p
 ·have e : i = xs.length := by omega
  subst e
  exact .inl ⟨⟨xs, q, Nat.le_refl _⟩, hd H p⟩
def blkC (N : List Str) (sc scope : Scope) (own : List (Str × Nat)) : Bool :=
 (match scope.kind with | .function => true | _ => false) && (scope.names.all fun y => decide (scope.names.lookup y.1 = some y.2)) && (own.all fun p => decide (N[p.2]? = some p.1)) &&
  (scope.names.all fun y => match y.2 with
   | .free => (match sc.names.lookup y.1 with | some .cell => true | some .free => true | _ => false)
   | .local => decide (y.1 ∈ own.map (·.1)) || decide (y.1 ∉ N)
   | .cell => decide (y.1 ∈ own.map (·.1)) || decide (y.1 ∉ N)
   | _ => true)
theorem blkOk_by {N : List Str} {sc scope : Scope} {own : List (Str × Nat)} (h : blkC N sc scope own = true) : BlkOk N sc scope own := by
 unfold blkC at h
 simp only [Bool.and_eq_true, List.all_eq_true, decide_eq_true_eq] at h
 obtain ⟨⟨⟨h1, h2⟩, h3⟩, h4⟩ := h
 refine ⟨?_, h2, h3, fun y hy e => ?_, fun y hy e => ?_⟩
 ·split at h1
  ·assumption
  ·cases h1
 ·have q := h4 y hy
  simp only [e] at q
  split at q <;> first | exact .inl (by assumption) | exact .inr (by assumption) | cases q
 ·have q := h4 y hy
  rcases e with e | e <;> (simp only [e, Bool.or_eq_true, decide_eq_true_eq] at q; exact q)
end L2
namespace L2
open PySem PySem.Spec PyProof.Rows
section
variable {prog : Program} {w : World} {A : Around} {R : Result → Shared → Prop} {s : Shared} {elt t0 i0 t1 i1 : Expr} {ifs0 ifs1 : List Expr} {scope : Scope} {pos : Pos} {it acc : Value} {env : Env}
end
section
variable {X : Cx}
end
end L2
namespace L2
open PySem PySem.Spec PyProof.Rows
section
variable {κ : Type} [DecidableEq κ]
end
section
variable {P : Program} {w : World} {H : Hp} {h : Heap} {a : Addr}
end
section
variable {X : Cx} {pins : List (Addr × Obj)} {σ : St} {H : Hp} {s : Shared} {a : Addr} {y v : V} {u r : Value} {o : Option V} {A : Around} {E : Value → Shared → Prop}
end
section
variable {X : Cx} {pins : List (Addr × Obj)} {σ : St} {H : Hp} {s : Shared} {a : Addr} {kvs : List (Key × V)} {k : Key} {u : Value} {A : Around} {E : Value → Shared → Prop}
end
section
variable {X : Cx} {o i e value : Expr} {pos pos' tpos : Pos} {td ty tv : TE}
end
section
variable {X : Cx} {pos : Pos}
end
section
variable {X : Cx} {pins : List (Addr × Obj)} {σ : St} {H : Hp} {s : Shared} {a : Addr} {y d : V} {u r : Value} {o : Option V} {A : Around} {E : Value → Shared → Prop}
end
section
variable {X : Cx} {o e f : Expr} {apos cpos : Pos} {td ty tx : TE}
end
section
variable {X : Cx} {pins : List (Addr × Obj)} {σ : St} {H : Hp} {s : Shared} {a : Addr} {kvs : List (Key × V)} {A : Around} {E : Value → Shared → Prop}
end
section
variable {X : Cx} {pins : List (Addr × Obj)} {σ : St} {H : Hp} {s : Shared} {a : Addr} {y : V} {u : Value} {A : Around} {E : Value → Shared → Prop}
end
end L2
namespace L2
open PySem PySem.Spec PyProof.Rows
section
variable {prog : Program} {w : World} {A : Around} {E : Value → Shared → Prop}
end
section
variable {X : Cx}
end
end L2
namespace L2
open PySem PySem.Spec PyProof.Rows
theorem boot_reversed5 : bootBuiltins "reversed" = some (.type "reversed") := by decide +kernel
section
variable {X : Cx} {pins : List (Addr × Obj)} {σ : St} {H : Hp} {s : Shared} {h' : Heap}
theorem Inv.lock {d : Addr} {u : HO} (I : Inv X pins σ H s) (h : H d = some u) (mu : Mut (some u)) : ∃ od, Inv X pins σ (upd H d (.frz od u)) s := by
 have x := I.hok d u h
 have ex : ∃ od, s.heap.get? d = some od := by
  cases u with
  | lst xs => obtain ⟨_, _, _, _, e⟩ := x; exact ⟨_, e⟩
  | dK kvs => obtain ⟨_, _, _, _, o, _, _, e, _⟩ := x; exact ⟨o, e⟩
  | dT kvs => obtain ⟨_, _, _, _, o, _, _, e, _⟩ := x; exact ⟨o, e⟩
  | set S n => obtain ⟨o, _, _, _, e, _⟩ := x; exact ⟨o, e⟩
  | ins C dx fs => obtain ⟨_, _, _, e, _⟩ := x; exact ⟨_, e⟩
  | ext φ => obtain ⟨_, ⟨_, e⟩, _⟩ := x; exact ⟨_, e⟩
  | _ => exact False.elim mu
 obtain ⟨od, e⟩ := ex
 have new : ObjOk X.prog X.w (upd H d (.frz od u)) s.heap d (.frz od u) := by
  refine ⟨e, x.stay (fun b v _ q => q) (fun b q => ?_) fun b xs q => ?_⟩
  ·rw [upd_ne (fun z => by rw [z, h] at q; cases q; exact mu)]; exact q
  ·rw [upd_ne (fun z => by rw [z, h] at q; cases q; exact mu)]; exact q
 exact ⟨od, I.write (x := d) (e := d) (t' := s.toks) (h' := s.heap) (by rw [h]; exact mu) (.inl rfl) (fun b v _ q => q) ⟨od, e⟩ new⟩
theorem Inv.nofrz {d : Addr} {u : HO} (I : Inv X pins σ H s) (h : H d = some u) (mu : Mut (some u)) : ∀ o' u', X.H_0 d ≠ some (.frz o' u') := fun o' u' e => by
 have q := I.base.frzs d o' u' e
 rw [h] at q
 cases q
 exact mu
theorem Inv.unlock {d : Addr} {od : Obj} {u : HO} (I : Inv X pins σ H s) (h : H d = some (.frz od u)) (hn : ∀ o' u', X.H_0 d ≠ some (.frz o' u')) : Inv X pins σ (upd H d u) s := by
 have neH : ∀ b o, H b = some o → (∀ o' u', o ≠ .frz o' u') → b ≠ d := fun b o e hne z => by
  rw [z, h] at e
  cases e
  exact hne _ _ rfl
 have neN : ∀ b, H b = none → b ≠ d := fun b e z => by rw [z, h] at e; cases e
 refine ⟨I.ok, I.os, I.bare, ⟨I.base.keep, I.base.slot, fun b o e n hx => ?_, I.base.there, fun b xs e => ?_, fun b o x e => ?_, fun b ps e => ?_⟩, I.loc, I.cell, ?_, fun x c e => ?_, fun p hp => ?_, fun b o e => ?_, I.len⟩
 ·rw [upd_ne (neN b (I.base.free b o e n hx))]; exact I.base.free b o e n hx
 ·have q := I.base.tups b xs e
  rw [upd_ne (neH b _ q (fun _ _ z => nomatch z))]; exact q
 ·have q := I.base.frzs b o x e
  rw [upd_ne (fun z => by rw [z] at e; exact hn _ _ e)]; exact q
 ·obtain ⟨m, q⟩ := I.base.tbls b ps e
  exact ⟨m, by rw [upd_ne (neH b _ q (fun _ _ z => nomatch z))]; exact q⟩
 ·rw [upd_ne (neN _ I.free)]; exact I.free
 ·rw [upd_ne (neN c (I.freeC x c e))]; exact I.freeC x c e
 ·obtain ⟨e, n, r⟩ := I.pin p hp
  exact ⟨e, by rw [upd_ne (neN _ n)]; exact n, r⟩
 ·by_cases hb : b = d
  ·rw [hb, upd_same] at e
   cases e
   rw [hb]
   obtain ⟨_, x⟩ := I.hok d _ h
   exact x.stay (fun c v _ q => q) (fun c q => by rw [upd_ne (neH c _ q (fun _ _ z => nomatch z))]; exact q) fun c xs q => by rw [upd_ne (neH c _ q (fun _ _ z => nomatch z))]; exact q
  ·rw [upd_ne hb] at e
   exact (I.hok b o e).stay (fun c v _ q => q) (fun c q => by rw [upd_ne (neH c _ q (fun _ _ z => nomatch z))]; exact q) fun c xs q => by rw [upd_ne (neH c _ q (fun _ _ z => nomatch z))]; exact q
end
def tLock (t : TS) : TS := fun D σ H => ∃ d u, H d = some u ∧ Mut (some u) ∧ ∀ od, t ⟨fun σ' H' => H' d = some (.frz od u) ∧ D.nx σ' (upd H' d u), fun v H' => H' d = some (.frz od u) ∧ D.rt v (upd H' d u), fun σ' H' => H' d = some (.frz od u) ∧ D.bk σ' (upd H' d u), fun σ' H' => H' d = some (.frz od u) ∧ D.ct σ' (upd H' d u)⟩ σ (upd H d (.frz od u))
def tLockE (t : TE) : TE := fun σ H Q => ∃ d u, H d = some u ∧ Mut (some u) ∧ ∀ od, t σ (upd H d (.frz od u)) fun v H' => H' d = some (.frz od u) ∧ Q v (upd H' d u)
section
variable {X : Cx}
theorem ps_lock {st : Stmt} {t : TS} (h : PS X st t) : PS X st (tLock t) := by
 intro pins s σ H D I hw
 obtain ⟨d, u, hd, mu, hw⟩ := hw
 obtain ⟨od, I1⟩ := I.lock hd mu
 refine thn (h pins s σ _ _ I1 (hw od)) fun f s1 q => ?_
 cases f with
 | next => obtain ⟨σ', H', I2, e, q⟩ := q; exact ⟨σ', _, I2.unlock e (I.nofrz hd mu), q⟩
 | brk => obtain ⟨σ', H', I2, e, q⟩ := q; exact ⟨σ', _, I2.unlock e (I.nofrz hd mu), q⟩
 | cont => obtain ⟨σ', H', I2, e, q⟩ := q; exact ⟨σ', _, I2.unlock e (I.nofrz hd mu), q⟩
 | ret v => obtain ⟨x, σ', H', I2, r, e, q⟩ := q; exact ⟨x, σ', _, I2.unlock e (I.nofrz hd mu), r, q⟩
theorem pe_lock {e : Expr} {t : TE} (h : PE X e t) : PE X e (tLockE t) := by
 intro pins s σ H Q I hw
 obtain ⟨d, u, hd, mu, hw⟩ := hw
 obtain ⟨od, I1⟩ := I.lock hd mu
 refine thn (h pins s σ _ _ I1 (hw od)) fun v s1 ⟨x, H1, I2, r, e2, q⟩ => ?_
 exact ⟨x, _, I2.unlock e2 (I.nofrz hd mu), r, q⟩
theorem pi_one {tg : Expr} {pins : List (Addr × Obj)} {σ : St} {H : Hp} {s : Shared} {R : It → Hp → Prop} {J : It} {tn : Nat → Heap → Prop} {tk : Nat} (I : Inv X pins σ H s) (o : Obj)
  (T : Turn X.prog X.w X.K tg J [s.heap.objs.size] s.heap.objs.size tn) (st : tn 0 (s.heap.push o)) (q : R J H) : PIE X pins σ tg R (.ref s.heap.objs.size) { s with heap := s.heap.push o, toks := tk } := by
 refine ⟨s.heap.objs.size, [s.heap.objs.size], tn, J, H, rfl, I.kept fun b ob e => Heap.get?_push_of_some _ e, T, st, fun b hb => ?_, q⟩
 have e : b = s.heap.objs.size := by simpa using hb
 subst e
 exact I.fpOk (Nat.le_refl _) (I.hok.fresh (Nat.le_refl _))
end
def Itc (lo c : Int) (n : Nat) : It := ⟨fun i _ => i < n, fun i H x H' => H' = H ∧ x = .int (lo + (i : Nat) * c), fun i _ => n ≤ i⟩
theorem turn_rangeC {P : Program} {w : World} {K : PySem.W.Frag} {tg : Expr} (it : Addr) (lo c : Int) (n : Nat) : Turn P w K tg (Itc lo c n) [it] it (fun i h => IsRangeIter h it (lo + (i : Nat) * c) ((n : Int) - (i : Nat)) c) where
 mem := by simp
 obj := fun i h st b hb => by
  have e : b = it := by simpa using hb
  subst e
  exact ⟨_, st, fun v z => nomatch z⟩
 keep := fun i h h' st k => k it (by simp) _ st
 item := by
  intro X hP hw hK hc i pins s σ H E I hf st hg
  subst hP hw hK
  obtain ⟨f0, f1, f2, f3, f4, f5⟩ := hf it (by simp)
  have W := Walks.range (prog := X.prog) (w := X.w) (I.ok.hd hc) it lo c n
  refine W.item i s _ _ hg st fun v h' tk hv st' kk => ?_
  obtain ⟨t, rfl⟩ := hv
  have I1 : Inv X pins σ H { s with heap := h', toks := tk } := I.turned (fun b o hb e => kk b o (by simpa using hb) e) f0 f1 f3 f4 f5
  exact ⟨_, rfl, go_of (s := { s with heap := h', toks := tk }) (n := "range_iterator") st' rfl rfl (by decide) ⟨.int (lo + (i : Nat) * c), H, I1, ⟨t, rfl⟩, ⟨rfl, rfl⟩, st', fun b hb => (hf b hb).1⟩⟩
 done := by
  intro X hP hw hK hc i pins s σ H E I hf st hg
  subst hP hw hK
  obtain ⟨f0, f1, f2, f3, f4, f5⟩ := hf it (by simp)
  exact wpAny_pyNext_range_end (I.ok.hd hc) st (by have : n ≤ i := hg; omega) fun h' eb => ⟨rfl, I.turned (t' := s.toks) (fun b o hb e => eb b o hb e) f0 f1 f3 f4 f5⟩
 self := fun A i s Q E st h => wpAny_pyIter_rangeiter st h
section
variable {X : Cx} {tg : Expr}
end
def Itv (K : PySem.W.Frag) (a : Addr) (n : Nat) : It :=
 ⟨fun i H => i < n ∧ ∃ (xs : List V) (x : V), SqL K H a xs ∧ xs[n - 1 - i]? = some x, fun i H x H' => H' = H ∧ ∀ xs, SqL K H a xs → xs[n - 1 - i]? = some x, fun i _ => n ≤ i⟩
theorem turn_rev {P : Program} {w : World} {K : PySem.W.Frag} {tg : Expr} (a it : Addr) (n : Nat) : Turn P w K tg (Itv K a n) [it] it (fun i h => i ≤ n ∧ h.IsRevIter it a ((n : Int) - 1 - (i : Nat))) where
 mem := by simp
 obj := fun i h st b hb => by
  have e : b = it := by simpa using hb
  subst e
  obtain ⟨_, o, e, c, d⟩ := st
  exact ⟨o, e, fun v z => by rw [d] at z; cases z⟩
 keep := fun i h h' st k => ⟨st.1, st.2.at fun o e => k it (by simp) o e⟩
 item := by
  intro X hP hw hK hc i pins s σ H E I hf st hg
  subst hP hw hK
  obtain ⟨hin, xs, x, hq, hx⟩ := hg
  obtain ⟨its, rv, p, hz⟩ := I.list hq
  obtain ⟨u, hu, ru⟩ := rv.get hx
  obtain ⟨f0, f1, f2, f3, f4, f5⟩ := hf it (by simp)
  obtain ⟨_, hit⟩ := st
  have e1 : (n : Int) - 1 - ((i : Nat) : Int) = ((n - 1 - i : Nat) : Int) := by omega
  rw [e1] at hit
  refine wpAny_pyNext_rev_item hit p.isList (x := u) (by simpa using hu) fun h' st' sb => ?_
  have e2 : ((n - 1 - i : Nat) : Int) - 1 = (n : Int) - 1 - ((i + 1 : Nat) : Int) := by omega
  rw [e2] at st'
  have I1 : Inv X pins σ H { s with heap := h' } := I.turned (t' := s.toks) (fun b o hb e => (sb.2 b hb).trans e) f0 f1 f3 f4 f5
  obtain ⟨o, e, c, d⟩ := id st'
  exact ⟨u, rfl, go_of (s := { s with heap := h' }) e c d (by decide) ⟨x, H, I1, ru, ⟨rfl, fun ys hy => by rw [I.list_inj hy hq]; exact hx⟩, ⟨hin, st'⟩, fun b hb => (hf b hb).1⟩⟩
 done := by
  intro X hP hw hK hc i pins s σ H E I hf st hg
  subst hP hw hK
  obtain ⟨f0, f1, f2, f3, f4, f5⟩ := hf it (by simp)
  obtain ⟨hin, hit⟩ := st
  have hge : n ≤ i := hg
  have e1 : (n : Int) - 1 - ((i : Nat) : Int) = -1 := by omega
  rw [e1] at hit
  exact wpAny_pyNext_rev_end (I.ok.hd hc) hit fun h' eb => ⟨rfl, I.turned (t' := s.toks) (fun b o hb e => eb b o hb e) f0 f1 f3 f4 f5⟩
 self := fun A i s Q E st h => wpAny_pyIter_revIter st.2 h
def iRev (K : PySem.W.Frag) (ta : TA) : TI := fun σ H R => ta σ H fun vs H1 => ∃ (a : Addr) (xs : List V), vs = [.ref a] ∧ SqL K H1 a xs ∧ R (Itv K a xs.length) H1
section
variable {X : Cx} {tg : Expr}
theorem pi_reversed {e : Expr} {ta : TA} {p pos : Pos} (hg : Gl X "reversed") (hm : X.mg "reversed" = none) (ha : PA X [e] ta) (hs : starEach [e] X.env = [(false, eval e X.env)] := by rfl) : PI X tg (.Call (.Name "reversed" p) [e] [] pos) (iRev X.K ta) := by
 intro pins s σ H R I h
 refine Call_ (ld_blt I hg hm boot_reversed5 (PyProof.Rows.callWith_type1 (thn (ha pos pins s σ H _ I h) fun us s1 ⟨vs, H1, I1, r1, q1⟩ => ?_) hs rfl))
 obtain ⟨a, xs, e, hq, q⟩ := q1
 subst e
 cases r1 with
 | cons r rr =>
  cases rr
  cases r
  obtain ⟨its, rv, p', hz⟩ := I1.list hq
  have hl := rv.length
  have e1 : ((its.toArray.size : Nat) : Int) - 1 = (xs.length : Int) - 1 - ((0 : Nat) : Int) := by simp only [List.size_toArray]; omega
  refine call_reversed_list p'.isList (wpAny_pyIter_revIter (l := a) (i := ((its.toArray.size : Nat) : Int) - 1) ⟨_, Heap.get?_push_size _ rfl, rfl, rfl⟩ ?_)
  refine pi_one (tk := s1.toks) I1 _ (turn_rev a _ xs.length) ⟨Nat.zero_le _, ?_⟩ q
  rw [← e1]
  exact ⟨_, Heap.get?_push_size _ rfl, rfl, rfl⟩
end
section
variable {prog : Program} {w : World} {A : Around} {E : Value → Shared → Prop} {s : Shared}
end
section
variable {X : Cx} {pins : List (Addr × Obj)} {σ : St} {H : Hp} {s : Shared} {d : Addr} {o : Obj}
end
section
variable {P : Program} {w : World} {K : PySem.W.Frag} {tg : Expr} {d : Addr} {o : Obj} {es : Array DictEntry} {ep : Nat}
end
section
variable {X : Cx} {tg e : Expr} {td : TE} {apos cpos : Pos}
end
end L2
section 
namespace Bits
open PySem PyProof.Rows
end Bits
end 
section 
namespace TL
open PySem PySem.Builtin PySem.Builtin.Str PySem.StrLaws
def pre (S l : List Nat) : Bool := l.take S.length == S
def par (S : List Nat) : List Nat → List Nat → Option (List Nat × List Nat)
 | _, [] => none
 | acc, c :: r => if pre S (c :: r) = true then some (acc, (c :: r).drop S.length) else par S (acc ++ [c]) r
end TL
end 
namespace L2
open PySem PySem.Spec PyProof.Rows
section
variable {X : Cx} {pins : List (Addr × Obj)} {σ : St} {H : Hp} {s : Shared} {Q : VK}
end
section
variable {X : Cx}
end
section
variable {X : Cx} {o e : Expr} {to te : TE}
end
end L2
namespace L2
open PySem PySem.Spec PyProof.Rows
section
variable {X : Cx}
end
end L2
namespace Att
open PySem PySem.W PySem.Calls PyProof.Rows
section
variable {prog : Program} {w : World} {A : Around} {E : Value → Shared → Prop} {s : Shared} {K : Frag}
end
end Att
namespace L2
open PySem PySem.Spec PyProof.Rows
end L2
namespace L2
open PySem PySem.Spec PyProof.Rows
end L2
namespace L2
open PySem PySem.Spec PyProof.Rows
abbrev CX0 : CXT := fun _ _ _ _ _ _ => False
abbrev E0 : XK := fun _ _ _ => False
theorem pass0 {X : Cx} : Passes CX0 X E0 := fun _ _ _ _ _ _ _ h => h.elim
structure Fun (K : PySem.W.Frag) (x qual : Str) (st : Stmt) (f : Addr) (fd : FuncData) : Prop where
 ex : ∃ (oc : Value) (od : Option Addr) (kV doc pm : Value) (an : Option Addr) (cdv ct : Value) (osl : Array (Option Value)),
  fd = PySem.W.fnOf x qual (defArgs st) (defBody st) (defScope st) .none kV doc pm an cdv ct ∧ K.lookup f = some ⟨oc, od, .func fd, osl⟩ ∧ PySem.W.codeIn K cdv qual = true
 kp : PySem.W.keepIn K (.ref f) = true
section
variable {P : Program} {w : World} {K : PySem.W.Frag} {mg : Str → Option Value} {base : Heap}
theorem Fun.ok {x qual : Str} {st : Stmt} {f : Addr} {fd : FuncData} {N ps : List Str} {k : Nat} {sp : Sp} (F : Fun K x qual st f fd) (S : FnScope N ps (defScope st)) (len : ∀ vs H Q E, sp vs H Q E → vs.length = ps.length)
  (hbody : ∀ (cdv : Value) (A : Around) (outer : List Env) (s : Shared) (H : Hp) (vs : List V) (Q : VK) (E : XK), Room k (A.deeper (envOfC qual (defScope st) s.heap.objs.size f cdv)) → sp vs H Q E →
   ∃ t, PSs (cxOf CX0 P w K mg base N qual (defScope st) f cdv A outer s H E).nox (defBody st) t ∧ t { nx := fun _ H' => Q .non H', rt := Q } (start N vs) H) : FnOk P w K mg base CX0 (k + 1) f fd ps sp := by
 obtain ⟨oc, od, kV, doc, pm, an, cdv, ct, osl, rfl, lk, hcd⟩ := F.ex
 refine fn_of lk hcd S len fun A outer s H vs Q E hr hsp => ?_
 obtain ⟨t, h, q⟩ := hbody cdv A outer s H vs Q E hr hsp
 exact ⟨t, h.nox, q⟩
theorem Fun.binds {x qual : Str} {st : Stmt} {f : Addr} {fd : FuncData} {ps : List Str} (F : Fun K x qual st f fd)
  (h : ∀ (kV doc pm : Value) (an : Option Addr) (cdv ct : Value) (us : List Value), us.length = ps.length → bindArgs (PySem.W.fnOf x qual (defArgs st) (defBody st) (defScope st) .none kV doc pm an cdv ct) ⟨us, []⟩ = pure (ps.zip us)) : Binds K fd ps [] := by
 obtain ⟨oc, od, kV, doc, pm, an, cdv, ct, osl, rfl, lk, hcd⟩ := F.ex
 exact .all (h kV doc pm an cdv ct)
theorem fun_mk {x qual : Str} {st : Stmt} {f : Addr} {oc : Value} {od an : Option Addr} {osl : Array (Option Value)} {kV doc pm cdv ct : Value} (l : K.lookup f = some ⟨oc, od, .func (PySem.W.fnOf x qual (defArgs st) (defBody st) (defScope st) .none kV doc pm an cdv ct), osl⟩)
  (c : PySem.W.codeIn K cdv qual = true) (k : PySem.W.keepIn K (.ref f) = true) : Fun K x qual st f (PySem.W.fnOf x qual (defArgs st) (defBody st) (defScope st) .none kV doc pm an cdv ct) := ⟨⟨oc, od, kV, doc, pm, an, cdv, ct, osl, rfl, l, c⟩, k⟩
end
section
variable {X : Cx}
theorem pv (i : Nat) {x : Str} {pos : Pos} (hN : X.N[i]? = some x := by rfl) (hv : Vis X.env.scope x := by first | exact Or.inl rfl | exact Or.inr (Or.inl rfl) | exact Or.inr (Or.inr rfl)) (hd : (x == ("__debug__" : Str)) = false := by decide)
  (hcd : (x == ("__classdict__" : Str)) = false := by decide) : PE X (.Name x pos) (tVar i) := pe_var hN hv hd hcd
end
theorem iteF {A B : Prop} (h : B) : if false = true then A else B := by
 rw [if_neg Bool.false_ne_true]
 exact h
theorem iteT {A B : Prop} (h : A) : if true = true then A else B := by
 rw [if_pos rfl]
 exact h
theorem iteNS {c A B : Prop} [Decidable c] (hc : c) (h : B) : if (!decide c) = true then A else B := by
 rw [decide_eq_true hc]
 exact iteF h
def Same (H H' : Hp) : Prop := ∀ b o, H b = some o → H' b = some o
theorem Same.trans {H H1 H2 : Hp} (a : Same H H1) (b : Same H1 H2) : Same H H2 := fun c o h => b c o (a c o h)
theorem Same.free {H H' : Hp} (e : Same H H') {l : Addr} (h : H' l = Option.none) : H l = Option.none := by
 cases q : H l with
 | none => rfl
 | some o =>
  rw [e l o q] at h
  cases h
theorem Same.seq {K : PySem.W.Frag} {H H' : Hp} {a : Addr} {xs : List V} (e : Same H H') (h : SqL K H a xs) : SqL K H' a xs := by
 rcases h with (h | ⟨o, h⟩) | h
 ·exact .inl (.inl (e _ _ h))
 ·exact .inl (.inr ⟨o, e _ _ h⟩)
 ·exact .inr h
section
variable {κ : Type} [DecidableEq κ]
end
theorem at_of {xs : List V} {z : Int} {j : Nat} {v : V} (e : z = (j : Int)) (h : xs[j]? = some v) : atI xs z = some v := by
 rw [e]
 exact atI_nat h
theorem Same.made {H H1 : Hp} {x dx C : Addr} (nx : H x = Option.none) (nd : H dx = Option.none) (k : ∀ b o, (upd (upd H dx (.own x)) x (.ins C dx [])) b = some o → b ≠ x → H1 b = some o) : Same H H1 := fun b o e =>
 k b o (by rw [upd_ne (ne_of_none e nx), upd_ne (ne_of_none e nd)]; exact e) (ne_of_none e nx)
end L2
section
namespace L2
open PySem PySem.Spec PyProof.Rows
open PySem.W (WData Codec OpenSpec Well WellAll ReadsW ReadsAllW)
mutual
inductive Dw (K : PySem.W.Frag) (H : Hp) : V → WData → Prop
 | non : Dw K H .non .none
 | bl (b : Bool) : Dw K H (.bl b) (.bool b)
 | int (i : Int) : Dw K H (.int i) (.int i)
 | str (x : Str) : Dw K H (.str x) (.str x)
 | byt (b : Array UInt8) : Dw K H (.byt b) (.bytes b.toList)
 | lst {a : Addr} {xs : List V} {ds : List WData} : SqL K H a xs → DwAll K H xs ds → Dw K H (.ref a) (.list ds)
 | tup {a : Addr} {xs : List V} {ds : List WData} : SqT K H a xs → DwAll K H xs ds → Dw K H (.ref a) (.tuple ds)
inductive DwAll (K : PySem.W.Frag) (H : Hp) : List V → List WData → Prop
 | nil : DwAll K H [] []
 | cons {v : V} {vs : List V} {d : WData} {ds : List WData} : Dw K H v d → DwAll K H vs ds → DwAll K H (v :: vs) (d :: ds)
end
theorem dw_ints {K : PySem.W.Frag} {H : Hp} : ∀ ns : List Int, DwAll K H (ns.map V.int) (ns.map WData.int)
 | [] => .nil
 | n :: r => .cons (.int n) (dw_ints r)
theorem ints_dw {K : PySem.W.Frag} {H : Hp} : ∀ (ns : List Int) (xs : List V), DwAll K H xs (ns.map WData.int) → xs = ns.map V.int
 | [], xs, h => by
  cases h
  rfl
 | n :: r, xs, h => by
  cases h with
  | cons h1 h2 =>
   cases h1
   rw [ints_dw r _ h2] <;> rfl
section
variable {P : Program} {w : World} {K : PySem.W.Frag} {H : Hp} {h : Heap} {R : PySem.W.WRecords} {cl : Str → Option Addr}
theorem sqL_at {a : Addr} {xs : List V} (hok : HOk P w H h) (KX : K.In h) (q : SqL K H a xs) : ∃ (its : List Value) (o : Obj) (n : Nat), Vals xs its ∧ h.get? a = some o ∧ o.cls = .type "list" ∧ o.data = .seq its.toArray n := by
 rcases q with q | ⟨o, its, n, e, hc, _, hd, _, hv⟩
 ·obtain ⟨_, its, n, hv, e⟩ := (show ObjOk P w H h a (.lst xs) from q.ok hok)
  exact ⟨its, _, n, hv, e, rfl, rfl⟩
 ·exact ⟨its.toList, o, n, hv, KX _ _ e, hc, by simp [hd]⟩
theorem sqT_at {a : Addr} {xs : List V} (hok : HOk P w H h) (KX : K.In h) (q : SqT K H a xs) : ∃ (its : List Value) (o : Obj) (n : Nat), Vals xs its ∧ h.get? a = some o ∧ o.cls = .type "tuple" ∧ o.data = .seq its.toArray n := by
 rcases q with q | ⟨o, its, n, e, hc, hd, _, hv⟩
 ·obtain ⟨_, its, hv, o, e, hc, n, hd⟩ := (show ObjOk P w H h a (.tup xs) from q.ok hok)
  exact ⟨its, o, n, hv, e, hc, hd⟩
 ·exact ⟨its.toList, o, n, hv, KX _ _ e, hc, by simp [hd]⟩
mutual
theorem Dw.reads (hok : HOk P w H h) (KX : K.In h) : ∀ (d : WData) (v : V) (u : Value), Dw K H v d → RelV v u → ∃ as, ReadsW R cl h u d as
 | .none, _, _, x, r => by
  cases x
  cases r
  exact ⟨_, ReadsW.none⟩
 | .bool b, _, _, x, r => by
  cases x
  cases r
  exact ⟨_, ReadsW.bool b⟩
 | .int i, _, _, x, r => by
  cases x
  obtain ⟨t, rfl⟩ := r
  exact ⟨_, ReadsW.int i t⟩
 | .str s, _, _, x, r => by
  cases x
  obtain ⟨t, rfl⟩ := r
  exact ⟨_, ReadsW.str s t⟩
 | .bytes b, _, _, x, r => by
  cases x
  obtain ⟨t, rfl⟩ := r
  exact ⟨_, ReadsW.bytes _ t⟩
 | .list ds, _, _, x, r => by
  cases x with
  | lst hs ha =>
   cases r
   obtain ⟨its, o, n, rv, ho, hc, hd⟩ := sqL_at hok KX hs
   obtain ⟨as, hr⟩ := Dw.readsAll hok KX ds _ its ha rv
   exact ⟨_, ReadsW.list ho hc hd hr⟩
 | .tuple ds, _, _, x, r => by
  cases x with
  | tup hs ha =>
   cases r
   obtain ⟨its, o, n, rv, ho, hc, hd⟩ := sqT_at hok KX hs
   obtain ⟨as, hr⟩ := Dw.readsAll hok KX ds _ its ha rv
   exact ⟨_, ReadsW.tuple ho hc hd hr⟩
 | .float _, _, _, x, _ => by cases x
 | .dict _, _, _, x, _ => by cases x
 | .bytearray _, _, _, x, _ => by cases x
 | .set _, _, _, x, _ => by cases x
 | .frozenset _, _, _, x, _ => by cases x
 | .obj _ _, _, _, x, _ => by cases x
theorem Dw.readsAll (hok : HOk P w H h) (KX : K.In h) : ∀ (ds : List WData) (vs : List V) (us : List Value), DwAll K H vs ds → Vals vs us → ∃ as, ReadsAllW R cl h us ds as
 | [], _, _, x, r => by
  cases x
  cases r
  exact ⟨_, ReadsAllW.nil⟩
 | d :: ds, _, _, x, r => by
  cases x with
  | cons h1 h2 =>
   cases r with
   | cons r1 r2 =>
    obtain ⟨as, q1⟩ := Dw.reads hok KX d _ _ h1 r1
    obtain ⟨bs, q2⟩ := Dw.readsAll hok KX ds _ _ h2 r2
    exact ⟨_, ReadsAllW.cons q1 q2⟩
end
end
mutual
def plW : WData → Bool
 | .none => true
 | .bool _ => true
 | .int _ => true
 | .str _ => true
 | .bytes _ => true
 | .list xs => plWs xs
 | .tuple xs => plWs xs
 | _ => false
def plWs : List WData → Bool
 | [] => true
 | x :: r => plW x && plWs r
end
theorem plWs_map {α : Type} {f : α → WData} (h : ∀ a, plW (f a) = true) : ∀ l : List α, plWs (l.map f) = true
 | [] => rfl
 | x :: r => by
  show (plW (f x) && plWs (r.map f)) = true
  rw [h x, plWs_map h r] <;> rfl
theorem pl_enc : ∀ (c : Codec) (a : c.denote), plW (c.enc a) = true
 | .unit, _ => rfl
 | .bool, _ => rfl
 | .int _ _, _ => rfl
 | .nat _ _, _ => rfl
 | .u8, _ => rfl
 | .bytes _ _, _ => rfl
 | .text _ _ _ _, _ => rfl
 | .list _ _ c, a => plWs_map (fun x => pl_enc c x) a
 | .pair c d, a => by
  show (plW (c.enc a.1) && (plW (d.enc a.2) && true)) = true
  rw [pl_enc c a.1, pl_enc d a.2] <;> rfl
 | .triple c d e, a => by
  show (plW (c.enc a.1) && (plW (d.enc a.2.1) && (plW (e.enc a.2.2) && true))) = true
  rw [pl_enc c a.1, pl_enc d a.2.1, pl_enc e a.2.2] <;> rfl
 | .option c, none => rfl
 | .option c, some x => pl_enc c x
theorem pl_encAll : ∀ (cs : List Codec) (a : Codec.denoteAll cs), plWs (Codec.encAll cs a) = true
 | [], _ => rfl
 | c :: cs, a => by
  show (plW (c.enc a.1) && plWs (Codec.encAll cs a.2)) = true
  rw [pl_enc c a.1, pl_encAll cs a.2] <;> rfl
theorem weight_mem : ∀ {xs : List WData} {d : WData}, d ∈ xs → d.weight ≤ WData.weightAll xs
 | [], d, h => absurd h (by simp)
 | x :: r, d, h => by
  show d.weight ≤ x.weight + 1 + WData.weightAll r
  rcases List.mem_cons.mp h with e | m
  ·rw [e]
   omega
  ·have z := weight_mem m
   omega
def toV : Value → V
 | .none => .non
 | .bool b => .bl b
 | .int i _ => .int i
 | .str x _ => .str x
 | .bytes b _ => .byt b
 | .ref a => .ref a
 | _ => .non
def OkU (A : List Addr) : Value → Prop
 | .none => True
 | .bool _ => True
 | .int _ _ => True
 | .str _ _ => True
 | .bytes _ _ => True
 | .ref a => a ∈ A
 | _ => False
theorem OkU.mono {A B : List Addr} (h : ∀ a ∈ A, a ∈ B) : ∀ {u : Value}, OkU A u → OkU B u := fun {u} x => by
 cases u with
 | ref a => exact h a x
 | none => trivial
 | bool b => trivial
 | int i t => trivial
 | str s t => trivial
 | bytes b t => trivial
 | _ => exact False.elim x
theorem relV_toV {A : List Addr} {u : Value} (x : OkU A u) : RelV (toV u) u := by
 cases u with
 | ref a => rfl
 | none => rfl
 | bool b => rfl
 | int i t => exact ⟨t, rfl⟩
 | str s t => exact ⟨t, rfl⟩
 | bytes b t => exact ⟨t, rfl⟩
 | _ => exact False.elim x
theorem vals_toV {A : List Addr} : ∀ {vs : List Value}, (∀ u ∈ vs, OkU A u) → Vals (vs.map toV) vs
 | [], _ => .nil
 | u :: r, h => .cons (relV_toV (h u (List.mem_cons_self ..))) (vals_toV fun x hx => h x (List.mem_cons_of_mem _ hx))
def ArgOb (h : Heap) (A : List Addr) (a : Addr) : Prop := ∃ vs : List Value, vs.length ≤ sizeLine ∧ (∀ u ∈ vs, OkU A u) ∧
 (h.get? a = some { cls := .type "list", data := .seq vs.toArray } ∨ h.get? a = some { cls := .type "tuple", data := .seq vs.toArray })
theorem ArgOb.mono {h : Heap} {A B : List Addr} {a : Addr} (k : ∀ a ∈ A, a ∈ B) (x : ArgOb h A a) : ArgOb h B a := by
 obtain ⟨vs, h1, h2, h3⟩ := x
 exact ⟨vs, h1, fun u hu => (h2 u hu).mono k, h3⟩
theorem wellAll_len {P : Params} {h : Heap} : ∀ {vs : List Value} {ds : List WData}, WellAll P h vs ds → vs.length = ds.length
 | _, _, .nil => rfl
 | _, _, .cons _ b => by
  show _ + 1 = _ + 1
  rw [wellAll_len b]
theorem well_list {P : Params} {h : Heap} {v : Value} {ds : List WData} (x : Well P h v (.list ds)) : ∃ (a : Addr) (vs : List Value), v = .ref a ∧ h.get? a = some { cls := .type "list", data := .seq vs.toArray } ∧ WellAll P h vs ds := by
 cases x with
 | list ho hall => exact ⟨_, _, rfl, ho, hall⟩
theorem well_tuple {P : Params} {h : Heap} {v : Value} {ds : List WData} (x : Well P h v (.tuple ds)) : ∃ (a : Addr) (vs : List Value), v = .ref a ∧ h.get? a = some { cls := .type "tuple", data := .seq vs.toArray } ∧ WellAll P h vs ds := by
 cases x with
 | tuple ho hall => exact ⟨_, _, rfl, ho, hall⟩
theorem well_cons {P : Params} {h : Heap} {us : List Value} {d : WData} {ds : List WData} (x : WellAll P h us (d :: ds)) : ∃ (v : Value) (vs : List Value), us = v :: vs ∧ Well P h v d ∧ WellAll P h vs ds := by
 cases x with
 | cons a b => exact ⟨_, _, rfl, a, b⟩
theorem line_of {n : Nat} (h : n ≤ 1048576) : n ≤ sizeLine := Nat.le_trans h (by decide)
section
variable {P : Params} {h : Heap}
mutual
theorem area_one : ∀ (d : WData) (v : Value), Well P h v d → plW d = true → d.weight ≤ 1048576 → ∃ A : List Addr, OkU A v ∧ ∀ a ∈ A, ArgOb h A a
 | .none, _, x, _, _ => by
  cases x
  exact ⟨[], trivial, fun a m => absurd m (by simp)⟩
 | .bool b, _, x, _, _ => by
  cases x
  exact ⟨[], trivial, fun a m => absurd m (by simp)⟩
 | .int i, _, x, _, _ => by
  cases x
  exact ⟨[], trivial, fun a m => absurd m (by simp)⟩
 | .str s, _, x, _, _ => by
  cases x
  exact ⟨[], trivial, fun a m => absurd m (by simp)⟩
 | .bytes b, _, x, _, _ => by
  cases x
  exact ⟨[], trivial, fun a m => absurd m (by simp)⟩
 | .list ds, _, x, p, z => by
  obtain ⟨a, vs, rfl, ho, hall⟩ := well_list x
  have z2 : WData.weightAll ds ≤ 1048576 := z
  obtain ⟨A, h1, h2⟩ := area_all ds _ hall p fun d hd => Nat.le_trans (weight_mem hd) z2
  have k : ∀ b ∈ A, b ∈ a :: A := fun b hb => List.mem_cons_of_mem _ hb
  refine ⟨a :: A, List.mem_cons_self .., fun b hb => ?_⟩
  rcases List.mem_cons.mp hb with e | m
  ·rw [e]
   exact ⟨vs, line_of (by rw [wellAll_len hall]; exact Nat.le_trans (PySem.W.length_le_weightAllW ds) z2), fun u hu => (h1 u hu).mono k, .inl ho⟩
  ·exact (h2 b m).mono k
 | .tuple ds, _, x, p, z => by
  obtain ⟨a, vs, rfl, ho, hall⟩ := well_tuple x
  have z2 : WData.weightAll ds ≤ 1048576 := z
  obtain ⟨A, h1, h2⟩ := area_all ds _ hall p fun d hd => Nat.le_trans (weight_mem hd) z2
  have k : ∀ b ∈ A, b ∈ a :: A := fun b hb => List.mem_cons_of_mem _ hb
  refine ⟨a :: A, List.mem_cons_self .., fun b hb => ?_⟩
  rcases List.mem_cons.mp hb with e | m
  ·rw [e]
   exact ⟨vs, line_of (by rw [wellAll_len hall]; exact Nat.le_trans (PySem.W.length_le_weightAllW ds) z2), fun u hu => (h1 u hu).mono k, .inr ho⟩
  ·exact (h2 b m).mono k
 | .float _, _, _, p, _ => Bool.noConfusion (show false = true from p)
 | .dict _, _, _, p, _ => Bool.noConfusion (show false = true from p)
 | .bytearray _, _, _, p, _ => Bool.noConfusion (show false = true from p)
 | .set _, _, _, p, _ => Bool.noConfusion (show false = true from p)
 | .frozenset _, _, _, p, _ => Bool.noConfusion (show false = true from p)
 | .obj _ _, _, _, p, _ => Bool.noConfusion (show false = true from p)
theorem area_all : ∀ (ds : List WData) (vs : List Value), WellAll P h vs ds → plWs ds = true → (∀ d ∈ ds, d.weight ≤ 1048576) → ∃ A : List Addr, (∀ u ∈ vs, OkU A u) ∧ ∀ a ∈ A, ArgOb h A a
 | [], _, x, _, _ => by
  cases x
  exact ⟨[], fun u m => absurd m (by simp), fun a m => absurd m (by simp)⟩
 | d :: ds, _, x, p, z => by
  obtain ⟨v, vs, rfl, x1, x2⟩ := well_cons x
  have q : plW d = true ∧ plWs ds = true := Bool.and_eq_true_iff.mp p
  obtain ⟨A, a1, a2⟩ := area_one d v x1 q.1 (z d (List.mem_cons_self ..))
  obtain ⟨B, b1, b2⟩ := area_all ds vs x2 q.2 fun e he => z e (List.mem_cons_of_mem _ he)
  have kA : ∀ b ∈ A, b ∈ A ++ B := fun b hb => List.mem_append.mpr (.inl hb)
  have kB : ∀ b ∈ B, b ∈ A ++ B := fun b hb => List.mem_append.mpr (.inr hb)
  refine ⟨A ++ B, fun u hu => ?_, fun b hb => ?_⟩
  ·rcases List.mem_cons.mp hu with e | m
   ·rw [e]
    exact a1.mono kA
   ·exact (b1 u m).mono kB
  ·rcases List.mem_append.mp hb with m | m
   ·exact (a2 b m).mono kA
   ·exact (b2 b m).mono kB
end
end
def hoOf (o : Obj) : Option HO := match o.data with
 | .seq vs _ => if (o.cls == Value.type "list") = true then some (.frz o (.lst (vs.toList.map toV))) else some (.frz o (.tup (vs.toList.map toV)))
 | _ => none
def argH (K : PySem.W.Frag) (h : Heap) (A : List Addr) : Hp := fun b => if b ∈ A then (if (K.lookup b).isNone = true then (h.get? b).bind hoOf else none) else none
def OnlyF (H : Hp) : Prop := ∀ b, H b = none ∨ ∃ o u, H b = some (.frz o u)
theorem hoOf_lst (vs : List Value) : hoOf { cls := .type "list", data := .seq vs.toArray } = some (.frz { cls := .type "list", data := .seq vs.toArray } (.lst (vs.map toV))) := by
 show (if (Value.type "list" == Value.type "list") = true then some (HO.frz { cls := .type "list", data := .seq vs.toArray } (.lst (vs.toArray.toList.map toV))) else some (HO.frz { cls := .type "list", data := .seq vs.toArray } (.tup (vs.toArray.toList.map toV)))) = _
 rw [if_pos (beq_self_eq_true _)]
theorem hoOf_tup (vs : List Value) : hoOf { cls := .type "tuple", data := .seq vs.toArray } = some (.frz { cls := .type "tuple", data := .seq vs.toArray } (.tup (vs.map toV))) := by
 show (if (Value.type "tuple" == Value.type "list") = true then some (HO.frz { cls := .type "tuple", data := .seq vs.toArray } (.lst (vs.toArray.toList.map toV))) else some (HO.frz { cls := .type "tuple", data := .seq vs.toArray } (.tup (vs.toArray.toList.map toV)))) = _
 rw [if_neg (by decide)]
section
variable {P : Program} {w : World} {K : PySem.W.Frag} {h : Heap} {A : List Addr}
theorem argH_at {b : Addr} {o : Obj} (hb : b ∈ A) (hk : K.lookup b = none) (e : h.get? b = some o) : argH K h A b = hoOf o := by
 unfold argH
 rw [if_pos hb, hk, if_pos (show (none : Option Obj).isNone = true from rfl), e] <;> rfl
theorem of_argH {b : Addr} {u : HO} (q : argH K h A b = some u) : b ∈ A ∧ K.lookup b = none := by
 unfold argH at q
 by_cases hb : b ∈ A
 ·rw [if_pos hb] at q
  cases hk : K.lookup b with
  | none => exact ⟨hb, rfl⟩
  | some o =>
   rw [hk, if_neg (by simp)] at q
   cases q
 ·rw [if_neg hb] at q
  cases q
theorem argH_is (ar : ∀ a ∈ A, ArgOb h A a) {b : Addr} {u : HO} (q : argH K h A b = some u) : K.lookup b = none ∧ ∃ vs : List Value, vs.length ≤ sizeLine ∧ (∀ u ∈ vs, OkU A u) ∧
  ((h.get? b = some { cls := .type "list", data := .seq vs.toArray } ∧ u = .frz { cls := .type "list", data := .seq vs.toArray } (.lst (vs.map toV))) ∨
    (h.get? b = some { cls := .type "tuple", data := .seq vs.toArray } ∧ u = .frz { cls := .type "tuple", data := .seq vs.toArray } (.tup (vs.map toV)))) := by
 obtain ⟨hb, hk⟩ := of_argH q
 obtain ⟨vs, h1, h2, h3⟩ := ar b hb
 refine ⟨hk, vs, h1, h2, ?_⟩
 rcases h3 with e | e
 ·rw [argH_at hb hk e, hoOf_lst] at q
  exact .inl ⟨e, (Option.some.inj q).symm⟩
 ·rw [argH_at hb hk e, hoOf_tup] at q
  exact .inr ⟨e, (Option.some.inj q).symm⟩
theorem argH_only (ar : ∀ a ∈ A, ArgOb h A a) : OnlyF (argH K h A) := fun b => by
 cases q : argH K h A b with
 | none => exact .inl rfl
 | some u =>
  obtain ⟨_, vs, _, _, ⟨_, e⟩ | ⟨_, e⟩⟩ := argH_is ar q
  ·exact .inr ⟨_, _, by rw [e]⟩
  ·exact .inr ⟨_, _, by rw [e]⟩
theorem argH_ok (ar : ∀ a ∈ A, ArgOb h A a) : HOk P w (argH K h A) h := fun b u q => by
 obtain ⟨_, vs, h1, h2, ⟨e, rfl⟩ | ⟨e, rfl⟩⟩ := argH_is ar q
 ·exact ⟨e, by rw [List.length_map]; exact h1, vs, _, vals_toV h2, e⟩
 ·exact ⟨e, by rw [List.length_map]; exact h1, vs, vals_toV h2, _, e, rfl, _, rfl⟩
theorem seq_inj {c c' : Value} {vs us : List Value} (e : (some { cls := c, data := .seq vs.toArray } : Option Obj) = some { cls := c', data := .seq us.toArray }) : c = c' ∧ vs = us := by
 have e1 := Option.some.inj e
 have e2 : c = c' := congrArg Obj.cls e1
 have e3 : Data.seq vs.toArray = Data.seq us.toArray := congrArg Obj.data e1
 injection e3 with e4
 refine ⟨e2, ?_⟩
 have e5 := congrArg Array.toList e4
 simpa using e5
theorem argL (KX : K.In h) (ar : ∀ a ∈ A, ArgOb h A a) {a : Addr} {vs : List Value} (ha : a ∈ A) (e : h.get? a = some { cls := .type "list", data := .seq vs.toArray }) : (∀ u ∈ vs, OkU A u) ∧ SqL K (argH K h A) a (vs.map toV) := by
 obtain ⟨us, h1, h2, h3⟩ := ar a ha
 have hu : us = vs := by
  rcases h3 with q | q
  ·rw [e] at q
   exact (seq_inj q).2.symm
  ·rw [e] at q
   exact absurd (Value.type.inj (seq_inj q).1) (by decide)
 subst hu
 refine ⟨h2, ?_⟩
 cases hk : K.lookup a with
 | none => exact .inl (.inr ⟨_, by rw [argH_at ha hk e, hoOf_lst]⟩)
 | some o =>
  have e2 := KX a o hk
  rw [e] at e2
  obtain rfl := Option.some.inj e2
  exact .inr ⟨_, us.toArray, _, hk, rfl, rfl, rfl, by rw [List.size_toArray]; exact h1, by simpa using vals_toV h2⟩
theorem argT (KX : K.In h) (ar : ∀ a ∈ A, ArgOb h A a) {a : Addr} {vs : List Value} (ha : a ∈ A) (e : h.get? a = some { cls := .type "tuple", data := .seq vs.toArray }) : (∀ u ∈ vs, OkU A u) ∧ SqT K (argH K h A) a (vs.map toV) := by
 obtain ⟨us, h1, h2, h3⟩ := ar a ha
 have hu : us = vs := by
  rcases h3 with q | q
  ·rw [e] at q
   exact absurd (Value.type.inj (seq_inj q).1) (by decide)
  ·rw [e] at q
   exact (seq_inj q).2.symm
 subst hu
 refine ⟨h2, ?_⟩
 cases hk : K.lookup a with
 | none => exact .inl (.inr ⟨_, by rw [argH_at ha hk e, hoOf_tup]⟩)
 | some o =>
  have e2 := KX a o hk
  rw [e] at e2
  obtain rfl := Option.some.inj e2
  exact .inr ⟨_, us.toArray, _, hk, rfl, rfl, by rw [List.size_toArray]; exact h1, by simpa using vals_toV h2⟩
mutual
theorem dw_one {Pm : Params} (KX : K.In h) (ar : ∀ a ∈ A, ArgOb h A a) : ∀ (d : WData) (v : Value), Well Pm h v d → plW d = true → OkU A v → Dw K (argH K h A) (toV v) d
 | .none, _, x, _, _ => by
  cases x
  exact .non
 | .bool b, _, x, _, _ => by
  cases x
  exact .bl b
 | .int i, _, x, _, _ => by
  cases x
  exact .int i
 | .str s, _, x, _, _ => by
  cases x
  exact .str s
 | .bytes b, _, x, _, _ => by
  cases x
  have z := Dw.byt (K := K) (H := argH K h A) b.toArray
  exact z
 | .list ds, _, x, p, hu => by
  obtain ⟨a, vs, rfl, ho, hall⟩ := well_list x
  obtain ⟨h2, hs⟩ := argL KX ar hu ho
  exact .lst hs (dw_all KX ar ds _ hall p h2)
 | .tuple ds, _, x, p, hu => by
  obtain ⟨a, vs, rfl, ho, hall⟩ := well_tuple x
  obtain ⟨h2, hs⟩ := argT KX ar hu ho
  exact .tup hs (dw_all KX ar ds _ hall p h2)
 | .float _, _, _, p, _ => Bool.noConfusion (show false = true from p)
 | .dict _, _, _, p, _ => Bool.noConfusion (show false = true from p)
 | .bytearray _, _, _, p, _ => Bool.noConfusion (show false = true from p)
 | .set _, _, _, p, _ => Bool.noConfusion (show false = true from p)
 | .frozenset _, _, _, p, _ => Bool.noConfusion (show false = true from p)
 | .obj _ _, _, _, p, _ => Bool.noConfusion (show false = true from p)
theorem dw_all {Pm : Params} (KX : K.In h) (ar : ∀ a ∈ A, ArgOb h A a) : ∀ (ds : List WData) (vs : List Value), WellAll Pm h vs ds → plWs ds = true → (∀ u ∈ vs, OkU A u) → DwAll K (argH K h A) (vs.map toV) ds
 | [], _, x, _, _ => by
  cases x
  exact .nil
 | d :: ds, _, x, p, hu => by
  obtain ⟨v, vs, rfl, x1, x2⟩ := well_cons x
  have q : plW d = true ∧ plWs ds = true := Bool.and_eq_true_iff.mp p
  exact .cons (dw_one KX ar d v x1 q.1 (hu _ (List.mem_cons_self ..))) (dw_all KX ar ds vs x2 q.2 fun u m => hu u (List.mem_cons_of_mem _ m))
end
end
theorem spec_call {P : Program} {w : World} {K : PySem.W.Frag} {mg mb : Str → Option Value} {CX : CXT} {k : Nat} {fa : Addr} {fd : FuncData} {ps : List Str} {sp : Sp} {s₁ : Shared} {vals : List Value} {ds : List WData} {R : PySem.W.WRecords} {cl : Str → Option Addr} {d0 : WData}
  (KX : K.In s₁.heap) (hns : s₁.heap.Ns mainGlobals mg) (hb : s₁.heap.Ns builtinsNs mb) (hbb : ∀ x : Str, x ≠ "__name__" → mb x = bootBuiltins x) (hlim : s₁.heap.NoLimit) (hg : s₁.gens = #[])
  (hwl : WellAll w.params s₁.heap vals ds) (hpl : plWs ds = true) (hwt : ∀ d ∈ ds, d.weight ≤ 1048576) (hr : Room k callerA)
  (F : ∀ base : Heap, K.In base → base.Ns mainGlobals mg → FnOk P w K mg base CX k fa fd ps sp) (hbind : ∀ (s : Shared) (us : List Value), us.length = ps.length → BindsTo s fd ⟨us, []⟩ (ps.zip us)) (hlen : ds.length = ps.length)
  (hsp : ∀ (H : Hp) (xs : List V), OnlyF H → DwAll K H xs ds → sp xs H (fun v H' => Dw K H' v d0) fun _ _ _ => False)
  (hCX : ∀ H e s', CX [] H s₁ (fun _ _ _ => False) e s' → False) :
  codeAny (model P w) callerA (.call (.ref fa) ⟨vals, []⟩) (fun r s' => ∃ u as, r = .ok (.ret u) ∧ ReadsW R cl s'.heap u d0 as ∧ OldK s₁.heap s'.heap ∧ s'.os = s₁.os ∧ AllBare s'.gens) s₁ := by
 obtain ⟨A, ho, ar⟩ := area_all ds vals hwl hpl hwt
 have hO : OnlyF (argH K s₁.heap A) := argH_only ar
 have hok : HOk P w (argH K s₁.heap A) s₁.heap := argH_ok ar
 have hS := dw_all KX ar ds vals hwl hpl ho
 have hV := vals_toV ho
 have hK : ∀ b u, argH K s₁.heap A b = some u → K.lookup b = none := fun b u q => (argH_is ar q).1
 have noA : ∀ {b : Addr} {o : Obj} {es : Array DictEntry} {ep : Nat}, s₁.heap.get? b = some o → o.data = .dict es ep → argH K s₁.heap A b = none := fun {b o es ep} e d => by
  cases q : argH K s₁.heap A b with
  | none => rfl
  | some u =>
   obtain ⟨_, vs, _, _, ⟨e2, _⟩ | ⟨e2, _⟩⟩ := argH_is ar q
   ·rw [e2] at e
    cases e
    have d' : Data.seq vs.toArray _ = Data.dict es ep := d
    cases d'
   ·rw [e2] at e
    cases e
    have d' : Data.seq vs.toArray _ = Data.dict es ep := d
    cases d'
 generalize argH K s₁.heap A = H at hO hok hS hK noA
 have base_of : ∀ {b : Addr} {o : Obj}, s₁.heap.get? b = some o → H b = none → (hidT s₁.heap H).get? b = some o := fun e n => hidT_get e n
 have nsK : ∀ {b : Addr} {m : Str → Option Value}, s₁.heap.Ns b m → (hidT s₁.heap H).Ns b m := fun {b m} ⟨o, es, ep, e, d, r⟩ => ⟨o, es, ep, base_of e (noA e d), d, r⟩
 have nK : ∀ b o, K.lookup b = some o → H b = none := fun b o e => by
  cases q : H b with
  | none => rfl
  | some u =>
   rw [hK b u q] at e
   cases e
 have hKb : K.In (hidT s₁.heap H) := fun b o e => base_of (KX b o e) (nK b o e)
 have hM : Mod K mg (hidT s₁.heap H) := ⟨hKb, nsK hns, ⟨mb, nsK hb, hbb⟩, let ⟨mc, h1, h2⟩ := hlim; ⟨mc, nsK h1, h2⟩⟩
 have e0 : Env0 P w K mg (hidT s₁.heap H) callerA [] s₁ H := ⟨rfl, hM, fun b o e => of_hidT e, Nat.le_of_eq (hidT_size _ _), trivial, fun b hb => absurd (show b ∈ ([] : List Addr) from hb) (by simp), hok, .of_eq hg⟩
 have hl : vals.length = ps.length := by rw [wellAll_len hwl]; exact hlen
 refine codeAny_mono ((F _ hKb (nsK hns)).run callerA [] s₁ H ⟨vals, []⟩ vals (vals.map toV) _ _ hr e0 (hbind s₁ vals hl) hV (hsp H _ hO hS)) fun r s' x => ?_
 cases r with
 | error e => exact (hCX H e s' x).elim
 | ok fl =>
  cases fl with
  | next => exact False.elim x
  | brk => exact False.elim x
  | cont => exact False.elim x
  | ret u =>
   obtain ⟨v, H', os, bare, un, hok', r', q⟩ := x
   have kept : ∀ b o, s₁.heap.get? b = some o → s'.heap.get? b = some o := fun b o e => by
    cases q2 : H b with
    | none => exact un.keep b o e q2 (by intro z; exact absurd (show b ∈ ([] : List Addr) from z) (by simp)) (by simp)
    | some u2 =>
     rcases hO b with z | ⟨ob, u3, z⟩
     ·rw [q2] at z
      cases z
     ·have z2 := un.frzs b ob _ z
      obtain ⟨e1, _⟩ := hok b _ z
      obtain ⟨e2, _⟩ := hok' b _ z2
      rw [e] at e1
      cases e1
      exact e2
   have KX' : K.In s'.heap := fun b o e => kept b o (KX b o e)
   obtain ⟨as, hrd⟩ := Dw.reads (R := R) (cl := cl) hok' KX' d0 v u q r'
   exact ⟨u, as, rfl, hrd, OldK.of_keep kept, os, bare⟩
theorem layable_weight {ds : List WData} (h : WData.layableAll ds = true) : ∀ d ∈ ds, d.weight ≤ 1048576 := fun d hd =>
 (PySem.W.layableW_iff.mp (List.all_eq_true.mp h d hd)).2.2
theorem encAll_len : ∀ (cs : List Codec) (a : Codec.denoteAll cs), (Codec.encAll cs a).length = cs.length
 | [], _ => rfl
 | c :: cs, a => by
  show (Codec.encAll cs a.2).length + 1 = cs.length + 1
  rw [encAll_len cs a.2]
theorem walk_spec {r : OpenSpec} {k : Nat} {q : Program} {loose : List Str} {XP : (Str → Option Value) → Heap → Prop} {YP : World → Heap → Prop} {d : DefRec} {K : Params → PySem.W.Frag} {CX : World → CXT} {ps : List Str} {sp : World → Sp}
  (hwell : r.wellSaid = true) (hdf : d.params.defaults = []) (hlen : r.args.length = ps.length) (hr : Room k callerA)
  (hY : ∀ (w : World) (h : Heap), YP w h → (K w.params).In h)
  (F : ∀ (w : World) (mg : Str → Option Value) (fa : Addr) (h : Heap), YP w h → (K w.params).In h → h.Ns mainGlobals mg → mg d.name = some (.ref fa) →
   ∃ fd : FuncData, (∀ (s : Shared) (us : List Value), us.length = ps.length → BindsTo s fd ⟨us, []⟩ (ps.zip us)) ∧
    ∀ base : Heap, (K w.params).In base → base.Ns mainGlobals mg → FnOk r.prog w (K w.params) mg base (CX w) k fa fd ps (sp w))
  (hsp : ∀ (w : World) (H : Hp) (xs : List V) (a : Codec.denoteAll r.args), OnlyF H → Codec.withinAll r.args a = true → Codec.app r.args r.asked a = true → DwAll (K w.params) H xs (Codec.encAll r.args a) →
   sp w xs H (fun v H' => Dw (K w.params) H' v (r.ret.enc (Codec.app r.args r.f a))) fun _ _ _ => False)
  (hCX : ∀ (w : World) (H : Hp) (s : Shared) (e : Value) (s' : Shared), CX w [] H s (fun _ _ _ => False) e s' → False) :
  PySem.W.WalkOS q loose XP YP r d [] (fun f vs => PySem.call f vs) := by
 intro w s_0 s₁ mg mb G Y fa o pm cd doc dV kV ho hd hcd hD hmg hg args vals as hpre hlay hrd hwl hlo
 obtain ⟨a, e1, e2⟩ := PySem.W.os_pre_some hpre
 obtain ⟨e3, hwi⟩ := Codec.encAll_of_decAll r.args args a e1
 subst e3
 have KX := hY w _ Y
 obtain ⟨fd, hb, hF⟩ := F w mg fa _ Y KX G.T.g hmg
 refine PySem.W.enter_call (codeAny_mono (spec_call (R := []) (cl := classAt s_0.heap) (d0 := r.ret.enc (Codec.app r.args r.f a)) KX G.T.g G.T.b G.T.builtins G.T.nolimit hg hwl (pl_encAll _ _) (layable_weight hlay) hr hF hb (by rw [encAll_len]; exact hlen)
  (fun H xs hO hS => hsp w H xs a hO hwi e2 hS) fun H e s' => hCX w H s₁ e s') fun r' s' hq => ?_)
 obtain ⟨u, as', rfl, h1, h2, h3, h4⟩ := hq
 exact ⟨.inl ⟨u, _, as', rfl, fun _ => rfl, h1, (OpenSpec.post_iff hwell hwi _ _).mpr rfl, fun z => Bool.noConfusion (show false = true from z)⟩, h2, h3, h4⟩
theorem walk_specK {r : OpenSpec} {k : Nat} {q : Program} {loose : List Str} {XP : (Str → Option Value) → Heap → Prop} {YP : World → Heap → Prop} {d : DefRec} {K : Params → PySem.W.Frag} {CX : CXT} {ps : List Str} {sp : PySem.W.Frag → Sp}
  (hwell : r.wellSaid = true) (hdf : d.params.defaults = []) (hlen : r.args.length = ps.length) (hr : Room k callerA)
  (hY : ∀ (w : World) (h : Heap), YP w h → (K w.params).In h)
  (F : ∀ (w : World) (mg : Str → Option Value) (fa : Addr) (h : Heap), YP w h → (K w.params).In h → h.Ns mainGlobals mg → mg d.name = some (.ref fa) →
   ∃ fd : FuncData, (∀ (s : Shared) (us : List Value), us.length = ps.length → BindsTo s fd ⟨us, []⟩ (ps.zip us)) ∧
    ∀ base : Heap, (K w.params).In base → base.Ns mainGlobals mg → FnOk r.prog w (K w.params) mg base CX k fa fd ps (sp (K w.params)))
  (hsp : ∀ (K : PySem.W.Frag) (H : Hp) (xs : List V) (a : Codec.denoteAll r.args), OnlyF H → Codec.withinAll r.args a = true → Codec.app r.args r.asked a = true → DwAll K H xs (Codec.encAll r.args a) →
   sp K xs H (fun v H' => Dw K H' v (r.ret.enc (Codec.app r.args r.f a))) fun _ _ _ => False)
  (hCX : ∀ (H : Hp) (s : Shared) (e : Value) (s' : Shared), CX [] H s (fun _ _ _ => False) e s' → False) :
  PySem.W.WalkOS q loose XP YP r d [] (fun f vs => PySem.call f vs) :=
 walk_spec (K := K) (CX := fun _ => CX) (sp := fun w => sp (K w.params)) hwell hdf hlen hr hY F (fun w H xs a h1 h2 h3 h4 => hsp (K w.params) H xs a h1 h2 h3 h4) fun _ H s e s' => hCX H s e s'
end L2
end
namespace SG
open PySem
def Rise (xs : Array Nat) : Prop := xs.toList.Pairwise (· < ·)
theorem Rise.lt {xs : Array Nat} (h : Rise xs) {i j x y : Nat} (hij : i < j) (hx : xs[i]? = some x) (hy : xs[j]? = some y) : x < y := by
 obtain ⟨h1, e1⟩ := Array.getElem?_eq_some_iff.mp hx
 obtain ⟨h2, e2⟩ := Array.getElem?_eq_some_iff.mp hy
 have := List.pairwise_iff_getElem.mp h i j (by simpa using h1) (by simpa using h2) hij
 rw [Array.getElem_toList, Array.getElem_toList, e1, e2] at this
 exact this
theorem Rise.le {xs : Array Nat} (h : Rise xs) {i j x y : Nat} (hij : i ≤ j) (hx : xs[i]? = some x) (hy : xs[j]? = some y) : x ≤ y := by
 rcases Nat.lt_or_eq_of_le hij with k | k
 ·exact Nat.le_of_lt (h.lt k hx hy)
 ·subst k
  rw [hx] at hy
  exact Nat.le_of_eq (Option.some.inj hy)
structure Cut (xs : Array Nat) (j p : Nat) : Prop where
 le : p ≤ xs.size
 lo : ∀ i x, i < p → xs[i]? = some x → x < j
 hi : ∀ i x, p ≤ i → xs[i]? = some x → j ≤ x
theorem cut_go {xs : Array Nat} (h : Rise xs) (j : Nat) : ∀ (fuel lo hi : Nat), hi ≤ xs.size → lo ≤ hi → hi - lo ≤ fuel → (∀ i x, i < lo → xs[i]? = some x → x < j) → (∀ i x, hi ≤ i → xs[i]? = some x → j ≤ x) →
  Cut xs j (SetTable.below.go xs j fuel lo hi)
 | 0, lo, hi, h1, h2, h3, h4, h5 => by
  unfold SetTable.below.go
  have e : lo = hi := by omega
  subst e
  exact ⟨h1, h4, h5⟩
 | fuel + 1, lo, hi, h1, h2, h3, h4, h5 => by
  unfold SetTable.below.go
  by_cases hlt : lo < hi
  ·rw [if_pos hlt]
   have hm : (lo + hi) / 2 < hi := by omega
   have hm2 : lo ≤ (lo + hi) / 2 := by omega
   have hms : (lo + hi) / 2 < xs.size := by omega
   have em : xs[(lo + hi) / 2]? = some (xs[(lo + hi) / 2]) := Array.getElem?_eq_getElem hms
   have eg : xs.getD ((lo + hi) / 2) j = xs[(lo + hi) / 2] := by rw [Array.getD_eq_getD_getElem?, em]; rfl
   dsimp only
   rw [eg]
   by_cases hc : xs[(lo + hi) / 2] < j
   ·rw [if_pos hc]
    refine cut_go h j fuel _ hi h1 (by omega) (by omega) (fun i x hi' hx => ?_) h5
    exact Nat.lt_of_le_of_lt (h.le (Nat.le_of_lt_succ hi') hx em) hc
   ·rw [if_neg hc]
    refine cut_go h j fuel lo _ (by omega) hm2 (by omega) h4 (fun i x hi' hx => ?_)
    exact Nat.le_trans (Nat.le_of_not_lt hc) (h.le hi' em hx)
  ·rw [if_neg hlt]
   have e : lo = hi := by omega
   subst e
   exact ⟨h1, h4, h5⟩
theorem cut {xs : Array Nat} (h : Rise xs) (j : Nat) : Cut xs j (SetTable.below xs j) :=
 cut_go h j _ _ _ (Nat.le_refl _) (Nat.zero_le _) (by omega) (fun i x hi _ => by omega) (fun i x hi hx => by
  have := (Array.getElem?_eq_some_iff.mp hx).1
  omega)
theorem rise_insert {xs : Array Nat} (h : Rise xs) {j : Nat} (hn : xs[SetTable.below xs j]? ≠ some j) : Rise (SetTable.insertAt xs (SetTable.below xs j) j) := by
 have c := cut h j
 unfold Rise
 rw [SetTable.toList_insertAt]
 have hall : (xs.toList.take (SetTable.below xs j) ++ xs.toList.drop (SetTable.below xs j)).Pairwise (· < ·) := by rw [List.take_append_drop]; exact h
 rw [List.pairwise_append] at hall
 obtain ⟨a1, a2, a3⟩ := hall
 have lo : ∀ x ∈ xs.toList.take (SetTable.below xs j), x < j := fun x hx => by
  obtain ⟨i, hi⟩ := List.getElem?_of_mem hx
  rw [List.getElem?_take] at hi
  split at hi
  ·rename_i hlt
   exact c.lo i x hlt (by rw [← hi, Array.getElem?_toList])
  ·cases hi
 have hi : ∀ x ∈ xs.toList.drop (SetTable.below xs j), j < x := fun x hx => by
  obtain ⟨i, hi⟩ := List.getElem?_of_mem hx
  rw [List.getElem?_drop, Array.getElem?_toList] at hi
  rcases Nat.lt_or_eq_of_le (c.hi _ x (Nat.le_add_right _ _) hi) with k | k
  ·exact k
  ·subst k
   cases i with
   | zero => exact absurd hi hn
   | succ i =>
    have hs := (Array.getElem?_eq_some_iff.mp hi).1
    have e0 : xs[SetTable.below xs j]? = some (xs[SetTable.below xs j]'(by omega)) := Array.getElem?_eq_getElem (by omega)
    have l1 := h.lt (i := SetTable.below xs j) (by omega) e0 hi
    have l2 := c.hi _ _ (Nat.le_refl _) e0
    omega
 rw [List.pairwise_append, List.pairwise_cons]
 refine ⟨a1, ⟨hi, a2⟩, fun x hx y hy => ?_⟩
 rcases List.mem_cons.mp hy with e | m
 ·rw [e]; exact lo x hx
 ·exact a3 x hx y m
def GoodT (bt : Bool) (t : SetTable) : Prop := bt = false → t.led = true ∧ (t.plain = true → Rise t.place)
theorem GoodT.fresh (bt : Bool) (f m : Nat) : GoodT bt (SetTable.fresh f m (!bt)) := fun e => by
 subst e
 exact ⟨rfl, fun _ => List.Pairwise.nil⟩
theorem GoodT.standIn {bt : Bool} {t : SetTable} (g : GoodT bt t) (n : Nat) : GoodT bt (t.standIn n) := fun e => ⟨(g e).1, fun z => by cases z⟩
theorem GoodT.off {bt : Bool} {t : SetTable} (g : GoodT bt t) : GoodT bt { t with plain := false } := fun e => ⟨(g e).1, fun z => by cases z⟩
theorem probe_free {t : SetTable} {f : Nat → Int} {h : Int} : ∀ (fuel : Nat) (p : SetTable.Probe) (j : Nat) (d : Option Nat), (∀ x, p.dummy = some x → t.place[SetTable.below t.place x]? ≠ some x) →
  SetTable.probe.go t f h fuel p = some (.empty j d) → t.place[SetTable.below t.place (d.getD j)]? ≠ some (d.getD j)
 | 0, p, j, d, hp, e => by cases e
 | fuel + 1, p, j, d, hp, e => by
  unfold SetTable.probe.go at e
  have key : ∀ x, t.slot x = .empty ∨ t.slot x = .dummy → t.place[SetTable.below t.place x]? ≠ some x := fun x hx q => by
   unfold SetTable.slot at hx
   simp [q] at hx
  cases hs : t.slot p.j with
  | empty =>
   rw [hs] at e
   injection e with e
   injection e with e1 e2
   subst e1 e2
   cases hd : p.dummy with
   | none => exact key _ (.inl hs)
   | some x => exact hp x hd
  | dummy =>
   rw [hs] at e
   refine probe_free fuel _ j d (fun x hx => ?_) e
   have : x = p.j := by
    unfold SetTable.advance at hx
    split at hx
    ·exact (Option.some.inj hx).symm
    ·exact (Option.some.inj hx).symm
   subst this
   exact key _ (.inr hs)
  | live i =>
   rw [hs] at e
   dsimp only at e
   split at e
   ·cases e
   ·refine probe_free fuel _ j d (fun x hx => hp x ?_) e
    unfold SetTable.advance at hx
    split at hx
    ·exact hx
    ·exact hx
theorem freeSlot_free {t : SetTable} {h : Int} {j : Nat} {b : Bool} (e : t.freeSlot h = some (j, b)) : t.place[SetTable.below t.place j]? ≠ some j := by
 unfold SetTable.freeSlot at e
 split at e
 ·rename_i j' d hq
  injection e with e
  injection e with e1 e2
  subst e1
  exact probe_free _ _ _ _ (fun x hx => by cases hx) hq
 ·cases e
theorem GoodT.layNew {bt : Bool} {t : SetTable} (g : GoodT bt t) (es : Array (Int × Value)) (h : Int) (x : Value) : GoodT bt (layNew t es h x).2.1 := by
 unfold PySem.layNew
 split
 ·rename_i slot wd hq
  show GoodT bt (SetTable.orStandIn _ _)
  unfold SetTable.orStandIn
  have g2 : GoodT bt (t.put slot).1 := fun e => ⟨(g e).1, fun z => rise_insert ((g e).2 z) (freeSlot_free hq)⟩
  split
  ·exact g2
  ·exact g2.standIn _
 ·exact g.standIn _
theorem rise_range {α : Type} (f : Nat → Option α) : ∀ (n : Nat) (s : Nat), ((List.range' s n).filterMap fun j => (f j).map (j, ·)).map (·.1) |>.Pairwise (· < ·)
 | 0, s => List.Pairwise.nil
 | n + 1, s => by
  rw [List.range'_succ, List.filterMap_cons]
  have ih := rise_range f n (s + 1)
  cases e : f s with
  | none => exact ih
  | some a =>
   show (s :: _).Pairwise _
   refine List.pairwise_cons.mpr ⟨fun y hy => ?_, ih⟩
   obtain ⟨p, hp, rfl⟩ := List.mem_map.mp hy
   obtain ⟨k, hk, hk2⟩ := List.mem_filterMap.mp hp
   cases e2 : f k with
   | none => rw [e2] at hk2; cases hk2
   | some b =>
    rw [e2] at hk2
    injection hk2 with hk2
    subst hk2
    have := (List.mem_range'_1.mp hk).1
    exact this
theorem GoodT.relayAll {bt : Bool} {t : SetTable} (g : GoodT bt t) (es : Array (Int × Value)) (n : Nat) : GoodT bt (relayAll t es n).2.1 := by
 unfold PySem.relayAll
 split
 ·rename_i t' order hq
  dsimp only
  split
  ·intro e
   unfold SetTable.relaid SetTable.laid at hq
   cases ho : SetTable.layClean (SetTable.sizeAbove n - 1) (es.map (·.1)) with
   | none => rw [ho] at hq; cases hq
   | some owner =>
    rw [ho] at hq
    have hq' := Option.some.inj hq
    injection hq' with q1 q2
    subst q1
    refine ⟨(g e).1, fun _ => ?_⟩
    have := rise_range (fun j => owner.getD j none) (SetTable.sizeAbove n - 1 + 1) 0
    rw [← List.range_eq_range'] at this
    exact this
  ·exact g.standIn _
 ·exact g.standIn _
end SG
namespace SG
open PySem PyProof.Rows
def numV : Value → Int
 | .int i _ => i
 | _ => 0
def byT (w : World) : Bool := w.params.followText "set-order"
def SetI (P : Program) (w : World) (h : Heap) (a : Addr) (ks : List Int) : Prop := ∃ o es ep t, h.get? a = some o ∧ o.ExactSet ∧ o.data = .set es ep t ∧ ElemsOf (PySem.intKind P w) es.toList ∧
 ks = es.toList.map (fun e => numV e.2) ∧ ks.Nodup ∧ es.size < scanBound ∧ t.fits es.size = true ∧ GoodT (byT w) t
section
variable {P : Program} {w : World} {A : Around} {E : Value → Shared → Prop} {s : Shared} {h h' : Heap} {a : Addr} {ks : List Int}
theorem is_int {k : Int} {v : Value} : (PySem.intKind P w).is k v = true ↔ ∃ t, v = .int k t := ⟨fun h => Value.isInt_shape (k := k) (v := v) h, fun ⟨t, e⟩ => by rw [e]; exact PySem.intKind_is _ _ _ _⟩
theorem SetI.at (x : SetI P w h a ks) (k : ∀ o, h.get? a = some o → h'.get? a = some o) : SetI P w h' a ks := by
 obtain ⟨o, es, ep, t, ho, r⟩ := x
 exact ⟨o, es, ep, t, k _ ho, r⟩
theorem SetI.len (x : SetI P w h a ks) : ks.length < scanBound := by
 obtain ⟨o, es, ep, t, ho, _, _, _, e, _, hb, _⟩ := x
 rw [e, List.length_map, Array.length_toList]
 exact hb
theorem setI_store {o : Obj} {es es' : Array (Int × Value)} {ep : Nat} {t t' : SetTable} (ho : h.get? a = some o) (hex : o.ExactSet) (hd : o.data = .set es ep t) (hel : ElemsOf (PySem.intKind P w) es'.toList)
  (nd : (es'.toList.map (fun e => numV e.2)).Nodup) (hb : es'.size < scanBound) (hf : t'.fits es'.size = true) (g : GoodT (byT w) t') :
  (h.update a (Obj.putSet es' t')).get? a = some { o with data := .set es' (ep + 1) t' } ∧ SetI P w (h.update a (Obj.putSet es' t')) a (es'.toList.map (fun e => numV e.2)) := by
 have hg : (h.update a (Obj.putSet es' t')).get? a = some { o with data := .set es' (ep + 1) t' } := by
  have z := Heap.get?_update_self (Obj.putSet es' t') ho (by rw [putSet_of es' t' hd]; rfl)
  rw [putSet_of es' t' hd] at z
  exact z
 exact ⟨hg, _, es', ep + 1, t', hg, hex, rfl, hel, rfl, nd, hb, hf, g⟩
theorem add_tail {g : Bool → Sem Unit} (hg : ∀ (b : Bool) (s₁ : Shared) (Q' : Unit → Shared → Prop), Q' () s₁ → wpAny (model P w) A (g b) Q' E s₁)
  {o : Obj} {es : Array (Int × Value)} {ep : Nat} {t : SetTable} (ho : s.heap.get? a = some o) (hex : o.ExactSet) (hd : o.data = .set es ep t)
  {es1 : Array (Int × Value)} {t2 : SetTable} (hel1 : ElemsOf (PySem.intKind P w) es1.toList) (nd : (es1.toList.map (fun e => numV e.2)).Nodup)
  (hb1 : es1.size < scanBound) (hf2 : t2.fits es1.size = true) (gt : GoodT (byT w) t2) {wasDummy : Bool} {R : Option Bool → Shared → Prop}
  (hR : ∀ h' ks', Heap.SameBut a s.heap h' → SetI P w h' a ks' → ks'.Perm (es1.toList.map (fun e => numV e.2)) → R (some true) { s with heap := h' }) :
  wpAny (model P w) A (do
    storeSet a es1 t2
    if (!wasDummy && t2.tooFull) = true then do
      g (relayAll t2 es1 (SetTable.grown es1.size)).2.2
      storeSet a (relayAll t2 es1 (SetTable.grown es1.size)).1 (relayAll t2 es1 (SetTable.grown es1.size)).2.1
      pure (some true)
     else pure (some true)) R E s := by
 refine wpAny_bind (wpAny_storeSet_of ho hd ?_ (fits_of_scanBound hb1))
 obtain ⟨ho1, hS1⟩ := setI_store (P := P) (w := w) ho hex hd hel1 nd hb1 hf2 gt
 have hsb1 := Heap.SameBut.update s.heap a (Obj.putSet es1 t2)
 split
 ·have hp := relayAll_perm t2 es1 (SetTable.grown es1.size)
  have hfr := relayAll_fits t2 es1 (SetTable.grown es1.size)
  have gr := gt.relayAll es1 (SetTable.grown es1.size)
  generalize relayAll t2 es1 (SetTable.grown es1.size) = Rl at hp hfr gr ⊢
  obtain ⟨es2, t3, gave2⟩ := Rl
  dsimp only at hp hfr gr ⊢
  have hpm : (es2.toList.map (fun e => numV e.2)).Perm (es1.toList.map (fun e => numV e.2)) := hp.map _
  have hsz : es2.size = es1.size := by rw [← Array.length_toList, hp.length_eq, Array.length_toList]
  have hb2 : es2.size < scanBound := by rw [hsz]; exact hb1
  refine wpAny_bind (hg _ _ _ ?_)
  refine wpAny_bind (wpAny_storeSet_of ho1 rfl ?_ (fits_of_scanBound hb2))
  obtain ⟨_, hS2⟩ := setI_store (P := P) (w := w) ho1 hex rfl (hel1.perm hp) (hpm.nodup_iff.mpr nd) hb2 hfr gr
  exact wpAny_pure (hR _ _ (hsb1.trans (Heap.SameBut.update _ a _)) hS2 hpm)
 ·exact wpAny_pure (hR _ _ hsb1 hS1 (List.Perm.refl _))
theorem add_int {v : Int} {tk : Tok} {Q : Bool → Shared → Prop} (x : SetI P w s.heap a ks) (hroom : ks.length + 1 < scanBound)
  (hQ : ∀ b h' ks', Heap.SameBut a s.heap h' → SetI P w h' a ks' → (∀ k, k ∈ ks' ↔ k ∈ ks ∨ k = v) → ks'.length ≤ ks.length + 1 → Q b { s with heap := h' }) :
  wpAny (model P w) A (setAddHashed a (.int v tk) ((PySem.intKind P w).hash v)) Q E s := by
 obtain ⟨o, es, ep, t, ho, hex, hd, hel, eks, nd, hb, hf, gt⟩ := x
 have hkey : (PySem.intKind P w).is v (.int v tk) = true := PySem.intKind_is _ _ _ _
 have hlen : ks.length = es.size := by rw [eks, List.length_map, Array.length_toList]
 have hb1 : es.size + 1 < scanBound := by omega
 unfold setAddHashed setAddHashedIn
 refine wpAny_holding (wpAny_bind (wpAny_setState_of ho hd hf ?_))
 dsimp only
 rw [byScan_of (knd := PySem.intKind P w) rfl hb hel]
 simp only [↓reduceIte]
 unfold setAddByScan
 refine wpAny_bind ?_
 refine wpAny_bind (wpAny_rule ?_)
 refine wpAny_bind (wpAny_setScan_of hkey ho hd hf hel ?_)
 have mem_iff : ∀ k, k ∈ ks ↔ ∃ e ∈ es.toList, (PySem.intKind P w).is k e.2 = true := fun k => by
  rw [eks, List.mem_map]
  constructor
  ·rintro ⟨e, he, rfl⟩
   obtain ⟨⟨k', hk', _⟩, _⟩ := hel e he
   obtain ⟨t', et⟩ := is_int.mp hk'
   refine ⟨e, he, is_int.mpr ⟨t', ?_⟩⟩
   rw [et]
   rfl
  ·rintro ⟨e, he, hk'⟩
   obtain ⟨t', et⟩ := is_int.mp hk'
   exact ⟨e, he, by rw [et]; rfl⟩
 cases hr : List.findIdx? (fun e => (PySem.intKind P w).is v e.2) es.toList with
 | some j =>
  dsimp only
  obtain ⟨hj, hpj, _⟩ := List.findIdx?_eq_some_iff_getElem.mp hr
  have hm : v ∈ ks := (mem_iff v).mpr ⟨es.toList[j], List.getElem_mem hj, hpj⟩
  refine wpAny_pure (wpAny_pure ?_)
  have e : s = { s with heap := s.heap } := by cases s; rfl
  rw [e]
  exact hQ _ s.heap ks (Heap.SameBut.refl a s.heap) ⟨o, es, ep, t, ho, hex, hd, hel, eks, nd, hb, hf, gt⟩ (fun k => ⟨fun z => .inl z, fun z => z.elim id fun q => by rw [q]; exact hm⟩) (Nat.le_succ _)
 | none =>
  dsimp only
  have hnm : v ∉ ks := fun hm => by
   obtain ⟨e, he, hp⟩ := (mem_iff v).mp hm
   have z := List.findIdx?_eq_none_iff.mp hr e he
   rw [hp] at z
   cases z
  have hgw : ∀ (b : Bool) {s₁ : Shared} {Q' : Unit → Shared → Prop}, Q' () s₁ → wpAny (model P w) A (match b with | true => rule "set.scan.the-table-gave-way" | false => pure ()) Q' E s₁ :=
   fun b s₁ Q' hq => by cases b <;> first | exact wpAny_pure hq | exact wpAny_rule hq
  have hperm := layNew_perm t es ((PySem.intKind P w).hash v) (.int v tk)
  have hfits := layNew_fits t es ((PySem.intKind P w).hash v) (.int v tk)
  have gl := gt.layNew es ((PySem.intKind P w).hash v) (.int v tk)
  generalize layNew t es ((PySem.intKind P w).hash v) (.int v tk) = L at hperm hfits gl ⊢
  obtain ⟨es1, t1, wasDummy, gave⟩ := L
  dsimp only at hperm hfits gl ⊢
  rw [Array.toList_push] at hperm
  have hel1 : ElemsOf (PySem.intKind P w) es1.toList := (hel.push hkey rfl).perm hperm
  have hpm : (es1.toList.map (fun e => numV e.2)).Perm (ks ++ [v]) := by
   have z := hperm.map (fun e => numV e.2)
   rw [List.map_append, ← eks] at z
   exact z
  have nd1 : (es1.toList.map (fun e => numV e.2)).Nodup := hpm.nodup_iff.mpr (by
   rw [List.nodup_append]
   refine ⟨nd, by simp, fun p hp q hq => ?_⟩
   rw [List.mem_singleton] at hq
   subst hq
   intro z
   exact hnm (z ▸ hp))
  have hb1' : es1.size < scanBound := by
   rw [← Array.length_toList, hperm.length_eq, List.length_append, Array.length_toList]
   simpa using hb1
  have hend : ∀ h' ks', Heap.SameBut a s.heap h' → SetI P w h' a ks' → ks'.Perm (es1.toList.map (fun e => numV e.2)) → Q true { s with heap := h' } := fun h' ks' c1 c2 c3 => by
   have c4 := c3.trans hpm
   refine hQ true h' ks' c1 c2 (fun k => ?_) ?_
   ·rw [c4.mem_iff, List.mem_append, List.mem_singleton]
   ·rw [c4.length_eq, List.length_append]
    exact Nat.le_refl _
  refine wpAny_bind (hgw _ ?_)
  split
  ·refine wpAny_bind ?_
   rw [hashByValue_scannable 8 (x := .int v tk) rfl]
   refine wpAny_pure ?_
   refine add_tail ?_ ho hex hd hel1 nd1 hb1' ?_ ?_ ?_
   ·intro b s₁ Q' hq; cases b <;> first | exact wpAny_pure hq | exact wpAny_rule hq
   ·split
    ·exact hfits
    ·exact SetTable.fits_plain_off hfits
   ·split
    ·exact gl
    ·exact gl.off
   ·intro h' ks' c1 c2 c3; dsimp only; exact wpAny_pure (hend h' ks' c1 c2 c3)
  ·refine wpAny_bind (wpAny_pure ?_)
   simp only [↓reduceIte]
   refine add_tail ?_ ho hex hd hel1 nd1 hb1' hfits gl ?_
   ·intro b s₁ Q' hq; cases b <;> first | exact wpAny_pure hq | exact wpAny_rule hq
   ·intro h' ks' c1 c2 c3; dsimp only; exact wpAny_pure (hend h' ks' c1 c2 c3)
end
section
variable {prog : Program} {w : World} {A : Around} {R : Result → Shared → Prop} {I : Addr} {fp wr : List Addr} {G : Array GenState → Array GenState → Prop} {n : Nat} {Pv : Nat → Value → Prop} {St : Nat → Shared → Prop}
theorem fill_loop (W : WalksS prog w A.in1 I fp wr G n Pv St) (S : Addr) (hSf : S ∉ fp) (val : Nat → Int) (hval : ∀ i v, Pv i v → ∃ t, v = .int (val i) t) (hb : n + 1 < scanBound) :
  ∀ (k i : Nat) (s : Shared) (ks : List Int), n - i = k → i ≤ n → St i s → SetI prog w s.heap S ks → ks.length ≤ i → (∀ z, z ∈ ks ↔ ∃ j, j < i ∧ z = val j) →
   (∀ s' ks', Moved (S :: wr) G s s' → SetI prog w s'.heap S ks' → (∀ z, z ∈ ks' ↔ ∃ j, j < n ∧ z = val j) → ks'.length ≤ n → R (.ok (.ret .none)) s') →
   codeAny (model prog w) A (.builtin "set.update.loop" ⟨[.ref S, .ref I], []⟩) R s := by
 have hSw : S ∉ wr := fun h => hSf (W.sub _ h)
 have hsub : ∀ b ∈ wr, b ∈ S :: wr := fun b hb => List.mem_cons_of_mem _ hb
 intro k
 induction k with
 | zero =>
  intro i s ks hk hi hst hS hlen hz hR
  have hin : i = n := by omega
  subst hin
  refine codeAny_builtin PyProof.Rows.F.entry_set_update_loop ?_
  rw [Around.under_plainId PyProof.Rows.F.plain_set_update_loop _]
  show wpAny _ A.in1 (pyNext (.ref I) >>= _) _ _ s
  refine wpAny_bind (W.done s _ _ hst fun s' hm => ?_)
  show wpAny _ A.in1 (ret Value.none) _ _ s'
  exact wpAny_pure (hR s' ks (hm.mono hsub) (hS.at fun o e => hm.heap S _ hSw e) hz hlen)
 | succ k ih =>
  intro i s ks hk hi hst hS hlen hz hR
  have hlt : i < n := by omega
  refine codeAny_builtin PyProof.Rows.F.entry_set_update_loop ?_
  rw [Around.under_plainId PyProof.Rows.F.plain_set_update_loop _]
  show wpAny _ A.in1 (pyNext (.ref I) >>= _) _ _ s
  refine wpAny_bind (W.item i s _ _ hlt hst fun v s' hP hst' hm => ?_)
  obtain ⟨t, rfl⟩ := hval i v hP
  have hS' := hS.at (h' := s'.heap) fun o e => hm.heap S _ hSw e
  show wpAny _ A.in1 (holding [Value.int (val i) t] (setAdd S (.int (val i) t)) >>= _) _ _ s'
  refine wpAny_bind (wpAny_holding ?_)
  unfold setAdd
  refine wpAny_holding ?_
  refine wpAny_bind ((PySem.intKind prog w).pyHash (k := val i) (PySem.intKind_is _ _ _ _) ?_)
  refine add_int (s := { s' with toks := s'.toks + 1 }) hS' (by omega) fun b h' ks' hsb hS2 hz2 hl2 => ?_
  refine wpAny_pure ⟨plainId_quiet PyProof.Rows.F.plain_set_update_loop _, ih (i + 1) _ ks' (by omega) hlt (W.frame _ s' _ _ hst' (Nat.le_succ _) fun b hb o e => ?_) hS2 (by omega) (fun z => ?_) fun s'' ks'' hm'' hS'' hz'' hl'' => ?_⟩
  ·rw [hsb.2 b (fun h : b = S => hSf (by rw [← h]; exact hb))]; exact e
  ·rw [hz2, hz]
   constructor
   ·rintro (⟨j, hj, e⟩ | e)
    ·exact ⟨j, by omega, e⟩
    ·exact ⟨i, by omega, e⟩
   ·rintro ⟨j, hj, e⟩
    by_cases hji : j = i
    ·subst hji; exact .inr e
    ·exact .inl ⟨j, by omega, e⟩
  ·refine hR s'' ks'' (Moved.trans W.gtrans ((hm.mono hsub).then_heap (Nat.le_succ _) fun b o hb e => ?_) hm'') hS'' hz'' hl''
   rw [hsb.2 b (fun h : b = S => hb (by rw [h]; exact List.mem_cons_self))]; exact e
end
end SG
namespace SG
open PySem PyProof.Rows
section
variable {prog : Program} {w : World} {A : Around} {E : Value → Shared → Prop} {s : Shared}
abbrev newO (w : World) : Obj := { cls := .type "set", dict := none, data := .set #[] 0 (.fresh 0 0 (!byT w)) }
theorem set_new (a : Value) {Q : Value → Shared → Prop} (h : Q (.ref s.heap.objs.size) { s with heap := s.heap.push (newO w) }) :
  codeAny (model prog w) A (.call (.builtin "set.__new__") ⟨[.type "set", a], []⟩) (wants Q E) s := by
 refine codeAny_of_tree ?_
 show wpAny _ A.in1 (do checkBuiltinCall "set.__new__" ⟨[.type "set", a], []⟩; again (.builtin "set.__new__" ⟨[.type "set", a], []⟩)) _ _ s
 refine wpAny_bind (wpAny_of_eq (PySem.F.newCall_set_1 a) (wpAny_pure ⟨plainId_quiet PySem.F.plain_set_new _, codeAny_builtin PySem.F.entry_set_new ?_⟩))
 rw [Around.under_plainId PySem.F.plain_set_new _]
 unfold Builtin.«set.__new__» Builtin.Frozenset.newClass
 have hsub := sub_set_self
 obtain ⟨hp, g, d, tk, os⟩ := s
 dsimp only
 wp_walk
 refine wpAny_askSetting (wpAny_pure ?_)
 dsimp only
 simp only [newObj]
 refine wpAny_bind (wpAny_alloc (wpAny_pure ?_))
 exact wpAny_pure h
set_option maxHeartbeats 3200000 in
theorem call_set {l : Addr} {items : Array Value} {ns : List Int} {Q : Value → Shared → Prop}
  (hh : A.handled = none) (hl : s.heap.IsList l items) (hi : IntsAre items.toList ns) (hb : items.size + 1 < scanBound)
  (hQ : ∀ (h' : Heap) (tk : Nat) (ks : List Int), SetI prog w h' s.heap.objs.size ks → (∀ z, z ∈ ks ↔ z ∈ ns) → ks.length ≤ ns.length →
   (∀ b o, b < s.heap.objs.size → s.heap.get? b = some o → h'.get? b = some o) → s.heap.objs.size < h'.objs.size → Q (.ref s.heap.objs.size) { s with heap := h', toks := tk }) :
  wpAny (model prog w) A (call (.type "set") [.ref l]) Q E s := by
 have hlen : items.size = ns.length := by rw [← hi.length, Array.length_toList]
 obtain ⟨c, tl, hmro⟩ := PySem.F.called_set.mro
 have hmade := PySem.F.called_set.made
 have hsub := PySem.F.called_set.sub
 refine wpAny_call (codeAny_of_tree ?_)
 show wpAny _ _ (callAny (.type "set") _) _ _ _
 refine wpAny_pure ⟨Code.quiet_builtin _ (by decide +kernel), codeAny_builtin PySem.F.entry_type_call ?_⟩
 rw [Around.under_plain (weight_type_call_type "set" [.ref l] []) rfl]
 have h1 := PySem.F.called_set.notType
 have h2 := PySem.F.called_set.canCreate
 have hct := PySem.F.typeCall_set_1 (.ref l)
 repeat (any_goals (first | assumption | wp_step))
 refine codeAny_mono (set_new (.ref l) (E := E) (Q := fun obj s₁ => obj = .ref s.heap.objs.size ∧ s₁ = { s with heap := s.heap.push (newO w) }) ⟨rfl, rfl⟩) fun r s₁ hr => ?_
 cases r with
 | error e => exact hr
 | ok fl =>
  cases fl with
  | ret obj =>
   obtain ⟨rfl, rfl⟩ := hr
   have hS : (s.heap.push (newO w)).get? s.heap.objs.size = some (newO w) := Heap.get?_push_size _ rfl
   have hT : Shared.TypeIs { s with heap := s.heap.push (newO w) } (.ref s.heap.objs.size) "set" := ⟨_, hS, rfl⟩
   have hli := PySem.F.called_set.init.lookup
   have hbi := PySem.F.called_set.init.bind (.ref s.heap.objs.size)
   repeat (any_goals (first | assumption | wp_step))
   refine codeAny_mono (codeAny_call_builtin (R := wants (fun r s₂ => r = .none ∧ ∃ h' tk ks, s₂ = { s with heap := h', toks := tk } ∧ SetI prog w h' s.heap.objs.size ks ∧ (∀ z, z ∈ ks ↔ z ∈ ns) ∧ ks.length ≤ ns.length ∧
     (∀ b o, b < s.heap.objs.size → s.heap.get? b = some o → h'.get? b = some o)) E) PySem.F.called_set.init.plain PySem.F.entry_set_init (check_set_init_1 hT ?_)) fun r₂ s₂ hr₂ => ?_
   ·obtain ⟨ol, hol, hcl, nl, hdl⟩ := hl
    obtain ⟨ocls, odict, odata, oslots⟩ := ol
    simp only at hcl hdl
    subst hcl; subst hdl
    have hol' : (s.heap.push (newO w)).get? l = some { cls := .type "list", dict := odict, data := .seq items nl, slots := oslots } := Heap.get?_push_of_some _ hol
    have hsls := PySem.F.sub_list_set
    have hslf := PySem.F.sub_list_frozenset
    have hne : (Value.type "list" == Value.type "dict") = false := by decide
    have hl1 : (s.heap.push (newO w)).IsList l items := ⟨_, hol', rfl, nl, rfl⟩
    unfold Builtin.«set.__init__» noKeywords Builtin.Frozenset.updateFrom
    generalize hPI : pyIter = PI
    wp_walk
    subst hPI
    refine wpAny_pyIter_list hl1 ?_
    refine wpAny_bind (wpAny_runValue ?_)
    have hlS : l < s.heap.objs.size := Heap.lt_size hol
    have hh3 : A.in1.in1.in1.handled = none := by simp [hh]
    have hneI : l ≠ (s.heap.push (newO w)).objs.size := by
     rw [Heap.size_push]; exact Nat.ne_of_lt (Nat.lt_succ_of_lt hlS)
    have hSf : s.heap.objs.size ∉ [(s.heap.push (newO w)).objs.size, l] := by
     rw [Heap.size_push]; simp only [List.mem_cons, List.mem_singleton, List.not_mem_nil, or_false, not_or]
     exact ⟨Nat.ne_of_lt (Nat.lt_succ_self _), Nat.ne_of_gt hlS⟩
    have hval : ∀ (i : Nat) (v : Value), items[i]? = some v → ∃ t, v = .int ((fun i => ns.getD i 0) i) t := fun i v hv =>
     IntsAre.int_at hi i v (by rw [Array.getElem?_toList]; exact hv)
    refine fill_loop ((Walks.list hh3 _ l hneI items).toS) s.heap.objs.size hSf (fun i => ns.getD i 0) hval hb (items.size - 0) 0 _ [] (by omega) (Nat.zero_le _)
     ⟨⟨_, Heap.get?_push_size _ rfl, rfl, rfl⟩, (hl1.push _)⟩ ?hS0 (Nat.le_refl _) (fun z => ⟨fun q => (by cases q), fun ⟨j, hj, _⟩ => (by omega)⟩) ?hR
    case hS0 =>
     have hget : ((s.heap.push (newO w)).push { cls := .type "list_iterator", data := .fields #[.ref l, .int 0 0] }).get? s.heap.objs.size = some (newO w) := Heap.get?_push_of_some _ hS
     exact ⟨_, #[], 0, _, hget, ⟨rfl, rfl, rfl⟩, rfl, fun e he => by simp at he, rfl, List.Pairwise.nil, by decide, by rfl, GoodT.fresh _ _ _⟩
    case hR =>
     intro s' ks hm hS' hz hlk
     obtain ⟨h', g', d', tk', os'⟩ := s'
     have eg : g' = s.gens := hm.gens
     have ed : d' = s.drawn := hm.drawn
     have eo : os' = s.os := hm.os
     subst eg; subst ed; subst eo
     show wpAny _ _ _ _ _ _
     refine wpAny_pure ?_
     show wpAny _ _ (ret Value.none) _ _ _
     refine wpAny_pure ⟨rfl, h', tk', ks, rfl, hS', fun z => ?_, by omega, fun b o hb e => ?_⟩
     ·rw [hz]
      constructor
      ·rintro ⟨j, hj, rfl⟩
       rw [List.getD_eq_getElem?_getD, List.getElem?_eq_getElem (by omega)]
       exact List.getElem_mem _
      ·intro hm
       obtain ⟨j, hj⟩ := List.getElem?_of_mem hm
       have hlt := (List.getElem?_eq_some_iff.mp hj).1
       exact ⟨j, by omega, by rw [List.getD_eq_getElem?_getD, hj]; rfl⟩
     ·have hb1 : b ≠ s.heap.objs.size := Nat.ne_of_lt hb
      have hb2 : b ≠ (s.heap.push (newO w)).objs.size := by
       rw [Heap.size_push]; exact Nat.ne_of_lt (Nat.lt_succ_of_lt hb)
      exact hm.heap b o (by simp only [List.mem_cons, List.mem_singleton, List.not_mem_nil, or_false, not_or]; exact ⟨hb1, hb2⟩) (Heap.get?_push_of_some _ (Heap.get?_push_of_some _ e))
   ·cases r₂ with
    | error e => exact hr₂
    | ok fl₂ =>
     cases fl₂ with
     | ret r =>
      obtain ⟨rfl, h', tk, ks, rfl, hS', hz, hlk, hk'⟩ := hr₂
      repeat (any_goals (first | assumption | wp_step))
      exact hQ _ _ ks hS' hz hlk hk' (by obtain ⟨o, es, ep, t, ho, _⟩ := hS'; exact Heap.lt_size ho)
     | _ => exact hr₂.elim
  | _ => exact hr.elim
end
end SG
namespace SG
open PySem PyProof.Rows
namespace F
theorem entry_set_iter : entryFor table "set.__iter__" = some Builtin.«frozenset.__iter__» :=
 entryFor_alias (id' := "frozenset.__iter__") (by kernel_rfl) rfl (by decide +kernel) (by kernel_rfl)
theorem slot_setiter_next : Slot "set_iterator" "__next__" "set_iterator.__next__" :=
 .of (owner := "set_iterator") (n := "__next__") (by rw [typeLookup_type, builtinLookup_eq_fast]; kernel_rfl) (by decide +kernel) (by decide +kernel) (by decide +kernel)
  (by first | exact .inl (by decide +kernel) | exact .inr (by decide +kernel)) (by rw [isSubtype_type]; kernel_rfl)
theorem entry_setiter_next : entryFor table "set_iterator.__next__" = some Builtin.«set_iterator.__next__» := entryFor_of_tree (by kernel_rfl)
theorem args_setiter_next (a : Value) : argsOk "set_iterator.__next__" ⟨[a], []⟩ := by unfold argsOk; kernel_rfl
theorem slot_setiter_iter : Slot "set_iterator" "__iter__" "set_iterator.__iter__" :=
 .of (owner := "set_iterator") (n := "__iter__") (by rw [typeLookup_type, builtinLookup_eq_fast]; kernel_rfl) (by decide +kernel) (by decide +kernel) (by decide +kernel)
  (by first | exact .inl (by decide +kernel) | exact .inr (by decide +kernel)) (by rw [isSubtype_type]; kernel_rfl)
end F
theorem erase_perm {α : Type} : ∀ {l : List α} {i : Nat} {x : α}, l[i]? = some x → (x :: l.eraseIdx i).Perm l
 | [], i, x, h => by simp at h
 | a :: l, 0, x, h => by
  have e : a = x := Option.some.inj h
  subst e
  exact List.Perm.refl _
 | a :: l, i + 1, x, h => by
  have ih := erase_perm (l := l) (i := i) (x := x) (by simpa using h)
  show (x :: a :: l.eraseIdx i).Perm (a :: l)
  exact (List.Perm.swap a x _).trans (ih.cons a)
theorem pick_go {α : Type} (next : Nat → Nat) : ∀ (fuel k : Nat) (left : List α) (out : Array α), left.length = fuel → (pickOrder.go next fuel k left out).toList.Perm (out.toList ++ left)
 | 0, k, left, out, h => by
  have e : left = [] := List.length_eq_zero_iff.mp h
  subst e
  unfold pickOrder.go
  simp
 | fuel + 1, k, left, out, h => by
  unfold pickOrder.go
  have hlt : next k % left.length < left.length := Nat.mod_lt _ (by omega)
  have e : left[next k % left.length]? = some (left[next k % left.length]) := List.getElem?_eq_getElem hlt
  rw [e]
  dsimp only
  refine (pick_go next fuel (k + 1) _ _ (by rw [List.length_eraseIdx, if_pos hlt]; omega)).trans ?_
  rw [Array.toList_push, List.append_assoc]
  exact (erase_perm e).append_left _
theorem pick_perm {α : Type} (next : Nat → Nat) (xs : Array α) : (pickOrder next xs).toList.Perm xs.toList := by
 unfold pickOrder
 exact pick_go next xs.size 0 xs.toList #[] (by simp)
section
variable {P : Program} {w : World} {A : Around} {E : Value → Shared → Prop} {s : Shared} {S I : Addr} {o : Obj} {es : Array (Int × Value)} {ep : Nat} {t : SetTable}
structure Steps (P : Program) (w : World) (S : Addr) (o : Obj) (ep n : Nat) (slotAt : Nat → Nat) (ord : List Value) : Prop where
 len : ord.length = n
 nxt : ∀ (A : Around) (E : Value → Shared → Prop) (s : Shared) (i : Nat) (Q : Option (Value × Nat) → Shared → Prop), s.heap.get? S = some o → i ≤ n →
  Q ((ord[i]?).map fun v => (v, slotAt (i + 1))) s → wpAny (model P w) A (setNext S (slotAt i) i ep) Q E s
theorem byText_of {Q : Bool → Shared → Prop} (h : Q (byT w) s) : wpAny (model P w) A setsByText Q E s := wpAny_bind (wpAny_askSetting (wpAny_pure h))
theorem steps_text (hd : o.data = .set es ep t) (hf : t.fits es.size = true) (hb : byT w = true) : Steps P w S o ep es.size (fun _ => 0) ((pickOrder (w.params.setOrder S ep) es).toList.map (·.2)) := by
 refine ⟨by rw [List.length_map, (pick_perm _ _).length_eq, Array.length_toList], fun A E s i Q ho hi hQ => ?_⟩
 unfold setNext
 refine wpAny_bind (wpAny_setState_of ho hd hf ?_)
 dsimp only
 refine wpAny_bind (byText_of ?_)
 rw [hb]
 simp only [↓reduceIte, bne_self_eq_false, Bool.false_eq_true]
 refine wpAny_bind ?_
 unfold setWalk
 refine wpAny_bind (wpAny_setState_of ho hd hf ?_)
 dsimp only
 refine wpAny_bind (byText_of ?_)
 rw [hb]
 simp only [↓reduceIte]
 refine wpAny_bind (wpAny_askSetting (wpAny_pure (wpAny_pure ?_)))
 rw [List.getElem?_map, Array.getElem?_toList] at hQ
 cases e : (pickOrder (w.params.setOrder S ep) es)[i]? with
 | none =>
  rw [e] at hQ
  exact (show Q (Option.map (fun e => (e.2, 0)) ((pickOrder (w.params.setOrder S ep) es)[i]?)) s by rw [e]; exact hQ)
 | some x =>
  rw [e] at hQ
  exact (show Q (Option.map (fun e => (e.2, 0)) ((pickOrder (w.params.setOrder S ep) es)[i]?)) s by rw [e]; exact hQ)
theorem steps_place (hd : o.data = .set es ep t) (hf : t.fits es.size = true) (hb : byT w = false) (hdr : (!t.plain && decide (es.size > 1)) = false) (hl : t.led = true) (hr : Rise t.place) :
  Steps P w S o ep es.size (fun i => if i = 0 then 0 else t.place.getD (i - 1) 0 + 1) (es.toList.map (·.2)) := by
 have hps : t.place.size = es.size := by
  simp only [SetTable.fits, Bool.and_eq_true, beq_iff_eq] at hf
  exact hf.1
 refine ⟨by rw [List.length_map, Array.length_toList], fun A E s i Q ho hi hQ => ?_⟩
 have hbel : SetTable.below t.place (if i = 0 then 0 else t.place.getD (i - 1) 0 + 1) = i := by
  have c := cut hr (if i = 0 then 0 else t.place.getD (i - 1) 0 + 1)
  generalize SetTable.below t.place (if i = 0 then 0 else t.place.getD (i - 1) 0 + 1) = p at c ⊢
  by_cases h0 : i = 0
  ·rw [if_pos h0] at c
   subst h0
   by_cases hp : p = 0
   ·exact hp
   ·have := c.lo 0 (t.place[0]'(by have := c.le; omega)) (by omega) (Array.getElem?_eq_getElem _)
    omega
  ·rw [if_neg h0] at c
   have e1 : t.place[i - 1]? = some (t.place[i - 1]'(by omega)) := Array.getElem?_eq_getElem _
   have eg : t.place.getD (i - 1) 0 = t.place[i - 1]'(by omega) := by rw [Array.getD_eq_getD_getElem?, e1]; rfl
   rw [eg] at c
   rcases Nat.lt_trichotomy p i with h | h | h
   ·have := c.hi (i - 1) _ (by omega) e1
    omega
   ·exact h
   ·have h3 : i < t.place.size := by have := c.le; omega
    have e2 : t.place[i]? = some (t.place[i]) := Array.getElem?_eq_getElem h3
    have l1 := c.lo i _ h e2
    have l2 := hr.lt (i := i - 1) (j := i) (by omega) e1 e2
    omega
 unfold setNext
 refine wpAny_bind (wpAny_setState_of ho hd hf ?_)
 dsimp only
 refine wpAny_bind (byText_of ?_)
 rw [hb]
 simp only [Bool.false_eq_true, ↓reduceIte]
 split
 ·rename_i hq
  have hq2 : (!t.plain && decide (es.size > 1)) = true := hq
  rw [hdr] at hq2
  cases hq2
 ·refine wpAny_bind ?_
  show wpAny _ _ (if (!t.led && !es.isEmpty) = true then unsupported "set:maker-not-led" else pure ()) _ _ s
  rw [if_neg (by rw [hl]; simp)]
  refine wpAny_pure (wpAny_pure ?_)
  rw [hbel]
  rw [List.getElem?_map, Array.getElem?_toList] at hQ
  rcases Nat.lt_or_eq_of_le hi with h | h
  ·have e1 : es[i]? = some (es[i]) := Array.getElem?_eq_getElem h
   have e2 : t.place[i]? = some (t.place[i]'(by omega)) := Array.getElem?_eq_getElem _
   have eg : t.place.getD i 0 = t.place[i]'(by omega) := by rw [Array.getD_eq_getD_getElem?, e2]; rfl
   rw [e1] at hQ
   rw [e1, e2]
   have hQ' : Q (some (es[i].2, (if i + 1 = 0 then 0 else t.place.getD i 0 + 1))) s := hQ
   rw [if_neg (by omega), eg] at hQ'
   exact hQ'
  ·have e1 : es[i]? = none := Array.getElem?_eq_none (by omega)
   rw [e1] at hQ ⊢
   exact hQ
end
end SG
namespace SG
open PySem PyProof.Rows
namespace F
theorem entry_setiter_iter : entryFor table "set_iterator.__iter__" = some Builtin.«dict_keyiterator.__iter__» :=
 entryFor_alias (id' := "dict_keyiterator.__iter__") (by kernel_rfl) rfl (by decide +kernel) (by kernel_rfl)
theorem args_setiter_iter (a : Value) : argsOk "set_iterator.__iter__" ⟨[a], []⟩ := by unfold argsOk; kernel_rfl
end F
section
variable {P : Program} {w : World} {A : Around} {E : Value → Shared → Prop} {s : Shared} {S I T : Addr} {o : Obj} {es : Array (Int × Value)} {ep : Nat} {t : SetTable}
def itO (first : Value) (i : Nat) (S : Addr) (n ep : Nat) (c : Obj) : Prop := c.cls = .type "set_iterator" ∧ c.data = .fields #[first, .int i 0, .ref S, .int n 0, .int ep 0]
theorem stop_iter {Q : Option Value → Shared → Prop} (hh : A.handled = none) (hQ : ∀ h', (∀ b o, s.heap.get? b = some o → h'.get? b = some o) → Q none { s with heap := h' }) :
  wpAny (model P w) A.in1 (newExc (.type "StopIteration") [] >>= fun e => raiseNew e) (fun (_ : PySem.Fin) _ => False)
   (fun e s' => wpAny (model P w) A (isInstance e (.type "StopIteration") >>= fun b => if b = true then pure none else throw e) Q E s') s := by
 refine wpAny_bind ?_
 simp only [newExc, newTuple]
 refine wpAny_bind (wpAny_newObj_type ?_ (by size_fits))
 refine wpAny_bind (m := firstArgMember _ _) (wpAny_of_eq (a := Value.none) (by first | rfl | (simp only [firstArgMember]; rfl)) ?_)
 refine wpAny_newObj_type ?_ (by size_fits)
 simp only [raiseNew]
 refine wpAny_bind (wpAny_handled ?_)
 rw [show A.in1.handled = none from hh]
 refine wpAny_bind (wpAny_pure (wpAny_throw ?_))
 refine wpAny_bind (wpAny_isInstance (T := "StopIteration") (b := true) ⟨_, Heap.get?_push_size _ rfl, rfl⟩ isSubtype_stop ?_)
 exact wpAny_pure (hQ _ fun b o e => Heap.get?_push_of_some _ (Heap.get?_push_of_some _ e))
theorem next_int {n : Nat} {slotAt : Nat → Nat} {ord : List Value} (K : Steps P w S o ep n slotAt ord) (hd : o.data = .set es ep t) (hf : t.fits es.size = true) (hn : es.size = n) (hne : S ≠ I) (hh : A.handled = none) {i : Nat} (hi : i ≤ n) {c : Obj}
  (hI : s.heap.get? I = some c) (hc : itO (.int (slotAt i) 0) i S n ep c) (hS : s.heap.get? S = some o) {Q : Option Value → Shared → Prop}
  (h1 : ∀ v h' c', ord[i]? = some v → h'.get? I = some c' → itO (.int (slotAt (i + 1)) 0) (i + 1) S n ep c' → (∀ b o, b ≠ I → s.heap.get? b = some o → h'.get? b = some o) → Q (some v) { s with heap := h' })
  (h2 : i = n → ∀ h', (∀ b o, b ≠ I → s.heap.get? b = some o → h'.get? b = some o) → Q none { s with heap := h' }) :
  wpAny (model P w) A (pyNext (.ref I)) Q E s := by
 obtain ⟨hcl, hcd⟩ := hc
 have hT : s.TypeIs (.ref I) "set_iterator" := ⟨c, hI, hcl⟩
 unfold pyNext
 refine wpAny_bind (wpAny_attempt (wpAny_callSpecial?_slot (name := Str.ofString "__next__") hT F.slot_setiter_next
  (wpAny_call_entry F.slot_setiter_next hT F.entry_setiter_next ?_ (F.args_setiter_next _))))
 unfold Builtin.«set_iterator.__next__»
 show wpAny _ _ (fieldsOf (.ref I) >>= _) _ _ s
 refine wpAny_bind (wpAny_fieldsOf hI hcd ?_)
 show wpAny _ _ (setEntries S >>= _) _ _ s
 refine wpAny_bind (wpAny_setEntries_of hS hd hf ?_)
 rw [hn]
 simp only [bne_self_eq_false, Bool.false_eq_true, if_false]
 show wpAny _ _ (setNext S (Int.toNat (slotAt i)) (Int.toNat i) (Int.toNat ep) >>= _) _ _ s
 refine wpAny_bind (K.nxt _ _ s i _ hS hi ?_)
 cases e : ord[i]? with
 | some v =>
  show wpAny _ _ (setField (.ref I) 0 (rawInt (slotAt (i + 1))) >>= fun _ => setField (.ref I) 1 (rawInt ((i : Int) + 1)) >>= fun _ => ret v) _ _ s
  refine wpAny_bind (wpAny_setField hI hcd (by simp) ?_)
  have g1 := Heap.get?_update_self (Obj.mapFields (·.setIfInBounds 0 (rawInt (slotAt (i + 1))))) hI (Obj.isFreed_of_fields (Obj.data_mapFields hcd _))
  have d1 := Obj.data_mapFields hcd (·.setIfInBounds 0 (rawInt (slotAt (i + 1))))
  refine wpAny_bind (wpAny_setField g1 d1 (by simp) ?_)
  have g2 := Heap.get?_update_self (Obj.mapFields (·.setIfInBounds 1 (rawInt ((i : Int) + 1)))) g1 (Obj.isFreed_of_fields (Obj.data_mapFields d1 _))
  have d2 := Obj.data_mapFields d1 (·.setIfInBounds 1 (rawInt ((i : Int) + 1)))
  refine wpAny_pure ⟨v, rfl, wpAny_pure (h1 v _ _ e g2 ⟨?_, ?_⟩ fun b o' hb q => ?_)⟩
  ·exact ((Obj.cls_mapFields ..).trans (Obj.cls_mapFields ..)).trans hcl
  ·rw [d2]
   simp [rawInt]
  ·exact (Heap.get?_update_other _ _ (Ne.symm hb)).trans ((Heap.get?_update_other _ _ (Ne.symm hb)).trans q)
 | none =>
  have hin : i = n := by
   have := List.getElem?_eq_none_iff.mp e
   have := K.len
   omega
  show wpAny _ _ (setField (.ref I) 2 .none >>= fun _ => newExc (.type "StopIteration") [] >>= fun e => raiseNew e) _ _ s
  refine wpAny_bind (wpAny_setField hI hcd (by simp) ?_)
  refine wpAny_mono (stop_iter hh fun h' hk => ?_) (fun _ _ z => z.elim) fun _ _ z => z
  refine h2 hin h' fun b o' hb q => hk b o' ?_
  exact (Heap.get?_update_other _ _ (Ne.symm hb)).trans q
end
end SG
namespace SG
open PySem PyProof.Rows
section
variable {P : Program} {w : World} {A : Around} {E : Value → Shared → Prop} {s : Shared} {S I T : Addr} {o : Obj} {es : Array (Int × Value)} {ep : Nat} {t : SetTable}
theorem choose_any {M : Model} {src : Source} {n : Nat} {Q : Nat → Shared → Prop} (hn : n ≠ 0) (h : ∀ i d, i < n → Q i { s with drawn := d }) : wpAny M A (choose src n) Q E s :=
 fun Γ p hΓ => ⟨hn, h _ _ (Nat.mod_lt _ (Nat.pos_of_ne_zero hn))⟩
theorem draw_any {α : Type} : ∀ (n : Nat) (xs : List α) (s : Shared) (Q : List α → Shared → Prop), xs.length = n → (∀ ys d, ys.Perm xs → Q ys { s with drawn := d }) → wpAny (model P w) A (drawOrder n xs) Q E s
 | 0, xs, s, Q, hl, h => by
  have e : xs = [] := List.length_eq_zero_iff.mp hl
  subst e
  unfold drawOrder
  exact wpAny_pure (h [] s.drawn (List.Perm.refl _))
 | n + 1, [], s, Q, hl, h => by cases hl
 | n + 1, x :: xs, s, Q, hl, h => by
  unfold drawOrder
  refine wpAny_bind (choose_any (by simp) fun i d hi => ?_)
  have e : (x :: xs)[i]? = some ((x :: xs)[i]) := List.getElem?_eq_getElem hi
  rw [e]
  dsimp only
  refine wpAny_bind (draw_any n ((x :: xs).eraseIdx i) _ _ (by rw [List.length_eraseIdx, if_pos hi]; omega) fun ys d' hp => ?_)
  exact wpAny_pure (h _ d' ((hp.cons _).trans (erase_perm e)))
def PlacesAt (h : Heap) (T : Addr) (ps : List Nat) : Prop := ∃ c n, h.get? T = some c ∧ c.data = .seq (ps.map fun (i : Nat) => rawInt i).toArray n
theorem next_tup {n : Nat} {ps : List Nat} (hd : o.data = .set es ep t) (hf : t.fits es.size = true) (hn : es.size = n) (hl : ps.length = n) (hps : ∀ p ∈ ps, p < n) (hne : S ≠ I) (hneT : T ≠ I) (hh : A.handled = none) {i : Nat} (hi : i ≤ n) {c : Obj}
  (hI : s.heap.get? I = some c) (hc : itO (.ref T) i S n ep c) (hS : s.heap.get? S = some o) (hT : PlacesAt s.heap T ps) {Q : Option Value → Shared → Prop}
  (h1 : ∀ v h' c', (ps.map fun p => ((es[p]?).map (·.2)).getD .none)[i]? = some v → h'.get? I = some c' → itO (.ref T) (i + 1) S n ep c' → (∀ b o, b ≠ I → s.heap.get? b = some o → h'.get? b = some o) → Q (some v) { s with heap := h' })
  (h2 : i = n → ∀ h', (∀ b o, b ≠ I → s.heap.get? b = some o → h'.get? b = some o) → Q none { s with heap := h' }) :
  wpAny (model P w) A (pyNext (.ref I)) Q E s := by
 obtain ⟨hcl, hcd⟩ := hc
 have hTy : s.TypeIs (.ref I) "set_iterator" := ⟨c, hI, hcl⟩
 obtain ⟨cT, nT, hTo, hTd⟩ := hT
 unfold pyNext
 refine wpAny_bind (wpAny_attempt (wpAny_callSpecial?_slot (name := Str.ofString "__next__") hTy F.slot_setiter_next
  (wpAny_call_entry F.slot_setiter_next hTy F.entry_setiter_next ?_ (F.args_setiter_next _))))
 unfold Builtin.«set_iterator.__next__»
 show wpAny _ _ (fieldsOf (.ref I) >>= _) _ _ s
 refine wpAny_bind (wpAny_fieldsOf hI hcd ?_)
 show wpAny _ _ (setEntries S >>= _) _ _ s
 refine wpAny_bind (wpAny_setEntries_of hS hd hf ?_)
 rw [hn]
 simp only [bne_self_eq_false, Bool.false_eq_true, if_false]
 show wpAny _ _ (seqItems? (.ref T) >>= _) _ _ s
 refine wpAny_bind (wpAny_seqItems hTo hTd ?_)
 simp only [Int.toNat_natCast]
 rcases Nat.lt_or_eq_of_le hi with hlt | hin
 ·have e0 : ps[i]? = some (ps[i]'(by omega)) := List.getElem?_eq_getElem _
  have ei : ((ps.map fun (i : Nat) => rawInt i).toArray)[i]? = some (rawInt (ps[i]'(by omega) : Nat)) := by
   rw [List.getElem?_toArray, List.getElem?_map, e0]
   rfl
  rw [ei]
  have hp : ps[i]'(by omega) < es.size := by rw [hn]; exact hps _ (List.getElem_mem _)
  generalize hgp : ps[i]'(by omega) = p at e0 ei hp ⊢
  have ee : es[p]? = some (es[p]) := Array.getElem?_eq_getElem hp
  show wpAny _ _ (setNextDrawn S (Int.toNat p) (Int.toNat ep) >>= fun x => setField (.ref I) 1 (rawInt ((i : Int) + 1)) >>= fun _ => ret x) _ _ s
  refine wpAny_bind ?_
  unfold setNextDrawn
  refine wpAny_bind (wpAny_setState_of hS hd hf ?_)
  simp only [Int.toNat_natCast, bne_self_eq_false, Bool.false_eq_true, if_false]
  rw [ee]
  refine wpAny_pure ?_
  refine wpAny_bind (wpAny_setField hI hcd (by simp) ?_)
  have g1 := Heap.get?_update_self (Obj.mapFields (·.setIfInBounds 1 (rawInt ((i : Int) + 1)))) hI (Obj.isFreed_of_fields (Obj.data_mapFields hcd _))
  have d1 := Obj.data_mapFields hcd (·.setIfInBounds 1 (rawInt ((i : Int) + 1)))
  refine wpAny_pure ⟨_, rfl, wpAny_pure (h1 _ _ _ ?_ g1 ⟨(Obj.cls_mapFields ..).trans hcl, ?_⟩ fun b o' hb q => ?_)⟩
  ·rw [List.getElem?_map, e0]
   show some (((es[p]?).map (·.2)).getD .none) = some es[p].2
   rw [ee]
   rfl
  ·rw [d1]
   simp [rawInt]
  ·exact (Heap.get?_update_other _ _ (Ne.symm hb)).trans q
 ·have ei : ((ps.map fun (i : Nat) => rawInt i).toArray)[i]? = none := by
   rw [List.getElem?_toArray, List.getElem?_map, List.getElem?_eq_none (by omega)]
   rfl
  rw [ei]
  show wpAny _ _ (setField (.ref I) 0 (rawInt 0) >>= fun _ => setField (.ref I) 2 .none >>= fun _ => newExc (.type "StopIteration") [] >>= fun e => raiseNew e) _ _ s
  refine wpAny_bind (wpAny_setField hI hcd (by simp) ?_)
  have g1 := Heap.get?_update_self (Obj.mapFields (·.setIfInBounds 0 (rawInt 0))) hI (Obj.isFreed_of_fields (Obj.data_mapFields hcd _))
  have d1 := Obj.data_mapFields hcd (·.setIfInBounds 0 (rawInt 0))
  refine wpAny_bind (wpAny_setField g1 d1 (by simp) ?_)
  refine wpAny_mono (stop_iter hh fun h' hk => ?_) (fun _ _ z => z.elim) fun _ _ z => z
  refine h2 hin h' fun b o' hb q => hk b o' ?_
  exact (Heap.get?_update_other _ _ (Ne.symm hb)).trans ((Heap.get?_update_other _ _ (Ne.symm hb)).trans q)
theorem self_it {c : Obj} (hI : s.heap.get? I = some c) (hcl : c.cls = .type "set_iterator") {Q : Value → Shared → Prop} (h : Q (.ref I) s) : wpAny (model P w) A (pyIter (.ref I)) Q E s := by
 have hTy : s.TypeIs (.ref I) "set_iterator" := ⟨c, hI, hcl⟩
 refine wpAny_pyIter_slot hTy F.slot_setiter_iter (wpAny_call_entry F.slot_setiter_iter hTy F.entry_setiter_iter ?_ (F.args_setiter_iter _))
 show wpAny _ _ (ret (.ref I)) _ _ s
 exact wpAny_pure ⟨_, rfl, "set_iterator", _, hTy, F.slot_setiter_next.lookup, h⟩
theorem walks_int {n : Nat} {slotAt : Nat → Nat} {ord : List Value} (K : Steps P w S o ep n slotAt ord) (hd : o.data = .set es ep t) (hf : t.fits es.size = true) (hn : es.size = n) (hne : S ≠ I) (hh : A.handled = none) :
  Walks P w A I [I, S] [I] n (fun i v => ord[i]? = some v) (fun i h => (∃ c, h.get? I = some c ∧ itO (.int (slotAt i) 0) i S n ep c) ∧ h.get? S = some o) where
 sub := fun b hb => by simp at hb; simp [hb]
 frame := fun _ _ _ st hk => ⟨let ⟨c, e, q⟩ := st.1; ⟨c, hk I (by simp) c e, q⟩, hk S (by simp) o st.2⟩
 item := fun i s Q E hi st hQ => by
  obtain ⟨⟨c, hI, hc⟩, hS⟩ := st
  refine next_int K hd hf hn hne hh (Nat.le_of_lt hi) hI hc hS (fun v h' c' e1 e2 e3 k => ?_) (fun z => absurd z (Nat.ne_of_lt hi))
  exact hQ v h' s.toks e1 ⟨⟨c', e2, e3⟩, k S o hne hS⟩ fun b ob hb q => k b ob (fun z => hb (by simp [z])) q
 done := fun s Q E st hQ => by
  obtain ⟨⟨c, hI, hc⟩, hS⟩ := st
  refine next_int K hd hf hn hne hh (Nat.le_refl _) hI hc hS (fun v h' c' e1 e2 e3 k => ?_) (fun _ h' k => hQ h' s.toks fun b ob hb q => k b ob (fun z => hb (by simp [z])) q)
  rw [List.getElem?_eq_none (by rw [K.len]; exact Nat.le_refl _)] at e1
  cases e1
 self := fun _ s Q E st hQ => by
  obtain ⟨⟨c, hI, hc⟩, hS⟩ := st
  exact self_it hI hc.1 hQ
theorem walks_tup {n : Nat} {ps : List Nat} (hd : o.data = .set es ep t) (hf : t.fits es.size = true) (hn : es.size = n) (hl : ps.length = n) (hps : ∀ p ∈ ps, p < n) (hne : S ≠ I) (hneT : T ≠ I) (hh : A.handled = none) :
  Walks P w A I [I, S, T] [I] n (fun i v => (ps.map fun p => ((es[p]?).map (·.2)).getD .none)[i]? = some v) (fun i h => (∃ c, h.get? I = some c ∧ itO (.ref T) i S n ep c) ∧ h.get? S = some o ∧ PlacesAt h T ps) where
 sub := fun b hb => by simp at hb; simp [hb]
 frame := fun _ _ _ st hk => ⟨let ⟨c, e, q⟩ := st.1; ⟨c, hk I (by simp) c e, q⟩, hk S (by simp) o st.2.1, let ⟨c, m, e, q⟩ := st.2.2; ⟨c, m, hk T (by simp) c e, q⟩⟩
 item := fun i s Q E hi st hQ => by
  obtain ⟨⟨c, hI, hc⟩, hS, hT⟩ := st
  refine next_tup hd hf hn hl hps hne hneT hh (Nat.le_of_lt hi) hI hc hS hT (fun v h' c' e1 e2 e3 k => ?_) (fun z => absurd z (Nat.ne_of_lt hi))
  exact hQ v h' s.toks e1 ⟨⟨c', e2, e3⟩, k S o hne hS, let ⟨c, m, e, q⟩ := hT; ⟨c, m, k T c hneT e, q⟩⟩ fun b ob hb q => k b ob (fun z => hb (by simp [z])) q
 done := fun s Q E st hQ => by
  obtain ⟨⟨c, hI, hc⟩, hS, hT⟩ := st
  refine next_tup hd hf hn hl hps hne hneT hh (Nat.le_refl _) hI hc hS hT (fun v h' c' e1 e2 e3 k => ?_) (fun _ h' k => hQ h' s.toks fun b ob hb q => k b ob (fun z => hb (by simp [z])) q)
  rw [List.getElem?_eq_none (by rw [List.length_map, hl]; exact Nat.le_refl _)] at e1
  cases e1
 self := fun _ s Q E st hQ => by
  obtain ⟨⟨c, hI, hc⟩, hS⟩ := st
  exact self_it hI hc.1 hQ
end
end SG
namespace SG
open PySem PyProof.Rows
section
variable {P : Program} {w : World} {A : Around} {E : Value → Shared → Prop} {s : Shared} {S : Addr} {ks : List Int}
def Ready (P : Program) (w : World) (A : Around) (S : Addr) (ks : List Int) (s s' : Shared) (I : Addr) : Prop :=
 ∃ (fp : List Addr) (n : Nat) (St : Nat → Heap → Prop) (vs : List Value) (ns : List Int), Walks P w A I fp [I] n (fun i v => vs[i]? = some v) St ∧ St 0 s'.heap ∧ (∀ b ∈ fp, b = S ∨ s.heap.objs.size ≤ b) ∧ (∀ b ∈ fp, b < s'.heap.objs.size) ∧
  s.heap.objs.size ≤ I ∧ vs.length = n ∧ IntsAre vs ns ∧ ns.Perm ks ∧ (∃ c, s'.heap.get? I = some c ∧ c.cls = .type "set_iterator")
theorem ints_of_elems : ∀ {l : List (Int × Value)}, ElemsOf (PySem.intKind P w) l → IntsAre (l.map (·.2)) (l.map fun e => numV e.2)
 | [], _ => .nil
 | e :: l, h => by
  obtain ⟨⟨k, hk, _⟩, _⟩ := h e (List.mem_cons_self ..)
  obtain ⟨t, et⟩ := is_int.mp hk
  show IntsAre (e.2 :: _) (numV e.2 :: _)
  rw [et]
  exact .cons k t (ints_of_elems fun x hx => h x (List.mem_cons_of_mem _ hx))
theorem iter_set {Q : Value → Shared → Prop} (x : SetI P w s.heap S ks) (hQ : ∀ (I : Addr) (s' : Shared), (∀ B : Around, B.handled = none → Ready P w B S ks s s' I) → (∀ b o, s.heap.get? b = some o → s'.heap.get? b = some o) →
   s'.gens = s.gens → s'.os = s.os → s'.toks = s.toks → Q (.ref I) s') : wpAny (model P w) A (pyIter (.ref S)) Q E s := by
 obtain ⟨o, es, ep, t, ho, hex, hd, hel, eks, nd, hb, hf, gt⟩ := x
 have hT : s.TypeIs (.ref S) "set" := ⟨o, ho, hex.1⟩
 refine wpAny_pyIter_slot hT PySem.F.slot_set_iter (wpAny_call_entry PySem.F.slot_set_iter hT F.entry_set_iter ?_ (PySem.F.args_set_iter_1 _))
 unfold Builtin.«frozenset.__iter__»
 refine wpAny_bind (wpAny_of_eq (a := S) rfl ?_)
 unfold Builtin.Frozenset.sizeOf
 refine wpAny_bind (wpAny_bind (wpAny_setEntries_of ho hd hf (wpAny_pure ?_)))
 refine wpAny_bind ?_
 unfold setDrawn
 refine wpAny_bind (wpAny_setState_of ho hd hf ?_)
 dsimp only
 refine wpAny_bind (byText_of (wpAny_pure ?_))
 show wpAny _ _ (if (!byT w && (!t.plain && decide (es.size > 1))) = true then (drawOrder es.size (List.range es.size) >>= fun l => newTuple (l.map fun (i : Nat) => rawInt i) >>= fun first => setEpoch S >>= fun e => newFields "set_iterator" [first, rawInt 0, .ref S, rawInt es.size, rawInt e] >>= fun v => ret v)
  else (pure (rawInt 0) >>= fun first => setEpoch S >>= fun e => newFields "set_iterator" [first, rawInt 0, .ref S, rawInt es.size, rawInt e] >>= fun v => ret v)) _ _ s
 have hSlt : S < s.heap.objs.size := Heap.lt_size ho
 have byInt : ∀ (slotAt : Nat → Nat) (ord : List Value) (ns : List Int), slotAt 0 = 0 → Steps P w S o ep es.size slotAt ord → IntsAre ord ns → ns.Perm ks →
   wpAny (model P w) A.in1 (setEpoch S >>= fun e => newFields "set_iterator" [rawInt 0, rawInt 0, .ref S, rawInt es.size, rawInt e] >>= fun v => ret v)
    (fun fin s' => ∃ r, fin = .done (.ret r) ∧ ∃ T' r', s'.TypeIs r T' ∧ typeLookup (.type T') "__next__" = pure (some r') ∧ Q r s') E s := fun slotAt ord ns h0 K hi hp => by
  refine wpAny_bind (wpAny_setEpoch_of ho hd hf ?_)
  refine wpAny_bind (wpAny_newObj_type (wpAny_pure ⟨_, rfl, "set_iterator", _, ⟨_, Heap.get?_push_size _ rfl, rfl⟩, F.slot_setiter_next.lookup, ?_⟩))
  refine hQ _ _ (fun B hB => ⟨[s.heap.objs.size, S], es.size, _, ord, ns, walks_int K hd hf rfl (Nat.ne_of_lt hSlt) hB, ⟨⟨_, Heap.get?_push_size _ rfl, rfl, ?_⟩, Heap.get?_push_of_some _ ho⟩, fun b hb => ?_, fun b hb => ?_, Nat.le_refl _, K.len, hi, hp, ⟨_, Heap.get?_push_size _ rfl, rfl⟩⟩)
   (fun b o e => Heap.get?_push_of_some _ e) rfl rfl rfl
  ·rw [h0]
   rfl
  ·simp only [List.mem_cons, List.not_mem_nil, or_false] at hb
   rcases hb with e | e
   ·exact .inr (Nat.le_of_eq e.symm)
   ·exact .inl e
  ·simp only [List.mem_cons, List.not_mem_nil, or_false] at hb
   rw [Heap.size_push]
   rcases hb with e | e
   ·rw [e]; exact Nat.lt_succ_self _
   ·rw [e]; exact Nat.lt_succ_of_lt hSlt
 cases hbt : byT w with
 | true =>
  rw [if_neg (by simp)]
  refine wpAny_bind (wpAny_pure ?_)
  refine byInt (fun _ => 0) _ ((pickOrder (w.params.setOrder S ep) es).toList.map fun e => numV e.2) rfl (steps_text hd hf hbt) (ints_of_elems (P := P) (w := w) (hel.perm (pick_perm _ _))) ?_
  rw [eks]
  exact (pick_perm _ _).map _
 | false =>
  obtain ⟨gl, gr⟩ := gt hbt
  cases hdr : (!t.plain && decide (es.size > 1)) with
  | false =>
   have hr : Rise t.place := by
    cases hp : t.plain with
    | true => exact gr hp
    | false =>
     rw [hp] at hdr
     have hps : t.place.size = es.size := by
      simp only [SetTable.fits, Bool.and_eq_true, beq_iff_eq] at hf
      exact hf.1
     have hle : t.place.toList.length ≤ 1 := by
      rw [Array.length_toList]
      simp at hdr
      omega
     unfold Rise
     match hq : t.place.toList, hle with
     | [], _ => exact List.Pairwise.nil
     | [a], _ => exact List.pairwise_singleton _ _
   rw [if_neg (by decide)]
   refine wpAny_bind (wpAny_pure ?_)
   refine byInt (fun i => if i = 0 then 0 else t.place.getD (i - 1) 0 + 1) _ _ (if_pos rfl) (steps_place hd hf hbt hdr gl hr) (ints_of_elems (P := P) (w := w) hel) ?_
   rw [eks]
  | true =>
   rw [if_pos (by decide)]
   refine wpAny_bind (draw_any _ _ _ _ (List.length_range) fun ps d hp => ?_)
   have hpl : ps.length = es.size := by rw [hp.length_eq, List.length_range]
   refine wpAny_bind (wpAny_newTuple ?_ (by rw [List.length_map, hpl]; exact fits_of_scanBound hb))
   have ho' : (s.heap.push { cls := .type "tuple", data := .seq (ps.map fun (i : Nat) => rawInt i).toArray }).get? S = some o := Heap.get?_push_of_some _ ho
   refine wpAny_bind (wpAny_setEpoch_of ho' hd hf ?_)
   refine wpAny_bind (wpAny_newObj_type (wpAny_pure ⟨_, rfl, "set_iterator", _, ⟨_, Heap.get?_push_size _ rfl, rfl⟩, F.slot_setiter_next.lookup, ?_⟩))
   have hps : ∀ p ∈ ps, p < es.size := fun p hm => List.mem_range.mp (hp.mem_iff.mp hm)
   have emap : (ps.map fun p => ((es[p]?).map (·.2)).getD .none).Perm (es.toList.map (·.2)) := by
    have z := hp.map fun p => ((es[p]?).map (·.2)).getD Value.none
    refine z.trans (List.Perm.of_eq ?_)
    refine List.ext_getElem? fun i => ?_
    rw [List.getElem?_map, List.getElem?_map]
    by_cases hi : i < es.size
    ·rw [List.getElem?_eq_getElem (by rw [List.length_range]; exact hi), List.getElem?_eq_getElem (by rw [Array.length_toList]; exact hi)]
     show some (((es[(List.range es.size)[i]'_]?).map (·.2)).getD .none) = _
     rw [List.getElem_range, Array.getElem?_eq_getElem hi]
     rfl
    ·rw [List.getElem?_eq_none (by rw [List.length_range]; omega), List.getElem?_eq_none (by rw [Array.length_toList]; omega)]
     rfl
   have hints : IntsAre (ps.map fun p => ((es[p]?).map (·.2)).getD .none) ((ps.map fun p => ((es[p]?).map (·.2)).getD .none).map numV) := by
    have : ∀ (l : List Value), (∀ v ∈ l, ∃ i t, v = Value.int i t) → IntsAre l (l.map numV) := by
     intro l
     induction l with
     | nil => intro _; exact .nil
     | cons v l ih =>
      intro h
      obtain ⟨i, t, e⟩ := h v (List.mem_cons_self ..)
      subst e
      exact .cons i t (ih fun v hv => h v (List.mem_cons_of_mem _ hv))
    refine this _ fun v hv => ?_
    have hv2 := emap.mem_iff.mp hv
    obtain ⟨e, he, rfl⟩ := List.mem_map.mp hv2
    obtain ⟨⟨k, hk, _⟩, _⟩ := hel e he
    obtain ⟨t, et⟩ := is_int.mp hk
    exact ⟨k, t, et⟩
   have hperm : ((ps.map fun p => ((es[p]?).map (·.2)).getD .none).map numV).Perm ks := by
    have z := emap.map numV
    rw [List.map_map (l := es.toList)] at z
    rw [eks]
    exact z
   have sz1 : (s.heap.push { cls := .type "tuple", data := .seq (ps.map fun (i : Nat) => rawInt i).toArray }).objs.size = s.heap.objs.size + 1 := Heap.size_push ..
   show Q (.ref (s.heap.push { cls := .type "tuple", data := .seq (ps.map fun (i : Nat) => rawInt i).toArray }).objs.size)
    { s with heap := (s.heap.push { cls := .type "tuple", data := .seq (ps.map fun (i : Nat) => rawInt i).toArray }).push { cls := .type "set_iterator", data := .fields #[.ref s.heap.objs.size, .int 0 0, .ref S, .int es.size 0, .int ep 0] }, drawn := d }
   have gT : (s.heap.push { cls := .type "tuple", data := .seq (ps.map fun (i : Nat) => rawInt i).toArray }).get? s.heap.objs.size = some { cls := .type "tuple", data := .seq (ps.map fun (i : Nat) => rawInt i).toArray } := Heap.get?_push_size _ rfl
   have kp : ∀ b o, s.heap.get? b = some o → (s.heap.push { cls := .type "tuple", data := .seq (ps.map fun (i : Nat) => rawInt i).toArray }).get? b = some o := fun b o e => Heap.get?_push_of_some _ e
   generalize s.heap.push { cls := .type "tuple", data := .seq (ps.map fun (i : Nat) => rawInt i).toArray } = H1 at ho' sz1 gT kp ⊢
   have gI : (H1.push { cls := .type "set_iterator", data := .fields #[.ref s.heap.objs.size, .int 0 0, .ref S, .int es.size 0, .int ep 0] }).get? H1.objs.size = some { cls := .type "set_iterator", data := .fields #[.ref s.heap.objs.size, .int 0 0, .ref S, .int es.size 0, .int ep 0] } := Heap.get?_push_size _ rfl
   have kp2 : ∀ b o, H1.get? b = some o → (H1.push { cls := .type "set_iterator", data := .fields #[.ref s.heap.objs.size, .int 0 0, .ref S, .int es.size 0, .int ep 0] }).get? b = some o := fun b o e => Heap.get?_push_of_some _ e
   have sz2 : (H1.push { cls := .type "set_iterator", data := .fields #[.ref s.heap.objs.size, .int 0 0, .ref S, .int es.size 0, .int ep 0] }).objs.size = H1.objs.size + 1 := Heap.size_push ..
   generalize H1.push { cls := .type "set_iterator", data := .fields #[.ref s.heap.objs.size, .int 0 0, .ref S, .int es.size 0, .int ep 0] } = H2 at gI kp2 sz2 ⊢
   have hIs : s.heap.objs.size < H1.objs.size := by rw [sz1]; exact Nat.lt_succ_self _
   refine hQ _ _ (fun B hB => ?_) (fun b o e => kp2 b o (kp b o e)) rfl rfl rfl
   refine ⟨[H1.objs.size, S, s.heap.objs.size], es.size, fun i h => (∃ c, h.get? H1.objs.size = some c ∧ itO (.ref s.heap.objs.size) i S es.size ep c) ∧ h.get? S = some o ∧ PlacesAt h s.heap.objs.size ps, _, _, 
    walks_tup hd hf rfl hpl hps (Nat.ne_of_lt (Nat.lt_trans hSlt hIs)) (Nat.ne_of_lt hIs) hB, ⟨⟨_, gI, rfl, rfl⟩, kp2 _ _ ho', _, _, kp2 _ _ gT, rfl⟩, fun b hb => ?_, fun b hb => ?_, Nat.le_of_lt hIs, by rw [List.length_map, hpl], hints, hperm, ⟨_, gI, rfl⟩⟩
   ·simp only [List.mem_cons, List.not_mem_nil, or_false] at hb
    rcases hb with e | e | e
    ·exact .inr (by rw [e]; exact Nat.le_of_lt hIs)
    ·exact .inl e
    ·exact .inr (Nat.le_of_eq e.symm)
   ·simp only [List.mem_cons, List.not_mem_nil, or_false] at hb
    show b < H2.objs.size
    rw [sz2]
    rcases hb with e | e | e
    ·rw [e]; exact Nat.lt_succ_self _
    ·rw [e]; exact Nat.lt_succ_of_lt (Nat.lt_trans hSlt hIs)
    ·rw [e]; exact Nat.lt_succ_of_lt hIs
end
end SG
namespace SG
open PySem PyProof.Rows
section
variable {P : Program} {w : World} {A : Around} {E : Value → Shared → Prop} {s : Shared} {S : Addr} {ks : List Int}
theorem ints_mono {vs us : List Value} {ns : List Int} (h : IntsAre vs ns) (hl : us.length = vs.length) (hp : ∀ (j : Nat) (v : Value), us[j]? = some v → vs[j]? = some v) : us = vs := by
 refine List.ext_getElem? fun i => ?_
 cases e : us[i]? with
 | some v => exact (hp i v e).symm
 | none =>
  have := List.getElem?_eq_none_iff.mp e
  exact (List.getElem?_eq_none (by omega)).symm
theorem hint_set (hT : s.TypeIs (.ref S) "set") {Q : Bool → Shared → Prop} (h : Q false s) : wpAny (model P w) A (Builtin.List.listLengthHint (.ref S)) Q E s := by
 unfold Builtin.List.listLengthHint
 refine wpAny_bind (wpAny_specialOf hT PySem.F.slot_set_len.lookup ?_)
 wp_delta
 refine wpAny_bind (wpAny_isInstance hT (b := true) (by rw [isSubtype_type]; kernel_rfl) ?_)
 show wpAny _ A (typeOf (Value.ref S) >>= _) _ _ _
 refine wpAny_bind (wpAny_typeOf hT ?_)
 exact wpAny_pure h
theorem collect_set {Q : List Value → Shared → Prop} (hh : A.handled = none) (x : SetI P w s.heap S ks)
  (hQ : ∀ (vs : List Value) (ns : List Int) (s' : Shared), IntsAre vs ns → ns.Perm ks → (∀ b o, s.heap.get? b = some o → s'.heap.get? b = some o) → s'.gens = s.gens → s'.os = s.os → s.heap.objs.size ≤ s'.heap.objs.size → Q vs s') :
  wpAny (model P w) A (collect (.ref S)) Q E s := by
 have hSlt : S < s.heap.objs.size := by
  obtain ⟨o, es, ep, t, ho, _⟩ := x
  exact Heap.lt_size ho
 have hlen := x.len
 unfold collect
 refine wpAny_bind (wpAny_runValue (codeAny_builtin PySem.F.entry_proto_collect ?_))
 rw [Around.under_plainId PySem.F.plain_proto_collect _]
 show wpAny _ A.in1 (newList [] >>= fun l => again (.builtin "list.__iadd__" ⟨[l, .ref S], []⟩)) _ _ s
 refine wpAny_bind (wpAny_newObj_type ?_)
 refine wpAny_pure ⟨plainId_quiet PySem.F.plain_list_iadd _, codeAny_builtin PySem.F.entry_list_iadd ?_⟩
 rw [Around.under_plainId PySem.F.plain_list_iadd _]
 show wpAny _ A.in1 (Builtin.List.listExtendWith (.ref s.heap.objs.size) (.ref S) (.ref s.heap.objs.size)) _ _ _
 have hS₁ : (s.heap.push { cls := .type "list", data := .seq ([] : List Value).toArray }).get? s.heap.objs.size = some { cls := .type "list", data := .seq ([] : List Value).toArray } := Heap.get?_push_size _ rfl
 have kp1 : ∀ b o, s.heap.get? b = some o → (s.heap.push { cls := .type "list", data := .seq ([] : List Value).toArray }).get? b = some o := fun b o e => Heap.get?_push_of_some _ e
 have sz1 : (s.heap.push { cls := .type "list", data := .seq ([] : List Value).toArray }).objs.size = s.heap.objs.size + 1 := Heap.size_push ..
 have x1 : SetI P w (s.heap.push { cls := .type "list", data := .seq ([] : List Value).toArray }) S ks := x.at fun o e => kp1 _ _ e
 show wpAny _ _ _ _ _ { s with heap := s.heap.push { cls := .type "list", data := .seq ([] : List Value).toArray } }
 generalize s.heap.push { cls := .type "list", data := .seq ([] : List Value).toArray } = H1 at hS₁ kp1 sz1 x1 ⊢
 unfold Builtin.List.listExtendWith
 have hT : Shared.TypeIs { s with heap := H1 } (.ref S) "set" := by
  obtain ⟨o, es, ep, t, ho, hex, _⟩ := x1
  exact ⟨o, ho, hex.1⟩
 refine wpAny_bind (wpAny_typeOf hT ?_)
 have h1 : Builtin.List.listSameRef (.ref s.heap.objs.size) (.ref S) = false := by
  simp [Builtin.List.listSameRef]
  exact Nat.ne_of_gt hSlt
 have h2 : (Value.type "set" == Value.type "list") = false := by decide
 have h3 : (Value.type "set" == Value.type "tuple") = false := by decide
 simp only [h1, h2, h3, Bool.or_false, Bool.false_eq_true, if_false]
 refine wpAny_bind (iter_set x1 fun I s2 hrd hk hg hos htk => ?_)
 have hT2 : s2.TypeIs (.ref S) "set" := by
  obtain ⟨o, es, ep, t, ho, hex, _⟩ := x1
  exact ⟨o, hk _ _ ho, hex.1⟩
 refine wpAny_bind (wpAny_holding (hint_set hT2 ?_))
 show wpAny _ A.in1 (rule "list.extend.makes-room" >>= fun _ => Builtin.List.listTouch (.ref s.heap.objs.size) >>= fun _ =>
  again (.builtin "list.extend.loop" ⟨[.ref s.heap.objs.size, .ref I, .ref s.heap.objs.size], []⟩)) _ _ _
 refine wpAny_bind (wpAny_rule ?_)
 obtain ⟨fp, n, St, vs, ns, W, st0, hfp, hfl, hI, hvn, hints, hperm, _⟩ := hrd A.in1 hh
 have hS₂ := hk _ _ hS₁
 refine wpAny_bind ?_
 show wpAny _ A.in1 (updateSeq s.heap.objs.size (·.push .none) >>= fun _ => updateSeq s.heap.objs.size (·.pop)) _ _ _
 refine wpAny_bind (wpAny_updateSeq hS₂ rfl ?_)
 have hS₃ := Heap.get?_update_self (Obj.mapSeq (·.push Value.none)) hS₂ rfl
 refine wpAny_updateSeq hS₃ rfl ?_
 have hS₄ := Heap.get?_update_self (Obj.mapSeq (·.pop)) hS₃ rfl
 have oth : ∀ b o, b ≠ s.heap.objs.size → s2.heap.get? b = some o →
   ((s2.heap.update s.heap.objs.size (Obj.mapSeq (·.push Value.none))).update s.heap.objs.size (Obj.mapSeq (·.pop))).get? b = some o :=
  fun b o hb e => (Heap.get?_update_other _ _ (Ne.symm hb)).trans ((Heap.get?_update_other _ _ (Ne.symm hb)).trans e)
 have hSf : s.heap.objs.size ∉ fp := fun hm => by
  rcases hfp _ hm with e | e
  ·exact absurd e (Nat.ne_of_gt hSlt)
  ·have e' : H1.objs.size ≤ s.heap.objs.size := e
   omega
 have hnl : n ≤ sizeLine := by
  have e1 : ns.length = ks.length := hperm.length_eq
  have e2 := hints.length
  rw [← hvn, e2, e1]
  exact fits_of_scanBound hlen
 refine wpAny_pure ⟨plainId_quiet PySem.F.plain_extend_loop _, codeAny_extend_loopS W.toS hnl _ hSf _ n 0 _ _ _ rfl (Nat.zero_le _) (W.frame 0 s2.heap _ st0 fun b hb o e => oth b o (fun z => hSf (z ▸ hb)) e) hS₄ (ItemsOf.nil _) fun s' acc' c' hm hS' hacc => ?_⟩
 show wpAny _ A (load s.heap.objs.size >>= _) _ _ s'
 refine wpAny_bind (wpAny_load hS' ?_)
 refine wpAny_pure ?_
 have ev : acc'.toList = vs := ints_mono hints (by rw [Array.length_toList, hacc.1, hvn]) fun j v e => hacc.2 j v (by rw [← Array.getElem?_toList]; exact e)
 show Q acc'.toList s'
 rw [ev]
 refine hQ vs ns s' hints hperm (fun b ob e => hm.heap b ob (fun hb => ?_) (oth b ob ?_ (hk b ob (kp1 b ob e)))) (hm.gens.trans hg) (hm.os.trans hos) (Nat.le_of_lt (Heap.lt_size hS'))
 ·have hlt := Heap.lt_size e
  rcases List.mem_cons.mp hb with h | h
  ·exact absurd hlt (h ▸ Nat.lt_irrefl _)
  ·rw [List.mem_singleton.mp h] at hlt
   have hI' : H1.objs.size ≤ I := hI
   rw [sz1] at hI'
   exact absurd hlt (Nat.not_lt.mpr (Nat.le_of_succ_le hI'))
 ·exact Nat.ne_of_lt (Heap.lt_size e)
theorem sorted_set {Q : Value → Shared → Prop} (hh : A.handled = none) (x : SetI P w s.heap S ks)
  (hQ : ∀ (l : Addr) (out : List Value) (ns : List Int) (ep : Nat) (s' : Shared), IntsAre out ns → ns.Perm ks → ns.Pairwise (· ≤ ·) → s.heap.objs.size ≤ l → s'.heap.get? l = some { cls := .type "list", data := .seq out.toArray ep } →
   (∀ b o, s.heap.get? b = some o → s'.heap.get? b = some o) → s'.gens = s.gens → s'.os = s.os → Q (.ref l) s') :
  wpAny (model P w) A (call (.builtin "sorted") [.ref S]) Q E s := by
 have hlen := x.len
 refine Calls.call_function_entry kind_sorted plain_sorted entry_sorted (args_sorted1 _) ?_
 unfold Builtin.«sorted»
 refine wpAny_bind (m := checkCount "sorted" 1 1 _) (wpAny_pure ?_)
 refine wpAny_bind (collect_set hh x fun vs ns s2 hi hp hk hg hos hsz => ?_)
 have hvl : vs.length ≤ sizeLine := by
  rw [hi.length, hp.length_eq]
  exact fits_of_scanBound hlen
 refine wpAny_bind (wpAny_newList ?_ hvl)
 have hoL : (s2.heap.push (seqObj "list" vs.toArray 0)).get? s2.heap.objs.size = some (seqObj "list" vs.toArray 0) := Heap.get?_push_size _ rfl
 show wpAny _ _ _ _ _ { s2 with heap := s2.heap.push (seqObj "list" vs.toArray 0) }
 refine wpAny_bind (wpAny_holding (wpAny_call_entry slot_list_sort ⟨_, hoL, rfl⟩ entry_list_sort (list_sort_treeAny hoL hi hvl fun out ns' a1 a2 a3 => ⟨_, rfl, ?_⟩) (args_list_sort _)))
 refine wpAny_pure ⟨_, rfl, ?_⟩
 obtain ⟨ep, he⟩ := sortedHeap_at (vs := vs) (out := out) hoL
 refine hQ _ out.toList ns' ep _ a1 (a2.trans hp) a3 hsz (by rw [Array.toArray_toList]; exact he) (fun b o e => ?_) hg hos
 have e2 := Heap.get?_push_of_some (seqObj "list" vs.toArray 0) (hk b o e)
 exact (sortedHeap_old (Nat.ne_of_lt (Heap.lt_size (hk b o e))) (Heap.lt_size e2)).trans e2
end
end SG
namespace L2
open PySem PySem.Spec PyProof.Rows
def setHO (P : Program) (w : World) (p : Addr) (ks : List Int) : HO := .ext fun h => SG.SetI P w h p ks
def rSetOf (P : Program) (w : World) (K : PySem.W.Frag) : List V → Hp → VK → Prop := fun vs H Q => ∃ (a : Addr) (ns : List Int), vs = [V.ref a] ∧ SqL K H a (ns.map V.int) ∧ ns.length + 1 < 4096 ∧
 ∀ (ks : List Int) (p : Addr), (∀ z, z ∈ ks ↔ z ∈ ns) → H p = none → Q (.ref p) (upd H p (setHO P w p ks))
def rSortedSet (P : Program) (w : World) : List V → Hp → VK → Prop := fun vs H Q => ∃ (p : Addr) (ks : List Int), vs = [V.ref p] ∧ H p = some (setHO P w p ks) ∧
 ∀ (ns : List Int) (q : Addr), (∀ z, z ∈ ns ↔ z ∈ ks) → ns.Pairwise (· < ·) → H q = none → Q (.ref q) (upd H q (.lst (ns.map V.int)))
theorem lt_of_le_nodup : ∀ {l : List Int}, l.Pairwise (· ≤ ·) → l.Nodup → l.Pairwise (· < ·)
 | [], _, _ => .nil
 | a :: l, h1, h2 => by
  obtain ⟨x1, x2⟩ := List.pairwise_cons.mp h1
  obtain ⟨y1, y2⟩ := List.nodup_cons.mp h2
  refine List.pairwise_cons.mpr ⟨fun b hb => ?_, lt_of_le_nodup x2 y2⟩
  have := x1 b hb
  have : a ≠ b := fun e => y1 (e ▸ hb)
  omega
section
variable {X : Cx}
theorem cr_setOf (hc : X.calm = true) : CallR X (.type "set") (rSetOf X.prog X.w X.K) := by
 intro pins s σ H vs us Q I r h
 obtain ⟨a, ns, rfl, hs, hl, q⟩ := h
 obtain ⟨its, rv, hli, _⟩ := I.list hs
 rw [Vals.ref1 r]
 have hi := rv.ints
 have hn := hi.length
 refine SG.call_set (I.ok.hd hc) hli.isList (by simpa using hi) (by rw [List.size_toArray, hn]; exact hl) fun h' tk ks hS hz _ hk hlt => ?_
 have hfr : H s.heap.objs.size = none := I.hok.fresh (Nat.le_refl _)
 refine ⟨.ref _, upd H s.heap.objs.size (setHO X.prog X.w s.heap.objs.size ks), I.laid (t' := tk) (fun b u e => hk b u (Heap.lt_size e) e) (Nat.le_refl _) ⟨hS, ?_, fun h1 h2 x k => x.at fun o e => k o e⟩, rfl, q ks _ hz hfr⟩
 obtain ⟨o, es, ep, t, ho, _⟩ := hS
 exact ⟨o, ho⟩
theorem Inv.laidD {pins : List (Addr × Obj)} {σ : St} {H : Hp} {s s' : Shared} {a : Addr} {o : HO} (I : Inv X pins σ H s) (k : ∀ b u, s.heap.get? b = some u → s'.heap.get? b = some u) (hp : s.heap.objs.size ≤ a)
  (new : ObjOk X.prog X.w (upd H a o) s'.heap a o) (hg : s'.gens = s.gens) (ho : s'.os = s.os) : Inv X pins σ (upd H a o) s' := by
 obtain ⟨h', g', d', t', os'⟩ := s'
 cases hg
 cases ho
 have u : Un (frs X.stack) [] H (upd H a o) s.heap h' := Un.laid k hp (I.hok.fresh hp)
 exact I.call (d' := d') (g' := s.gens) (t' := t') u (I.hok.laid k hp new) I.bare (fun _ z => nomatch z)
theorem cr_sortedSet (hc : X.calm = true) : CallR X (.builtin "sorted") (rSortedSet X.prog X.w) := by
 intro pins s σ H vs us Q I r h
 obtain ⟨p, ks, rfl, hp, q⟩ := h
 rw [Vals.ref1 r]
 obtain ⟨hS, _, _⟩ := (show ObjOk X.prog X.w H s.heap p (setHO X.prog X.w p ks) from I.hok p _ hp)
 refine SG.sorted_set (I.ok.hd hc) hS fun l out ns ep s' hi hpm hsrt hl he hk hg ho => ?_
 have hlen : (ns.map V.int).length ≤ sizeLine := by
  rw [List.length_map, hpm.length_eq]
  exact fits_of_scanBound hS.len
 have hnd : ks.Nodup := by
  obtain ⟨_, _, _, _, _, _, _, _, _, nd, _⟩ := hS
  exact nd
 exact ⟨.ref l, upd H l (.lst (ns.map V.int)), I.laidD hk hl ⟨hlen, out, ep, vals_of_ints hi, he⟩ hg ho, rfl, q ns l (fun z => hpm.mem_iff) (lt_of_le_nodup hsrt (hpm.nodup_iff.mpr hnd)) (I.hok.fresh hl)⟩
end
end L2
namespace L2
open PySem PySem.Spec PyProof.Rows
def CDivB (i j : Int) : Prop := 0 < j ∧ j < 2 ^ 64
theorem noPy {x y : Int} (h0 : 0 < y) (h : y < 2 ^ 64) : Builtin.divisionGoesByPylong x y = false := by
 refine PyProof.noPylong_of_log2 ?_
 have h1 : y.natAbs ≠ 0 := by omega
 have h64 : y.natAbs.log2 < 64 := (Nat.log2_lt h1).mpr (by omega)
 omega
section
variable {X : Cx}
theorem op_fdivB : OpR X (binaryOp .FloorDiv) (rI CDivB fun i j => .int (i / j)) := opI fun i j _ _ _ _ _ hc q => by
 have h1 : (0 : Int) < j := hc.1
 exact floordiv_int (by omega) (by rw [Int.fdiv_eq_ediv_of_nonneg i (by omega)]; exact q) (.inl (noPy hc.1 hc.2))
end
def RgB (i j c : Int) (n : Nat) : Prop := 0 < c ∧ c < 2 ^ 62 ∧ -(2 ^ 62) ≤ i ∧ i < 2 ^ 62 ∧ -(2 ^ 62) ≤ j ∧ j < 2 ^ 62 ∧ Builtin.Range.rangeSize i j c = n
def iRngB (ta : TA) : TI := fun σ H R => ta σ H fun vs H1 => ∃ (i j c : Int) (n : Nat), vs = [.int i, .int j, .int c] ∧ RgB i j c n ∧ R (Itc i c n) H1
theorem small_B {i j c : Int} {n : Nat} (h : RgB i j c n) : Builtin.Range.small i j c = true := by
 obtain ⟨h1, h2, h3, h4, h5, h6, h7⟩ := h
 have hs : 0 ≤ Builtin.Range.rangeSize i j c ∧ Builtin.Range.rangeSize i j c < 2 ^ 63 := by
  unfold Builtin.Range.rangeSize
  rw [if_pos h1]
  by_cases hij : i < j
  ·rw [if_pos hij]
   have e1 := Int.ediv_nonneg (show 0 ≤ j - i - 1 by omega) (Int.le_of_lt h1)
   have e2 := Int.ediv_le_self c (show 0 ≤ j - i - 1 by omega)
   omega
  ·rw [if_neg hij]
   omega
 have fits : ∀ x : Int, -(2 ^ 63) ≤ x → x < 2 ^ 63 → Builtin.Range.rangeFitsLong x = true := fun x a b => by
  unfold Builtin.Range.rangeFitsLong
  rw [decide_eq_true a, decide_eq_true b]
  rfl
 unfold Builtin.Range.small
 rw [fits i (by omega) (by omega), fits j (by omega) (by omega), fits c (by omega) (by omega), fits _ (by omega) hs.2, if_pos h1, fits (j + (c - 1)) (by omega) (by omega)]
 simp
section
variable {X : Cx} {tg : Expr}
theorem pi_rangeB {a b c : Expr} {ta : TA} {p pos : Pos} (hg : Gl X "range") (hm : X.mg "range" = none) (ha : PA X [a, b, c] ta)
  (hs : starEach [a, b, c] X.env = (false, eval a X.env) :: starEach [b, c] X.env := by rfl) (hpl : (backTo pos (starEach [b, c] X.env)).any (·.1) = false := by rfl) :
  PI X tg (.Call (.Name "range" p) [a, b, c] [] pos) (iRngB ta) := by
 intro pins s σ H R I h
 refine Call_ (ld_blt I hg hm boot_range (PyProof.Rows.callWith_type1 (thn (ha pos pins s σ H _ I h) fun us s1 ⟨vs, H1, I1, r1, q1⟩ => ?_) hs hpl))
 obtain ⟨i, j, k, n, e, hB, q⟩ := q1
 have c2 := small_B hB
 obtain ⟨c0, c1, _, _, _, _, c3⟩ := hB
 subst e
 cases r1 with
 | cons r rr =>
  cases rr with
  | cons r' rr =>
   cases rr with
   | cons r'' rr =>
    cases rr
    obtain ⟨t, rfl⟩ := r
    obtain ⟨t', rfl⟩ := r'
    obtain ⟨t'', rfl⟩ := r''
    refine call_range_3 (by omega) ?_ (.inl (noPy c0 (by omega)))
    refine wpAny_pyIter_range (IsRange.new ..) c2 ?_
    have I2 : Inv X pins σ H1 { s1 with heap := s1.heap.push { cls := .type "range", data := .fields #[.int i t, .int j t', .int k t''] } } := I1.kept (t' := s1.toks) fun b o e => Heap.get?_push_of_some _ e
    refine pi_one (tk := s1.toks) I2 _ (turn_rangeC _ i k n) ?_ q
    have e1 : i + ((0 : Nat) : Int) * k = i := by simp
    have e2 : (n : Int) - ((0 : Nat) : Int) = Builtin.Range.rangeSize i j k := by rw [c3]; simp
    show IsRangeIter _ _ (i + ((0 : Nat) : Int) * k) ((n : Int) - ((0 : Nat) : Int)) k
    rw [e1, e2]
    exact Heap.get?_push_size _ rfl
end
theorem lc_rangeC {lo c : Int} {n : Nat} {g : TG} {tt : TT} {te : TE} {vs : List Nat} {σ : L2.St} {H1 : Hp} {D : Addr} {Qd : Hp → Prop} (Pv : Nat → Hp → Prop) (h0 : Pv 0 (upd H1 D (.lst [])))
  (hs : ∀ i H, i < n → Pv i H → g (.int (lo + (i : Nat) * c)) (wipe σ vs) H fun σ2 H2 => wipe σ2 vs = wipe σ vs ∧ tt σ2 H2 fun b H3 =>
   if b = true then te σ2 H3 fun y H4 => ∃ acc, H4 D = some (.lst acc) ∧ acc.length < sizeLine ∧ Pv (i + 1) (upd H4 D (.lst (acc ++ [y]))) else Pv (i + 1) H3) (hd : ∀ H, Pv n H → Qd H) :
  ∃ W : Nat → Nat → Hp → Prop, (∃ m, W 0 m (upd H1 D (.lst []))) ∧ ∀ i m H, W i m H →
   ((Itc lo c n).stop i H ∧ Qd H) ∨ ((Itc lo c n).go i H ∧ ∃ Nx : Hp → Prop, (∀ H', Nx H' → ∃ m', m' < m ∧ W (i + 1) m' H') ∧ ∀ x H', (Itc lo c n).yld i H x H' → g x (wipe σ vs) H' fun σ2 H2 => wipe σ2 vs = wipe σ vs ∧ tt σ2 H2 fun b H3 =>
    if b = true then te σ2 H3 fun y H4 => ∃ acc, H4 D = some (.lst acc) ∧ acc.length < sizeLine ∧ Nx (upd H4 D (.lst (acc ++ [y]))) else Nx H3) := by
 refine ⟨fun i m H => m = n - i ∧ i ≤ n ∧ Pv i H, ⟨n, by simp, Nat.zero_le _, h0⟩, ?_⟩
 rintro i m H ⟨rfl, hi, p⟩
 by_cases hlt : i < n
 ·refine .inr ⟨hlt, Pv (i + 1), fun H' p' => ⟨n - (i + 1), by omega, rfl, hlt, p'⟩, fun x H' y => ?_⟩
  obtain ⟨e, y⟩ := y
  subst e y
  exact hs i _ hlt p
 ·have e : i = n := by omega
  subst e
  exact .inl ⟨Nat.le_refl _, hd H p⟩
def rSetOf2 (P : Program) (w : World) (K : PySem.W.Frag) : List V → Hp → VK → Prop := fun vs H Q => ∃ (a : Addr) (ns : List Int), vs = [V.ref a] ∧ SqL K H a (ns.map V.int) ∧ ns.length + 1 < 4096 ∧
 ∀ (ks : List Int) (p : Addr) (H' : Hp), (∀ z, z ∈ ks ↔ z ∈ ns) → Same H H' → H' p = some (setHO P w p ks) → Q (.ref p) H'
def rSortedSet2 (P : Program) (w : World) : List V → Hp → VK → Prop := fun vs H Q => ∃ (p : Addr) (ks : List Int), vs = [V.ref p] ∧ H p = some (setHO P w p ks) ∧
 ∀ (ns : List Int) (q : Addr) (H' : Hp), (∀ z, z ∈ ns ↔ z ∈ ks) → ns.Pairwise (· < ·) → Same H H' → H' q = some (.lst (ns.map V.int)) → Q (.ref q) H'
theorem same_new {H : Hp} {p : Addr} {o : HO} (n : H p = none) : Same H (upd H p o) := fun b u e => by
 rw [upd_ne (ne_of_none e n)]
 exact e
theorem CallR.imp {X : Cx} {f : Value} {r r' : List V → Hp → VK → Prop} (h : CallR X f r) (k : ∀ vs H Q, r' vs H Q → r vs H Q) : CallR X f r' := fun pins s σ H xs us Q I rv q => h pins s σ H xs us Q I rv (k _ _ _ q)
theorem cr_setOf2 {X : Cx} (hc : X.calm = true) : CallR X (.type "set") (rSetOf2 X.prog X.w X.K) := (cr_setOf hc).imp fun vs H Q ⟨a, ns, h1, h2, h3, k⟩ => ⟨a, ns, h1, h2, h3, fun ks p h4 h5 => k ks p _ h4 (same_new h5) upd_same⟩
theorem cr_sortedSet2 {X : Cx} (hc : X.calm = true) : CallR X (.builtin "sorted") (rSortedSet2 X.prog X.w) := (cr_sortedSet hc).imp fun vs H Q ⟨p, ks, h1, h2, k⟩ => ⟨p, ks, h1, h2, fun ns q h4 h5 h6 => k ns q _ h4 h5 (same_new h6) upd_same⟩
def tCallV (P : Program) (w : World) (K : PySem.W.Frag) (mg : Str → Option Value) (base : Heap) (k i : Nat) (t : TA) : TE := fun σ H Q => ∃ f : Addr, σ[i]? = some (some (.ref f)) ∧ PySem.W.keepIn K (.ref f) = true ∧
 t σ H fun vs H1 => ∃ (sp : Sp) (fd : FuncData) (ps : List Str), FnOk P w K mg base CX0 k f fd ps sp ∧ Binds K fd ps [] ∧ sp vs H1 Q E0
theorem pe_callV {X : Cx} {k i : Nat} {x : Str} {p pos : Pos} {e : Expr} {es : List Expr} {t : TA} (hr : Room k X.A) (ha : PA X (e :: es) t) (hN : X.N[i]? = some x := by rfl) (hv : Vis X.env.scope x := by first | exact Or.inl rfl | exact Or.inr (Or.inl rfl) | exact Or.inr (Or.inr rfl)) (hd : (x == ("__debug__" : Str)) = false := by decide)
  (hcd : (x == ("__classdict__" : Str)) = false := by decide) (he : starEach (e :: es) X.env = (false, eval e X.env) :: starEach es X.env := by rfl) (hpl : (backTo pos (starEach es X.env)).any (·.1) = false := by rfl) :
  PE X (.Call (.Name x p) (e :: es) [] pos) (tCallV X.prog X.w X.K X.mg X.base k i t) := by
 intro pins s σ H Q I h
 obtain ⟨f, hσ, hk, h⟩ := h
 refine wpAny_Call_Name_kw (thn ((pe_var (X := X) (pos := p) hN hv hd hcd) pins s σ H (fun v H1 => v = .ref f ∧ H1 = H) I ⟨_, hσ, rfl, rfl⟩) fun u s0 ⟨v, H0, I0, r0, e1, e2⟩ => ?_)
 subst e1 e2
 cases r0
 refine PySem.W.callWith_K (h₀ := X.base) I0.ok.mod.kin hk (thn (ha pos pins s0 σ H0 _ I0 h) fun us s1 ⟨vs, H1, I1, r, q⟩ => ⟨I1.kIn, ?_⟩) he hpl
 obtain ⟨sp, fd, ps, F, hb, q⟩ := q
 exact run_fn (dvs := []) (ds := []) F hr hb .nil pass0 I1 r (by rw [List.append_nil]; exact q)
theorem ifJoin {ta tb : TE} {σ : L2.St} {H : Hp} {Q : VK} {b : Bool} {v : V} (h1 : b = true → ∀ Q' : VK, Q' v H → ta σ H Q') (h2 : b = false → ∀ Q' : VK, Q' v H → tb σ H Q') (k : Q v H) : if b = true then ta σ H Q else tb σ H Q := by
 cases b with
 | true => exact iteT (h1 rfl Q k)
 | false => exact iteF (h2 rfl Q k)
theorem ifJoinS {t u : TS} {D : Ends} {σ : L2.St} {H : Hp} {b : Bool} (σ' : L2.St) (H' : Hp) (h1 : b = true → ∀ D' : Ends, D'.nx σ' H' → t D' σ H) (h2 : b = false → ∀ D' : Ends, D'.nx σ' H' → u D' σ H) (k : D.nx σ' H') : if b = true then t D σ H else u D σ H := by
 cases b with
 | true => exact iteT (h1 rfl D k)
 | false => exact iteF (h2 rfl D k)
theorem ifAnd {tb : TE} {σ : L2.St} {H : Hp} {Q : VK} {c : Bool} (c2 : Bool) (h : c = true → ∀ Q' : VK, Q' (.bl c2) H → tb σ H Q') (k : Q (.bl (c && c2)) H) : if c = true then tb σ H Q else Q (.bl false) H := by
 cases c with
 | true => exact iteT (h rfl Q k)
 | false => exact iteF k
theorem ifAndT {u : TT} {σ : L2.St} {H : Hp} {Q : Bool → Hp → Prop} {c : Bool} (c2 : Bool) (h : c = true → ∀ Q' : Bool → Hp → Prop, Q' c2 H → u σ H Q') (k : Q (c && c2) H) : if c = true then u σ H Q else Q false H := by
 cases c with
 | true => exact iteT (h rfl Q k)
 | false => exact iteF k
theorem ifOrT {u : TT} {σ : L2.St} {H : Hp} {Q : Bool → Hp → Prop} {c : Bool} (c2 : Bool) (h : c = false → ∀ Q' : Bool → Hp → Prop, Q' c2 H → u σ H Q') (k : Q (c || c2) H) : if c = true then Q true H else u σ H Q := by
 cases c with
 | true => exact iteT k
 | false => exact iteF (h rfl Q k)
theorem of_eqI {x y : Int} (h : decide (V.int x = V.int y) = true) : x = y := by
 have := of_decide_eq_true h
 injection this
theorem of_neI {x y : Int} (h : decide (V.int x = V.int y) = false) : x ≠ y := fun e => by
 subst e
 exact absurd rfl (of_decide_eq_false h)
theorem dec_eqI (x y : Int) : decide (V.int x = V.int y) = decide (x = y) := by
 by_cases h : x = y
 ·subst h
  rw [decide_eq_true rfl, decide_eq_true rfl]
 ·rw [decide_eq_false h, decide_eq_false fun q => h (by injection q)]
end L2
namespace KM
open Vadomb
def Up (l : List Int) : Prop := l.Pairwise (· < ·)
theorem up_ext : ∀ {l k : List Int}, Up l → Up k → (∀ z, z ∈ l ↔ z ∈ k) → l = k
 | [], [], _, _, _ => rfl
 | [], b :: k, _, _, h => absurd ((h b).mpr (List.mem_cons_self ..)) (by simp)
 | a :: l, [], _, _, h => absurd ((h a).mp (List.mem_cons_self ..)) (by simp)
 | a :: l, b :: k, hl, hk, h => by
  obtain ⟨l1, l2⟩ := List.pairwise_cons.mp hl
  obtain ⟨k1, k2⟩ := List.pairwise_cons.mp hk
  have e : a = b := by
   rcases List.mem_cons.mp ((h a).mp (List.mem_cons_self ..)) with e | m
   ·exact e
   ·rcases List.mem_cons.mp ((h b).mpr (List.mem_cons_self ..)) with e | m'
    ·exact e.symm
    ·have := k1 a m
     have := l1 b m'
     omega
  subst e
  have ih := up_ext l2 k2 (fun z => ⟨fun m => ?_, fun m => ?_⟩)
  ·rw [ih]
  ·rcases List.mem_cons.mp ((h z).mp (List.mem_cons_of_mem _ m)) with e | m'
   ·have := l1 z m
    omega
   ·exact m'
  ·rcases List.mem_cons.mp ((h z).mpr (List.mem_cons_of_mem _ m)) with e | m'
   ·have := k1 z m
    omega
   ·exact m'
theorem mem_putIn (n z : Int) : ∀ l : List Int, z ∈ putIn n l ↔ z = n ∨ z ∈ l
 | [] => by simp [putIn]
 | x :: l => by
  unfold putIn
  split
  ·simp
  ·split
   ·rename_i e
    subst e
    simp
   ·rw [List.mem_cons, mem_putIn n z l, List.mem_cons]
    constructor
    ·rintro (h | h | h)
     ·exact .inr (.inl h)
     ·exact .inl h
     ·exact .inr (.inr h)
    ·rintro (h | h | h)
     ·exact .inr (.inl h)
     ·exact .inl h
     ·exact .inr (.inr h)
theorem up_putIn (n : Int) : ∀ {l : List Int}, Up l → Up (putIn n l)
 | [], _ => by simp [putIn, Up]
 | x :: l, h => by
  obtain ⟨h1, h2⟩ := List.pairwise_cons.mp h
  unfold putIn
  split
  ·rename_i hlt
   refine List.pairwise_cons.mpr ⟨fun z m => ?_, h⟩
   rcases List.mem_cons.mp m with e | m'
   ·omega
   ·have := h1 z m'
    omega
  ·split
   ·exact h
   ·refine List.pairwise_cons.mpr ⟨fun z m => ?_, up_putIn n h2⟩
    rcases (mem_putIn n z l).mp m with e | m'
    ·omega
    ·exact h1 z m'
theorem fold_putIn : ∀ (l k : List Int), Up k → Up (l.foldl (fun k n => putIn n k) k) ∧ ∀ z, z ∈ l.foldl (fun k n => putIn n k) k ↔ z ∈ l ∨ z ∈ k
 | [], k, h => ⟨h, fun z => by simp⟩
 | a :: l, k, h => by
  obtain ⟨h1, h2⟩ := fold_putIn l (putIn a k) (up_putIn a h)
  refine ⟨h1, fun z => ?_⟩
  show z ∈ l.foldl (fun k n => putIn n k) (putIn a k) ↔ _
  rw [h2, mem_putIn, List.mem_cons]
  constructor
  ·rintro (h | h | h)
   ·exact .inl (.inr h)
   ·exact .inl (.inl h)
   ·exact .inr h
  ·rintro ((h | h) | h)
   ·exact .inr (.inl h)
   ·exact .inl h
   ·exact .inr (.inr h)
theorem up_rising (l : List Int) : Up (rising l) := (fold_putIn l [] List.Pairwise.nil).1
theorem mem_rising (l : List Int) (z : Int) : z ∈ rising l ↔ z ∈ l := by
 have := (fold_putIn l [] List.Pairwise.nil).2 z
 simpa [rising] using this
theorem rising_of_up {l k : List Int} (h : Up k) (e : ∀ z, z ∈ k ↔ z ∈ l) : rising l = k := up_ext (up_rising l) h fun z => (mem_rising l z).trans (e z).symm
theorem filter_in {l : List Int} (h : ∀ z ∈ l, inBound z = true) : l.filter inBound = l := List.filter_eq_self.mpr h
theorem gcd_fold (a : Int) : ∀ (l : List Int) (g : Nat), l.foldl (fun g n => Nat.gcd g (n - a).natAbs) g ∣ g ∧ ∀ z ∈ l, ((l.foldl (fun g n => Nat.gcd g (n - a).natAbs) g : Nat) : Int) ∣ z - a
 | [], g => ⟨Nat.dvd_refl _, fun z h => by cases h⟩
 | b :: l, g => by
  obtain ⟨h1, h2⟩ := gcd_fold a l (Nat.gcd g (b - a).natAbs)
  refine ⟨Nat.dvd_trans h1 (Nat.gcd_dvd_left _ _), fun z m => ?_⟩
  rcases List.mem_cons.mp m with e | m'
  ·subst e
   exact Int.dvd_natAbs.mp (Int.natCast_dvd_natCast.mpr (Nat.dvd_trans h1 (Nat.gcd_dvd_right _ _)))
  ·exact h2 z m'
theorem dvd_fold (a : Int) {d : Nat} : ∀ (l : List Int) (g : Nat), d ∣ g → (∀ z ∈ l, (d : Int) ∣ z - a) → d ∣ l.foldl (fun g n => Nat.gcd g (n - a).natAbs) g
 | [], g, h, _ => h
 | b :: l, g, h, h2 => dvd_fold a l _ (Nat.dvd_gcd h (Int.natCast_dvd_natCast.mp (Int.dvd_natAbs.mpr (h2 b (List.mem_cons_self ..))))) fun z m => h2 z (List.mem_cons_of_mem _ m)
theorem fold_first (a : Int) (l : List Int) : (a :: l).foldl (fun g n => Nat.gcd g (n - a).natAbs) 0 = gcdOf (a :: l) := by
 show l.foldl _ (Nat.gcd 0 (a - a).natAbs) = l.foldl _ 0
 rw [Int.sub_self]
 rfl
theorem gcdOf_dvd {a : Int} {l : List Int} {z : Int} (h : z ∈ a :: l) : ((gcdOf (a :: l) : Nat) : Int) ∣ z - a := by
 rcases List.mem_cons.mp h with e | m
 ·subst e
  rw [Int.sub_self]
  exact Int.dvd_zero _
 ·exact (gcd_fold a l 0).2 z m
theorem gcdOf_pos {a b : Int} {l : List Int} (h : b ∈ l) (hne : b ≠ a) : 0 < gcdOf (a :: l) := by
 have h1 := (gcd_fold a l 0).2 b h
 rcases Nat.eq_zero_or_pos (gcdOf (a :: l)) with e | e
 ·have e' : l.foldl (fun g n => Nat.gcd g (n - a).natAbs) 0 = 0 := e
  rw [e'] at h1
  have := Int.zero_dvd.mp h1
  omega
 ·exact e
theorem clamp_lo (lo : Int) : (if lo < -BOUND then -BOUND else lo) = max lo (-BOUND) := by
 have : BOUND = 1000000 := rfl
 rw [this]
 split <;> omega
theorem clamp_hi (hi : Int) : (if BOUND < hi then BOUND else hi) = min hi BOUND := by
 have : BOUND = 1000000 := rfl
 rw [this]
 split <;> omega
def lowEnd (a k r : Int) (z : Bool) : Int := if a + (r - a) % k = 0 ∧ z = false then k else a + (r - a) % k
def highEnd (b k r : Int) (z : Bool) : Int := if b - (b - r) % k = 0 ∧ z = false then -k else b - (b - r) % k
def crosses (u d k : Int) : Bool := decide (u ≤ 0) && (decide (d ≥ 0) && decide (u % k = 0))
def rowF (u d : Int) (m : Nat) (z : Bool) : Fact :=
 if u > d then none else
  let size : Int := (d - u) / (m : Int) + 1 - (if crosses u d m = true ∧ z = false then 1 else 0)
  if size ≤ 6 then ofFew (((List.range ((d - u) / (m : Int) + 1).toNat).map fun (i : Nat) => u + (i : Int) * (m : Int)).filter fun x => x != 0 || z)
  else some ⟨u, d, m, u % (m : Int), crosses u d m && z, none⟩
theorem up_mod (a r : Int) {k : Int} : (a + (r - a) % k) % k = r % k := by
 rw [Int.add_emod, Int.emod_emod, ← Int.add_emod]
 congr 1
 omega
theorem down_mod (b r : Int) {k : Int} : (b - (b - r) % k) % k = r % k := by
 rw [Int.sub_emod, Int.emod_emod, ← Int.sub_emod]
 congr 1
 omega
theorem lowEnd_mod (a k r : Int) (z : Bool) : lowEnd a k r z % k = r % k := by
 unfold lowEnd
 split
 ·rename_i h
  have := up_mod a r (k := k)
  rw [h.1] at this
  rw [← this, Int.emod_self, Int.zero_emod]
 ·exact up_mod a r
theorem highEnd_mod (b k r : Int) (z : Bool) : highEnd b k r z % k = r % k := by
 unfold highEnd
 split
 ·rename_i h
  have := down_mod b r (k := k)
  rw [h.1] at this
  rw [← this, Int.neg_emod_self, Int.zero_emod]
 ·exact down_mod b r
theorem tidy_row (lo hi : Int) {m : Nat} (hm : 0 < m) (r : Int) (z : Bool) : tidy lo hi m r z = rowF (lowEnd (max lo (-BOUND)) m r z) (highEnd (min hi BOUND) m r z) m z := by
 have hk : (0 : Int) < (m : Int) := by omega
 unfold tidy
 rw [clamp_lo, clamp_hi]
 dsimp only
 rw [if_neg (by omega)]
 have e1 : (if max lo (-BOUND) + (r - max lo (-BOUND)) % (m : Int) = 0 ∧ z = false then max lo (-BOUND) + (r - max lo (-BOUND)) % (m : Int) + (m : Int) else max lo (-BOUND) + (r - max lo (-BOUND)) % (m : Int)) = lowEnd (max lo (-BOUND)) m r z := by
  unfold lowEnd
  split
  ·rename_i h
   rw [h.1]
   omega
  ·rfl
 have e2 : (if min hi BOUND - (min hi BOUND - r) % (m : Int) = 0 ∧ z = false then min hi BOUND - (min hi BOUND - r) % (m : Int) - (m : Int) else min hi BOUND - (min hi BOUND - r) % (m : Int)) = highEnd (min hi BOUND) m r z := by
  unfold highEnd
  split
  ·rename_i h
   rw [h.1]
   omega
  ·rfl
 rw [e1, e2]
 have u0 := lowEnd_mod (max lo (-BOUND)) m r z
 have d0 := highEnd_mod (min hi BOUND) m r z
 have uz : z = false → lowEnd (max lo (-BOUND)) m r z ≠ 0 := fun hz => by
  unfold lowEnd
  split
  ·omega
  ·rename_i h
   intro q
   exact h ⟨q, hz⟩
 have dz : z = false → highEnd (min hi BOUND) m r z ≠ 0 := fun hz => by
  unfold highEnd
  split
  ·omega
  ·rename_i h
   intro q
   exact h ⟨q, hz⟩
 generalize lowEnd (max lo (-BOUND)) m r z = u at *
 generalize highEnd (min hi BOUND) m r z = d at *
 unfold rowF
 by_cases hlt : d < u
 ·rw [if_pos hlt, if_pos (show u > d from hlt)]
 ·rw [if_neg hlt, if_neg (show ¬ u > d from hlt)]
  have hD : 0 ≤ (d - u) / (m : Int) := Int.ediv_nonneg (by omega) (by omega)
  have eN : ((d - u) / (m : Int) + 1).toNat = ((d - u) / (m : Int)).toNat + 1 := by omega
  have ez : (z && (r % (m : Int) == 0 && (decide (u ≤ 0) && decide (0 ≤ d)))) = (crosses u d m && z) := by
   unfold crosses
   rw [u0]
   have : (r % (m : Int) == 0) = decide (r % (m : Int) = 0) := by
    cases h : decide (r % (m : Int) = 0) with
    | true => rw [decide_eq_true_eq] at h; rw [h]; rfl
    | false => rw [decide_eq_false_iff_not] at h; exact beq_false_of_ne h
   rw [this]
   show _ = (decide (u ≤ 0) && (decide (0 ≤ d) && decide (r % (m : Int) = 0)) && z)
   cases z <;> cases decide (u ≤ 0) <;> cases decide (0 ≤ d) <;> cases decide (r % (m : Int) = 0) <;> rfl
  rw [ez]
  have eh : (if (crosses u d m && z) = false ∧ r % (m : Int) = 0 ∧ u < 0 ∧ 0 < d then (1 : Nat) else 0) = if crosses u d m = true ∧ z = false then 1 else 0 := by
   have ec : crosses u d m = true ↔ u ≤ 0 ∧ 0 ≤ d ∧ r % (m : Int) = 0 := by
    unfold crosses
    rw [u0]
    simp
   cases hz : z with
   | true =>
    rw [if_neg (show ¬ (crosses u d m = true ∧ true = false) from fun q => by cases q.2), if_neg]
    rintro ⟨q1, q2, q3, q4⟩
    rw [ec.mpr ⟨by omega, by omega, q2⟩] at q1
    cases q1
   | false =>
    have n1 := uz hz
    have n2 := dz hz
    by_cases hc : crosses u d m = true
    ·have := ec.mp hc
     rw [if_pos (show (crosses u d m && false) = false ∧ r % (m : Int) = 0 ∧ u < 0 ∧ 0 < d from ⟨by rw [Bool.and_false], this.2.2, by omega, by omega⟩), if_pos (show crosses u d m = true ∧ false = false from ⟨hc, rfl⟩)]
    ·have nq : ¬ ((crosses u d m && false) = false ∧ r % (m : Int) = 0 ∧ u < 0 ∧ 0 < d) := by
      rintro ⟨q1, q2, q3, q4⟩
      exact hc (ec.mpr ⟨by omega, by omega, q2⟩)
     rw [if_neg nq, if_neg (show ¬ (crosses u d m = true ∧ false = false) from fun q => hc q.1)]
  rw [eh]
  have efew : (FEW : Nat) = 6 := rfl
  have ecast : ((if crosses u d m = true ∧ z = false then (1 : Nat) else 0 : Nat) : Int) = if crosses u d m = true ∧ z = false then (1 : Int) else 0 := by split <;> rfl
  dsimp only
  by_cases hs : (d - u) / (m : Int) + 1 - (if crosses u d m = true ∧ z = false then (1 : Int) else 0) ≤ 6
  ·rw [if_pos (show ((d - u) / (m : Int)).toNat + 1 ≤ FEW + _ by rw [efew]; rw [← ecast] at hs; omega), if_pos hs]
   congr 1
   unfold stepsFrom
   rw [eN]
   have em : (List.map (fun (i : Nat) => u + (m : Int) * (i : Int)) (List.range (((d - u) / (m : Int)).toNat + 1))) = List.map (fun (i : Nat) => u + (i : Int) * (m : Int)) (List.range (((d - u) / (m : Int)).toNat + 1)) := by
    congr 1
    funext i
    rw [Int.mul_comm]
   rw [em]
   refine List.filter_congr fun x hx => ?_
   obtain ⟨i, hi, rfl⟩ := List.mem_map.mp hx
   have hi' := List.mem_range.mp hi
   by_cases hx0 : u + (i : Int) * (m : Int) = 0
   ·-- 0 is one of them: the row crosses 0
    have hc : crosses u d m = true := by
     have h1 : (i : Int) ≤ (d - u) / (m : Int) := by omega
     have h2 : (i : Int) * (m : Int) ≤ d - u := Int.le_trans (Int.mul_le_mul_of_nonneg_right h1 (by omega)) (Int.ediv_mul_le _ (by omega))
     have h3 : 0 ≤ (i : Int) * (m : Int) := Int.mul_nonneg (by omega) (by omega)
     have h4 : u % (m : Int) = 0 := by
      have : u = (-(i : Int)) * (m : Int) := by rw [Int.neg_mul]; omega
      rw [this]
      exact Int.mul_emod_left _ _
     unfold crosses
     rw [h4]
     simp
     omega
    rw [hc, hx0]
    cases z <;> rfl
   ·have : (u + (i : Int) * (m : Int) != 0) = true := by simp [hx0]
    rw [this, Bool.or_true, Bool.true_or]
  ·rw [if_neg (show ¬ ((d - u) / (m : Int)).toNat + 1 ≤ FEW + _ by rw [efew]; rw [← ecast] at hs; omega), if_neg hs, u0]
end KM
namespace KM
open Vadomb
structure Many (v : Value) : Prop where
 nf : v.few = none
 m0 : 0 < v.mod
 r0 : v.lo % (v.mod : Int) = v.rem
 r1 : v.hi % (v.mod : Int) = v.rem
 lb : -1000000 ≤ v.lo
 hb : v.hi ≤ 1000000
 le : v.lo ≤ v.hi
 z1 : v.zero = true → v.rem = 0 ∧ v.lo ≤ 0 ∧ 0 ≤ v.hi
 z0 : v.zero = false → v.lo ≠ 0 ∧ v.hi ≠ 0
 cnt : 6 < count v
def InB (l : List Int) : Prop := ∀ z ∈ l, -1000000 ≤ z ∧ z ≤ 1000000
structure Few (v : Value) (l : List Int) : Prop where
 eq : ofFew l = some v
 up : Up l
 inb : InB l
 len : l.length ≤ 6
def Wf : Fact → Prop
 | none => True
 | some v => match v.few with
  | some l => Few v l
  | none => Many v
theorem ofFew_few {l : List Int} {v : Value} (h : ofFew l = some v) : v.few = some l := by
 cases l with
 | nil => cases h
 | cons a r =>
  have := Option.some.inj h
  subst this
  rfl
theorem wf_few {l : List Int} (h1 : Up l) (h2 : InB l) (h3 : l.length ≤ 6) : Wf (ofFew l) := by
 cases h : ofFew l with
 | none => trivial
 | some v =>
  show (match v.few with | some l => Few v l | none => Many v)
  rw [ofFew_few h]
  exact ⟨h, h1, h2, h3⟩
theorem Few.few {v : Value} {l : List Int} (h : Few v l) : v.few = some l := ofFew_few h.eq
theorem wf_cases {v : Value} (h : Wf (some v)) : (∃ l, Few v l) ∨ Many v := by
 have h' : (match v.few with | some l => Few v l | none => Many v) := h
 cases e : v.few with
 | some l =>
  rw [e] at h'
  exact .inl ⟨l, h'⟩
 | none =>
  rw [e] at h'
  exact .inr h'
theorem inB_iff {n : Int} : inBound n = true ↔ -1000000 ≤ n ∧ n ≤ 1000000 := by
 have e : inBound n = (decide (-1000000 ≤ n) && decide (n ≤ 1000000)) := rfl
 rw [e, Bool.and_eq_true, decide_eq_true_eq, decide_eq_true_eq]
theorem count_many {v : Value} (h : v.few = none) : count v = ((v.hi - v.lo) / (v.mod : Int)).toNat + 1 - (if v.zero = false ∧ v.rem = 0 ∧ v.lo < 0 ∧ 0 < v.hi then 1 else 0) := by
 unfold count
 rw [h]
theorem Many.mb {v : Value} (h : Many v) : (v.mod : Int) ≤ 1000000 := by
 have h1 := h.cnt
 rw [count_many h.nf] at h1
 have h2 := h.le
 have h3 := h.lb
 have h4 := h.hb
 have h5 := h.m0
 rcases Int.lt_or_le 1000000 (v.mod : Int) with hlt | hle
 ·exfalso
  have hd : (v.hi - v.lo) / (v.mod : Int) < 2 := Int.ediv_lt_of_lt_mul (by omega) (by omega)
  omega
 ·exact hle
theorem Many.rem0 {v : Value} (h : Many v) : 0 ≤ v.rem ∧ v.rem < (v.mod : Int) := by
 have := h.m0
 rw [← h.r0]
 exact ⟨Int.emod_nonneg _ (by omega), Int.emod_lt_of_pos _ (by omega)⟩
theorem count_row {u d : Int} {m : Nat} {z : Bool} (hm : 0 < m) (hud : ¬ u > d) (hz : z = false → u ≠ 0 ∧ d ≠ 0) :
  ((count ⟨u, d, m, u % (m : Int), crosses u d m && z, none⟩ : Nat) : Int) = (d - u) / (m : Int) + 1 - (if crosses u d m = true ∧ z = false then 1 else 0) := by
 have hD : 0 ≤ (d - u) / (m : Int) := Int.ediv_nonneg (by omega) (by omega)
 have ec : crosses u d m = true ↔ u ≤ 0 ∧ 0 ≤ d ∧ u % (m : Int) = 0 := by
  unfold crosses
  simp
 show ((((d - u) / (m : Int)).toNat + 1 - (if (crosses u d m && z) = false ∧ u % (m : Int) = 0 ∧ u < 0 ∧ 0 < d then 1 else 0) : Nat) : Int) = _
 by_cases hc : crosses u d m = true ∧ z = false
 ·obtain ⟨h1, h2⟩ := hc
  have h3 := ec.mp h1
  have h4 := hz h2
  have c1 : (crosses u d m && z) = false ∧ u % (m : Int) = 0 ∧ u < 0 ∧ 0 < d := ⟨by rw [h2, Bool.and_false], h3.2.2, by omega, by omega⟩
  have c2 : crosses u d m = true ∧ z = false := ⟨h1, h2⟩
  rw [if_pos c1, if_pos c2]
  omega
 ·have c1 : ¬ ((crosses u d m && z) = false ∧ u % (m : Int) = 0 ∧ u < 0 ∧ 0 < d) := by
   rintro ⟨q1, q2, q3, q4⟩
   have h1 := ec.mpr ⟨by omega, by omega, q2⟩
   rw [h1, Bool.true_and] at q1
   exact hc ⟨h1, q1⟩
  rw [if_neg c1, if_neg hc]
  omega
theorem wf_row {u d : Int} {m : Nat} {z : Bool} (hm : 0 < m) (hmod : u % (m : Int) = d % (m : Int)) (hu : -1000000 ≤ u) (hd : d ≤ 1000000) (hz : z = false → u ≠ 0 ∧ d ≠ 0) : Wf (rowF u d m z) := by
 have hk : (0 : Int) < (m : Int) := by omega
 have ec : crosses u d m = true ↔ u ≤ 0 ∧ 0 ≤ d ∧ u % (m : Int) = 0 := by
  unfold crosses
  simp
 unfold rowF
 split
 ·trivial
 ·rename_i hud
  have hD : 0 ≤ (d - u) / (m : Int) := Int.ediv_nonneg (by omega) (by omega)
  dsimp only
  by_cases hs : (d - u) / (m : Int) + 1 - (if crosses u d m = true ∧ z = false then 1 else 0) ≤ 6
  ·rw [if_pos hs]
   have hb : ∀ i : Nat, i < ((d - u) / (m : Int) + 1).toNat → u ≤ u + (i : Int) * (m : Int) ∧ u + (i : Int) * (m : Int) ≤ d := fun i hi => by
    have h1 : (i : Int) ≤ (d - u) / (m : Int) := by omega
    have h2 : (i : Int) * (m : Int) ≤ d - u := Int.le_trans (Int.mul_le_mul_of_nonneg_right h1 (by omega)) (Int.ediv_mul_le _ (by omega))
    have h3 : 0 ≤ (i : Int) * (m : Int) := Int.mul_nonneg (by omega) (by omega)
    omega
   refine wf_few ?_ ?_ ?_
   ·refine List.Pairwise.filter _ ?_
    rw [List.pairwise_map]
    refine List.Pairwise.imp ?_ List.pairwise_lt_range
    intro a b h
    have : (a : Int) * (m : Int) < (b : Int) * (m : Int) := Int.mul_lt_mul_of_pos_right (by omega) (by omega)
    omega
   ·intro x hx
    obtain ⟨i, hi, rfl⟩ := List.mem_map.mp (List.mem_filter.mp hx).1
    have := hb i (List.mem_range.mp hi)
    omega
   ·by_cases hc : crosses u d m = true ∧ z = false
    ·rw [if_pos hc] at hs
     have hcc := ec.mp hc.1
     have hlt : (List.filter (fun x => x != 0 || z) (List.map (fun (i : Nat) => u + (i : Int) * (m : Int)) (List.range ((d - u) / (m : Int) + 1).toNat))).length < (List.map (fun (i : Nat) => u + (i : Int) * (m : Int)) (List.range ((d - u) / (m : Int) + 1).toNat)).length := by
      rw [List.length_filter_lt_length_iff_exists]
      have hq : 0 ≤ (-u) / (m : Int) := Int.ediv_nonneg (by omega) (by omega)
      have hle : (-u) / (m : Int) ≤ (d - u) / (m : Int) := Int.ediv_le_ediv hk (by omega)
      have hmul : (-u) / (m : Int) * (m : Int) = -u := Int.ediv_mul_cancel (by
       rw [Int.dvd_neg]
       exact Int.dvd_of_emod_eq_zero hcc.2.2)
      refine ⟨0, List.mem_map.mpr ⟨((-u) / (m : Int)).toNat, List.mem_range.mpr (by omega), ?_⟩, ?_⟩
      ·have : (((-u) / (m : Int)).toNat : Int) = (-u) / (m : Int) := by omega
       rw [this, hmul]
       omega
      ·rw [hc.2]
       simp
     rw [List.length_map, List.length_range] at hlt
     omega
    ·rw [if_neg hc] at hs
     refine Nat.le_trans (List.length_filter_le _ _) ?_
     rw [List.length_map, List.length_range]
     omega
  ·rw [if_neg hs]
   show Many _
   refine ⟨rfl, hm, rfl, hmod.symm, hu, hd, (show u ≤ d by omega), fun h => ?_, fun h => ?_, ?_⟩
   ·rw [Bool.and_eq_true] at h
    have := ec.mp h.1
    exact ⟨this.2.2, this.1, this.2.1⟩
   ·rw [Bool.and_eq_false_iff] at h
    rcases h with h | h
    ·have hn : ¬ (u ≤ 0 ∧ 0 ≤ d ∧ u % (m : Int) = 0) := fun q => by rw [ec.mpr q] at h; cases h
     constructor
     ·intro q
      have q' : u = 0 := q
      refine hn ⟨by omega, by omega, by rw [q', Int.zero_emod]⟩
     ·intro q
      have q' : d = 0 := q
      refine hn ⟨by omega, by omega, by rw [hmod, q', Int.zero_emod]⟩
    ·exact hz h
   ·have := count_row hm hud hz
    omega
theorem wf_tidy (lo hi : Int) (m : Nat) (r : Int) (z : Bool) : Wf (tidy lo hi m r z) := by
 have eB : BOUND = 1000000 := rfl
 rcases Nat.eq_zero_or_pos m with h0 | hm
 ·unfold tidy
  rw [clamp_lo, clamp_hi]
  dsimp only
  rw [if_pos h0]
  split
  ·rename_i h
   refine wf_few (List.pairwise_singleton _ _) (fun x hx => ?_) (by show 1 ≤ 6; omega)
   rw [List.mem_singleton] at hx
   subst hx
   rw [eB] at h
   omega
  ·trivial
 ·rw [tidy_row lo hi hm]
  have hk : (0 : Int) < (m : Int) := by omega
  refine wf_row hm ((lowEnd_mod _ _ _ _).trans (highEnd_mod _ _ _ _).symm) ?_ ?_ ?_
  ·have : 0 ≤ (r - max lo (-BOUND)) % (m : Int) := Int.emod_nonneg _ (by omega)
   unfold lowEnd
   rw [eB] at *
   split <;> omega
  ·have : 0 ≤ (min hi BOUND - r) % (m : Int) := Int.emod_nonneg _ (by omega)
   unfold highEnd
   rw [eB] at *
   split <;> omega
  ·intro hz
   unfold lowEnd highEnd
   constructor
   ·split
    ·omega
    ·rename_i h
     exact fun q => h ⟨q, hz⟩
   ·split
    ·omega
    ·rename_i h
     exact fun q => h ⟨q, hz⟩
theorem wf_ofList (l : List Int) : Wf (ofList l) := by
 unfold ofList
 dsimp only
 split
 ·rename_i h
  refine wf_few (up_rising _) (fun z hz => ?_) h
  rw [mem_rising] at hz
  exact inB_iff.mp (List.mem_filter.mp hz).2
 ·exact wf_tidy _ _ _ _ _
theorem wf_join {v w : Value} : Wf (join v w) := by
 unfold join
 split
 ·exact wf_ofList _
 ·exact wf_tidy _ _ _ _ _
theorem wf_meet {v w : Value} : Wf (meet v w) := by
 unfold meet
 split
 ·exact wf_ofList _
 ·exact wf_ofList _
 ·cases bothRem v.mod v.rem w.mod w.rem with
  | none => trivial
  | some x => exact wf_tidy _ _ _ _ _
theorem wf_meetF (f g : Fact) : Wf (meetF f g) := by
 unfold meetF
 cases f with
 | none => trivial
 | some v =>
  cases g with
  | none => trivial
  | some w => exact wf_meet
theorem wf_widenF {ts : List Int} {f g : Fact} (hf : Wf f) (hg : Wf g) : Wf (widenF ts f g) := by
 unfold widenF
 split
 ·exact hg
 ·exact hf
 ·rename_i v w
  unfold widen
  split
  ·exact hf
  ·have hj := wf_join (v := v) (w := w)
   cases e : join v w with
   | none => trivial
   | some j =>
    rw [e] at hj
    show Wf (match j.few with | some _ => some j | none => _)
    split
    ·exact hj
    ·exact wf_tidy _ _ _ _ _
theorem wf_scaled (v : Value) (c : Int) : Wf (scaled v c) := by
 unfold scaled
 split
 ·exact wf_ofList _
 ·split
  ·exact wf_few (List.pairwise_singleton _ _) (fun x hx => by rw [List.mem_singleton] at hx; subst hx; omega) (by show 1 ≤ 6; omega)
  ·exact wf_tidy _ _ _ _ _
theorem wf_remOf (v : Value) (n : Nat) : Wf (remOf v n) := by
 unfold remOf
 split
 ·exact wf_ofList _
 ·dsimp only
  split
  ·exact wf_tidy _ _ _ _ _
  ·exact wf_tidy _ _ _ _ _
theorem wf_butN {v : Value} (h : Wf (some v)) (n : Int) : Wf (butN v n) := by
 unfold butN
 split
 ·exact wf_ofList _
 ·split
  ·exact wf_tidy _ _ _ _ _
  ·split
   ·exact wf_tidy _ _ _ _ _
   ·split
    ·exact wf_tidy _ _ _ _ _
    ·exact h
end KM
namespace KM
open Vadomb
theorem tidy_congr (lo hi : Int) {m : Nat} (hm : 0 < m) {r r' : Int} (h : (m : Int) ∣ r - r') (z : Bool) : tidy lo hi m r z = tidy lo hi m r' z := by
 have e : r % (m : Int) = r' % (m : Int) := Int.emod_eq_emod_iff_emod_sub_eq_zero.mpr (Int.emod_eq_zero_of_dvd h)
 rw [tidy_row _ _ hm, tidy_row _ _ hm]
 have h1 : ∀ a : Int, (r - a) % (m : Int) = (r' - a) % (m : Int) := fun a => by rw [Int.sub_emod, e, ← Int.sub_emod]
 have h2 : ∀ b : Int, (b - r) % (m : Int) = (b - r') % (m : Int) := fun b => by rw [Int.sub_emod, e, ← Int.sub_emod]
 unfold lowEnd highEnd
 rw [h1, h2]
theorem ofList_few {l : List Int} (h1 : Up l) (h2 : InB l) (h3 : l.length ≤ 6) : ofList l = ofFew l := by
 unfold ofList
 have e : rising (l.filter inBound) = l := by
  rw [filter_in fun z hz => inB_iff.mpr (h2 z hz)]
  exact rising_of_up h1 fun z => Iff.rfl
 rw [e]
 dsimp only
 rw [if_pos (show l.length ≤ FEW from h3)]
theorem dv {v : Value} (h : Wf (some v)) : (v.mod : Int) ∣ v.lo - v.rem := by
 rcases wf_cases h with ⟨l, hl⟩ | hm
 ·have e := hl.eq
  cases l with
  | nil => cases e
  | cons a r =>
   have e' := Option.some.inj e
   subst e'
   show ((gcdOf (a :: r) : Nat) : Int) ∣ a - remBy (gcdOf (a :: r)) a
   unfold remBy
   split
   ·rw [Int.sub_self]
    exact Int.dvd_zero _
   ·exact Int.dvd_self_sub_emod
 ·rw [← hm.r0]
  exact Int.dvd_self_sub_emod
theorem gcd_congr {g : Nat} {x y : Int} (h : (g : Int) ∣ x - y) : Nat.gcd g x.natAbs = Nat.gcd g y.natAbs := by
 have key : ∀ {x y : Int}, (g : Int) ∣ x - y → Nat.gcd g x.natAbs ∣ Nat.gcd g y.natAbs := fun {x y} h => by
  refine Nat.dvd_gcd (Nat.gcd_dvd_left _ _) ?_
  have h1 : ((Nat.gcd g x.natAbs : Nat) : Int) ∣ (g : Int) := Int.natCast_dvd_natCast.mpr (Nat.gcd_dvd_left _ _)
  have h2 : ((Nat.gcd g x.natAbs : Nat) : Int) ∣ x := Int.dvd_natAbs.mp (Int.natCast_dvd_natCast.mpr (Nat.gcd_dvd_right _ _))
  have h3 : ((Nat.gcd g x.natAbs : Nat) : Int) ∣ y := by
   have : y = x - (x - y) := by omega
   rw [this]
   exact Int.dvd_sub h2 (Int.dvd_trans h1 h)
  exact Int.natCast_dvd_natCast.mp (Int.dvd_natAbs.mpr h3)
 refine Nat.dvd_antisymm (key h) (key ?_)
 have : y - x = -(x - y) := by omega
 rw [this]
 exact Int.dvd_neg.mpr h
theorem commonMod_lo {v w : Value} (hv : Wf (some v)) (hw : Wf (some w)) : commonMod v.mod v.rem w.mod w.rem = Nat.gcd (Nat.gcd v.mod w.mod) (v.lo - w.lo).natAbs := by
 unfold commonMod
 refine (gcd_congr ?_).symm
 have h1 := Int.dvd_trans (Int.natCast_dvd_natCast.mpr (Nat.gcd_dvd_left v.mod w.mod)) (dv hv)
 have h2 := Int.dvd_trans (Int.natCast_dvd_natCast.mpr (Nat.gcd_dvd_right v.mod w.mod)) (dv hw)
 have e : v.lo - w.lo - (v.rem - w.rem) = (v.lo - v.rem) - (w.lo - w.rem) := by omega
 rw [e]
 exact Int.dvd_sub h1 h2
theorem join_mixed {v w : Value} (hv : Wf (some v)) (hw : Wf (some w)) (hn : v.few = none ∨ w.few = none) :
  join v w = tidy (if w.lo < v.lo then w.lo else v.lo) (if w.hi > v.hi then w.hi else v.hi) (Nat.gcd (Nat.gcd v.mod w.mod) (v.lo - w.lo).natAbs) (if w.lo < v.lo then w.lo else v.lo) (v.zero || w.zero) ∧ 0 < Nat.gcd (Nat.gcd v.mod w.mod) (v.lo - w.lo).natAbs := by
 have hmp : 0 < Nat.gcd (Nat.gcd v.mod w.mod) (v.lo - w.lo).natAbs := by
  refine Nat.gcd_pos_of_pos_left _ ?_
  rcases hn with h | h
  ·rcases wf_cases hv with ⟨l, hl⟩ | hm
   ·rw [hl.few] at h; cases h
   ·exact Nat.gcd_pos_of_pos_left _ hm.m0
  ·rcases wf_cases hw with ⟨l, hl⟩ | hm
   ·rw [hl.few] at h; cases h
   ·exact Nat.gcd_pos_of_pos_right _ hm.m0
 refine ⟨?_, hmp⟩
 have hj : join v w = tidy (if v.lo ≤ w.lo then v.lo else w.lo) (if v.hi ≤ w.hi then w.hi else v.hi) (commonMod v.mod v.rem w.mod w.rem) (remBy (commonMod v.mod v.rem w.mod w.rem) v.rem) (v.zero || w.zero) := by
  unfold join
  rcases hn with h | h
  ·rw [h]
  ·rw [h]
   cases v.few <;> rfl
 rw [hj, commonMod_lo hv hw]
 have e1 : (if v.lo ≤ w.lo then v.lo else w.lo) = if w.lo < v.lo then w.lo else v.lo := by split <;> split <;> omega
 have e2 : (if v.hi ≤ w.hi then w.hi else v.hi) = if w.hi > v.hi then w.hi else v.hi := by split <;> split <;> omega
 rw [e1, e2]
 have hd1 : ((Nat.gcd (Nat.gcd v.mod w.mod) (v.lo - w.lo).natAbs : Nat) : Int) ∣ v.lo - v.rem := Int.dvd_trans (Int.natCast_dvd_natCast.mpr (Nat.dvd_trans (Nat.gcd_dvd_left _ _) (Nat.gcd_dvd_left _ _))) (dv hv)
 have hd2 : ((Nat.gcd (Nat.gcd v.mod w.mod) (v.lo - w.lo).natAbs : Nat) : Int) ∣ v.lo - w.lo := Int.dvd_natAbs.mp (Int.natCast_dvd_natCast.mpr (Nat.gcd_dvd_right _ _))
 generalize Nat.gcd (Nat.gcd v.mod w.mod) (v.lo - w.lo).natAbs = m at *
 refine tidy_congr _ _ hmp ?_ _
 have e3 : (m : Int) ∣ v.rem - remBy m v.rem := by
  unfold remBy
  rw [if_neg (by omega)]
  exact Int.dvd_self_sub_emod
 split
 ·have : remBy m v.rem - w.lo = (v.lo - w.lo) - (v.lo - v.rem) - (v.rem - remBy m v.rem) := by omega
  rw [this]
  exact Int.dvd_sub (Int.dvd_sub hd2 hd1) e3
 ·have : remBy m v.rem - v.lo = -((v.lo - v.rem) + (v.rem - remBy m v.rem)) := by omega
  rw [this]
  exact Int.dvd_neg.mpr (Int.dvd_add hd1 e3)
theorem bez : ∀ (k f : Nat) (a b : Nat), b < 2 ^ k → 2 * k + 1 ≤ f → (a : Int) * (bezout f a b).1 + (b : Int) * (bezout f a b).2 = ((Nat.gcd a b : Nat) : Int)
 | 0, f, a, b, hb, hf => by
  have e : b = 0 := by omega
  subst e
  obtain ⟨f, rfl⟩ : ∃ g, f = g + 1 := ⟨f - 1, by omega⟩
  unfold bezout
  simp
 | k + 1, f, a, b, hb, hf => by
  obtain ⟨f, rfl⟩ : ∃ g, f = g + 1 := ⟨f - 1, by omega⟩
  unfold bezout
  by_cases h0 : b = 0
  ·subst h0
   simp
  ·rw [if_neg (by omega)]
   have ec : ((a : Int) % (b : Int)) = ((a % b : Nat) : Int) := (Int.natCast_emod a b).symm
   rw [ec]
   dsimp only
   have hlt : a % b < b := Nat.mod_lt _ (by omega)
   have step : (b : Int) * (bezout f (b : Int) ((a % b : Nat) : Int)).1 + ((a % b : Nat) : Int) * (bezout f (b : Int) ((a % b : Nat) : Int)).2 = ((Nat.gcd b (a % b) : Nat) : Int) := by
    obtain ⟨f, rfl⟩ : ∃ g, f = g + 1 := ⟨f - 1, by omega⟩
    unfold bezout
    by_cases h1 : a % b = 0
    ·rw [h1]
     simp
    ·rw [if_neg (by omega)]
     have ec2 : ((b : Int) % ((a % b : Nat) : Int)) = ((b % (a % b) : Nat) : Int) := (Int.natCast_emod b (a % b)).symm
     rw [ec2]
     dsimp only
     have hlt2 : b % (a % b) < a % b := Nat.mod_lt _ (by omega)
     have hhalf : b % (a % b) < 2 ^ k := by
      have h2 : b / (a % b) ≥ 1 := Nat.div_pos (by omega) (by omega)
      have h3 := Nat.mod_add_div b (a % b)
      have h4 : (a % b) * 1 ≤ (a % b) * (b / (a % b)) := Nat.mul_le_mul_left _ h2
      have h5 : 2 ^ (k + 1) = 2 * 2 ^ k := by rw [Nat.pow_succ, Nat.mul_comm]
      omega
     have ih := bez k f (a % b) (b % (a % b)) hhalf (by omega)
     have h3 : ((b % (a % b) : Nat) : Int) = (b : Int) - ((b : Int) / ((a % b : Nat) : Int)) * ((a % b : Nat) : Int) := by
      rw [Int.natCast_emod]
      have := Int.emod_add_mul_ediv (b : Int) ((a % b : Nat) : Int)
      rw [Int.mul_comm]
      omega
     generalize bezout f ((a % b : Nat) : Int) ((b % (a % b) : Nat) : Int) = p at *
     obtain ⟨p1, p2⟩ := p
     dsimp only at *
     have eg : Nat.gcd b (a % b) = Nat.gcd (a % b) (b % (a % b)) := by
      rw [Nat.gcd_comm b, Nat.gcd_rec (a % b) b, Nat.gcd_comm]
     rw [eg, ← ih, h3]
     generalize ((a % b : Nat) : Int) = c
     generalize (b : Int) / c = q
     rw [Int.mul_sub, Int.sub_mul, ← Int.mul_assoc c q p2, Int.mul_comm c q]
     omega
   have eg : Nat.gcd a b = Nat.gcd b (a % b) := by
    rw [Nat.gcd_comm a b, Nat.gcd_rec b a, Nat.gcd_comm]
   rw [eg, ← step]
   generalize bezout f (b : Int) ((a % b : Nat) : Int) = p
   obtain ⟨p1, p2⟩ := p
   dsimp only
   have h3 : ((a % b : Nat) : Int) = (a : Int) - ((a : Int) / (b : Int)) * (b : Int) := by
    rw [Int.natCast_emod]
    have := Int.emod_add_mul_ediv (a : Int) (b : Int)
    rw [Int.mul_comm]
    omega
   rw [h3]
   generalize (a : Int) / (b : Int) = q
   rw [Int.mul_sub, Int.sub_mul, ← Int.mul_assoc (b : Int) q p2, Int.mul_comm (b : Int) q]
   omega
theorem lcm_dvd {m n : Nat} {d : Int} (h1 : (m : Int) ∣ d) (h2 : (n : Int) ∣ d) : ((m / Nat.gcd m n * n : Nat) : Int) ∣ d := by
 have e : m / Nat.gcd m n * n = Nat.lcm m n := by
  unfold Nat.lcm
  rw [Nat.mul_comm m n, Nat.mul_div_assoc n (Nat.gcd_dvd_left m n), Nat.mul_comm]
 rw [e]
 have h3 : m ∣ d.natAbs := Int.natCast_dvd_natCast.mp (Int.dvd_natAbs.mpr h1)
 have h4 : n ∣ d.natAbs := Int.natCast_dvd_natCast.mp (Int.dvd_natAbs.mpr h2)
 exact Int.dvd_natAbs.mp (Int.natCast_dvd_natCast.mpr (Nat.lcm_dvd h3 h4))
theorem bothRem_some {m n : Nat} {r s : Int} (hm : 0 < m) (hn : 0 < n) (hb : n < 2 ^ 31) (h : (s - r) % ((Nat.gcd m n : Nat) : Int) = 0) :
  ∃ y, bothRem m r n s = some (m / Nat.gcd m n * n, y) ∧ ∀ x : Int, (m : Int) ∣ x - r → (n : Int) ∣ x - s → ((m / Nat.gcd m n * n : Nat) : Int) ∣ x - y := by
 refine ⟨_, by unfold bothRem; dsimp only; rw [if_pos h], fun x h1 h2 => ?_⟩
 have hB := bez 31 64 m n hb (by omega)
 generalize bezout 64 (m : Int) (n : Int) = p at *
 obtain ⟨p1, p2⟩ := p
 dsimp only at *
 have et : (s - r) / ((Nat.gcd m n : Nat) : Int) * ((Nat.gcd m n : Nat) : Int) = s - r := Int.ediv_mul_cancel (Int.dvd_of_emod_eq_zero h)
 generalize (s - r) / ((Nat.gcd m n : Nat) : Int) = t at *
 have e0 : ∀ l Y : Int, x - Y % l = (x - Y) + (Y - Y % l) := fun l Y => by omega
 rw [e0]
 refine Int.dvd_add (lcm_dvd ?_ ?_) Int.dvd_self_sub_emod
 ·have : x - (r + (m : Int) * (p1 * t)) = (x - r) - (m : Int) * (p1 * t) := by omega
  rw [this]
  exact Int.dvd_sub h1 (Int.dvd_mul_right _ _)
 ·have e1 : (m : Int) * (p1 * t) = (s - r) - (n : Int) * (p2 * t) := by
   have e2 : t * ((m : Int) * p1) = (m : Int) * (p1 * t) := by rw [Int.mul_comm, Int.mul_assoc]
   have e3 : t * ((n : Int) * p2) = (n : Int) * (p2 * t) := by rw [Int.mul_comm, Int.mul_assoc]
   rw [← et, ← hB, Int.mul_add, e2, e3]
   omega
  rw [e1]
  have : x - (r + (s - r - (n : Int) * (p2 * t))) = (x - s) + (n : Int) * (p2 * t) := by omega
  rw [this]
  exact Int.dvd_add h2 (Int.dvd_mul_right _ _)
theorem bothRem_none {m n : Nat} {r s : Int} (h : ¬ (s - r) % ((Nat.gcd m n : Nat) : Int) = 0) : bothRem m r n s = none := by
 unfold bothRem
 dsimp only
 rw [if_neg h]
theorem steps_snoc (a : Int) (m : Nat) (z : Bool) (n : Nat) : stepsFrom a m z (n + 1) = stepsFrom a m z n ++ (if (z || a + (m : Int) * (n : Int) != 0) = true then [a + (m : Int) * (n : Int)] else []) := by
 unfold stepsFrom
 rw [List.range_succ, List.map_append, List.filter_append]
 congr 1
 show List.filter _ [a + (m : Int) * (n : Int)] = _
 rw [List.filter_cons, List.filter_nil]
theorem steps_mem {a : Int} {m : Nat} {z : Bool} {n : Nat} {x : Int} (h : x ∈ stepsFrom a m z n) : ∃ i : Nat, i < n ∧ x = a + (m : Int) * (i : Int) := by
 unfold stepsFrom at h
 obtain ⟨i, hi, rfl⟩ := List.mem_map.mp (List.mem_filter.mp h).1
 exact ⟨i, List.mem_range.mp hi, rfl⟩
theorem steps_len {a : Int} {m : Nat} (hm : 0 < m) (z : Bool) : ∀ n : Nat, n ≤ (stepsFrom a m z n).length + 1 ∧ (n < (stepsFrom a m z n).length + 1 ∨ ∃ i : Nat, i < n ∧ a + (m : Int) * (i : Int) = 0)
 | 0 => ⟨Nat.zero_le _, .inl (Nat.succ_pos _)⟩
 | n + 1 => by
  obtain ⟨h1, h2⟩ := steps_len (a := a) hm z n
  rw [steps_snoc, List.length_append]
  by_cases hc : (z || a + (m : Int) * (n : Int) != 0) = true
  ·rw [if_pos hc, List.length_singleton]
   refine ⟨by omega, ?_⟩
   rcases h2 with h2 | ⟨i, hi, e⟩
   ·exact .inl (by omega)
   ·exact .inr ⟨i, by omega, e⟩
  ·rw [if_neg hc, List.length_nil]
   have e0 : a + (m : Int) * (n : Int) = 0 := by
    rw [Bool.or_eq_true, not_or] at hc
    simpa using hc.2
   refine ⟨?_, .inr ⟨n, Nat.lt_succ_self _, e0⟩⟩
   rcases h2 with h2 | ⟨i, hi, e⟩
   ·omega
   ·exfalso
    have : (m : Int) * (i : Int) = (m : Int) * (n : Int) := by omega
    have := Int.eq_of_mul_eq_mul_left (show (m : Int) ≠ 0 by omega) this
    omega
theorem first_done {v : Value} (h : Many v) {n i : Nat} (hb : ∀ j : Nat, j < i → v.lo + (v.mod : Int) * (j : Int) ≤ v.hi) (hl : (stepsFrom v.lo v.mod v.zero i).length ≤ n) (hi : i ≤ n + 1)
  (hs : v.hi < v.lo + (v.mod : Int) * (i : Int) ∨ n ≤ (stepsFrom v.lo v.mod v.zero i).length) : firstOf v n = stepsFrom v.lo v.mod v.zero i := by
 have ef : firstOf v n = ((stepsFrom v.lo v.mod v.zero (n + 1)).filter fun x => decide (x ≤ v.hi)).take n := by
  unfold firstOf
  rw [h.nf]
 have hm := h.m0
 have more : ∀ k : Nat, ∃ r, stepsFrom v.lo v.mod v.zero (i + k) = stepsFrom v.lo v.mod v.zero i ++ r ∧ ∀ x ∈ r, v.lo + (v.mod : Int) * (i : Int) ≤ x := by
  intro k
  induction k with
  | zero => exact ⟨[], by simp, fun x hx => by cases hx⟩
  | succ k ih =>
   obtain ⟨r, e, hr⟩ := ih
   refine ⟨_, by rw [← Nat.add_assoc, steps_snoc, e, List.append_assoc], fun x hx => ?_⟩
   rcases List.mem_append.mp hx with hx | hx
   ·exact hr x hx
   ·split at hx
    ·rw [List.mem_singleton] at hx
     subst hx
     have : (v.mod : Int) * (i : Int) ≤ (v.mod : Int) * ((i + k : Nat) : Int) := Int.mul_le_mul_of_nonneg_left (by omega) (by omega)
     omega
    ·cases hx
 obtain ⟨r, e, hr⟩ := more (n + 1 - i)
 rw [show i + (n + 1 - i) = n + 1 by omega] at e
 rw [ef, e, List.filter_append]
 have e1 : (stepsFrom v.lo v.mod v.zero i).filter (fun x => decide (x ≤ v.hi)) = stepsFrom v.lo v.mod v.zero i := List.filter_eq_self.mpr fun x hx => by
  obtain ⟨j, hj, rfl⟩ := steps_mem hx
  exact decide_eq_true (hb j hj)
 rw [e1]
 rcases hs with hs | hs
 ·have e2 : r.filter (fun x => decide (x ≤ v.hi)) = [] := List.filter_eq_nil_iff.mpr fun x hx => by
   have := hr x hx
   simp
   omega
  rw [e2, List.append_nil, List.take_of_length_le hl]
 ·rw [List.take_append_of_le_length hs, List.take_of_length_le hl]
end KM
namespace KM
open Vadomb
def codeOf : Call → Int
 | .of .. => 0
 | .parts .. => 1
 | .told .. => 2
 | .has .. => 3
 | .count .. => 4
 | .first .. => 5
 | .join .. => 6
 | .meet .. => 7
 | .widen .. => 8
 | .within .. => 9
 | .plus .. => 10
 | .minus .. => 11
 | .times .. => 12
 | .rem .. => 13
 | .test .. => 14
 | .verdict .. => 15
def argsOf : Call → List Int
 | .of k _ => [k]
 | .parts k a b m r z => [k, a, b, m, r, z]
 | .told k => [k]
 | .has k n => [k, n]
 | .count k => [k]
 | .first k n => [k, n]
 | .join k a b => [k, a, b]
 | .meet k a b => [k, a, b]
 | .widen k a b _ => [k, a, b]
 | .within a b => [a, b]
 | .plus k a b => [k, a, b]
 | .minus k a b => [k, a, b]
 | .times k a b => [k, a, b]
 | .rem k a n => [k, a, n]
 | .test t k j a b => [t, k, j, a, b]
 | .verdict t a b => [t, a, b]
def rowOf : Call → Option (List Int)
 | .of _ l => some l
 | .widen _ _ _ t => some t
 | _ => none
def flat (k : Call) : List Int := codeOf k :: argsOf k ++ (match rowOf k with
 | some l => (l.length : Int) :: l
 | none => [])
def Num (z : Int) : Prop := -1000000000000000000 ≤ z ∧ z ≤ 1000000000000000000
structure OkC (k : Call) : Prop where
 args : ∀ z ∈ argsOf k, Num z
 row : ∀ l, rowOf k = some l → l.length ≤ 60 ∧ ∀ z ∈ l, Num z
def play : State → List Call → List Int
 | _, [] => []
 | s, k :: ks => ((step s k).2.length : Int) :: (step s k).2 ++ play (step s k).1 ks
def rowsOf (k : Call) : List (List Int) := (codeOf k :: argsOf k) :: (match rowOf k with
 | some l => [l]
 | none => [])
theorem len1 {α : Type} {l : List α} (h : l.length = 1) : ∃ a, l = [a] := by
 match l, h with
 | [a], _ => exact ⟨a, rfl⟩
theorem len2 {α : Type} {l : List α} (h : l.length = 2) : ∃ a b, l = [a, b] := by
 match l, h with
 | [a, b], _ => exact ⟨a, b, rfl⟩
theorem len3 {α : Type} {l : List α} (h : l.length = 3) : ∃ a b c, l = [a, b, c] := by
 match l, h with
 | [a, b, c], _ => exact ⟨a, b, c, rfl⟩
theorem len5 {α : Type} {l : List α} (h : l.length = 5) : ∃ a b c d e, l = [a, b, c, d, e] := by
 match l, h with
 | [a, b, c, d, e], _ => exact ⟨a, b, c, d, e, rfl⟩
theorem len6 {α : Type} {l : List α} (h : l.length = 6) : ∃ a b c d e f, l = [a, b, c, d, e, f] := by
 match l, h with
 | [a, b, c, d, e, f], _ => exact ⟨a, b, c, d, e, f, rfl⟩
theorem shape_code {p : Int} {n k : Nat} (h : PyVadomb.shape p = some (n, k)) : 0 ≤ p ∧ p ≤ 15 := by
 by_cases hr : 0 ≤ p ∧ p ≤ 15
 ·exact hr
 ·unfold PyVadomb.shape at h
  rw [if_neg (by omega), if_neg (by omega), if_neg (by omega), if_neg (by omega), if_neg (by omega), if_neg (by omega), if_neg (by omega), if_neg (by omega),
   if_neg (by omega), if_neg (by omega), if_neg (by omega), if_neg (by omega), if_neg (by omega), if_neg (by omega), if_neg (by omega), if_neg (by omega)] at h
  cases h
theorem call_of {c : List (List Int)} (h : PyFlat.okCall PyVadomb.shape c) : ∃ k : Call, c = rowsOf k := by
 obtain ⟨p, a, xs, rfl, hs⟩ := h
 have hp := shape_code hs
 obtain ⟨n, rfl⟩ := Int.eq_ofNat_of_zero_le hp.1
 have hn : n ≤ 15 := by omega
 match n, hn with
 | 0, _ =>
  have e := Option.some.inj (show some (1, 1) = some (a.length, xs.length) from hs)
  injection e with e1 e2
  obtain ⟨k, rfl⟩ := len1 e1.symm
  obtain ⟨l, rfl⟩ := len1 e2.symm
  exact ⟨.of k l, rfl⟩
 | 1, _ =>
  have e := Option.some.inj (show some (6, 0) = some (a.length, xs.length) from hs)
  injection e with e1 e2
  obtain ⟨k, b, c, d, e, f, rfl⟩ := len6 e1.symm
  have := List.length_eq_zero_iff.mp e2.symm
  subst this
  exact ⟨.parts k b c d e f, rfl⟩
 | 2, _ =>
  have e := Option.some.inj (show some (1, 0) = some (a.length, xs.length) from hs)
  injection e with e1 e2
  obtain ⟨k, rfl⟩ := len1 e1.symm
  have := List.length_eq_zero_iff.mp e2.symm
  subst this
  exact ⟨.told k, rfl⟩
 | 3, _ =>
  have e := Option.some.inj (show some (2, 0) = some (a.length, xs.length) from hs)
  injection e with e1 e2
  obtain ⟨k, b, rfl⟩ := len2 e1.symm
  have := List.length_eq_zero_iff.mp e2.symm
  subst this
  exact ⟨.has k b, rfl⟩
 | 4, _ =>
  have e := Option.some.inj (show some (1, 0) = some (a.length, xs.length) from hs)
  injection e with e1 e2
  obtain ⟨k, rfl⟩ := len1 e1.symm
  have := List.length_eq_zero_iff.mp e2.symm
  subst this
  exact ⟨.count k, rfl⟩
 | 5, _ =>
  have e := Option.some.inj (show some (2, 0) = some (a.length, xs.length) from hs)
  injection e with e1 e2
  obtain ⟨k, b, rfl⟩ := len2 e1.symm
  have := List.length_eq_zero_iff.mp e2.symm
  subst this
  exact ⟨.first k b, rfl⟩
 | 6, _ =>
  have e := Option.some.inj (show some (3, 0) = some (a.length, xs.length) from hs)
  injection e with e1 e2
  obtain ⟨k, b, c, rfl⟩ := len3 e1.symm
  have := List.length_eq_zero_iff.mp e2.symm
  subst this
  exact ⟨.join k b c, rfl⟩
 | 7, _ =>
  have e := Option.some.inj (show some (3, 0) = some (a.length, xs.length) from hs)
  injection e with e1 e2
  obtain ⟨k, b, c, rfl⟩ := len3 e1.symm
  have := List.length_eq_zero_iff.mp e2.symm
  subst this
  exact ⟨.meet k b c, rfl⟩
 | 8, _ =>
  have e := Option.some.inj (show some (3, 1) = some (a.length, xs.length) from hs)
  injection e with e1 e2
  obtain ⟨k, b, c, rfl⟩ := len3 e1.symm
  obtain ⟨l, rfl⟩ := len1 e2.symm
  exact ⟨.widen k b c l, rfl⟩
 | 9, _ =>
  have e := Option.some.inj (show some (2, 0) = some (a.length, xs.length) from hs)
  injection e with e1 e2
  obtain ⟨k, b, rfl⟩ := len2 e1.symm
  have := List.length_eq_zero_iff.mp e2.symm
  subst this
  exact ⟨.within k b, rfl⟩
 | 10, _ =>
  have e := Option.some.inj (show some (3, 0) = some (a.length, xs.length) from hs)
  injection e with e1 e2
  obtain ⟨k, b, c, rfl⟩ := len3 e1.symm
  have := List.length_eq_zero_iff.mp e2.symm
  subst this
  exact ⟨.plus k b c, rfl⟩
 | 11, _ =>
  have e := Option.some.inj (show some (3, 0) = some (a.length, xs.length) from hs)
  injection e with e1 e2
  obtain ⟨k, b, c, rfl⟩ := len3 e1.symm
  have := List.length_eq_zero_iff.mp e2.symm
  subst this
  exact ⟨.minus k b c, rfl⟩
 | 12, _ =>
  have e := Option.some.inj (show some (3, 0) = some (a.length, xs.length) from hs)
  injection e with e1 e2
  obtain ⟨k, b, c, rfl⟩ := len3 e1.symm
  have := List.length_eq_zero_iff.mp e2.symm
  subst this
  exact ⟨.times k b c, rfl⟩
 | 13, _ =>
  have e := Option.some.inj (show some (3, 0) = some (a.length, xs.length) from hs)
  injection e with e1 e2
  obtain ⟨k, b, c, rfl⟩ := len3 e1.symm
  have := List.length_eq_zero_iff.mp e2.symm
  subst this
  exact ⟨.rem k b c, rfl⟩
 | 14, _ =>
  have e := Option.some.inj (show some (5, 0) = some (a.length, xs.length) from hs)
  injection e with e1 e2
  obtain ⟨t, k, j, b, c, rfl⟩ := len5 e1.symm
  have := List.length_eq_zero_iff.mp e2.symm
  subst this
  exact ⟨.test t k j b c, rfl⟩
 | 15, _ =>
  have e := Option.some.inj (show some (3, 0) = some (a.length, xs.length) from hs)
  injection e with e1 e2
  obtain ⟨k, b, c, rfl⟩ := len3 e1.symm
  have := List.length_eq_zero_iff.mp e2.symm
  subst this
  exact ⟨.verdict k b c, rfl⟩
 | n + 16, h => exact absurd h (by omega)
theorem whole_rows (k : Call) : PyVadomb.whole (rowsOf k) = rowsOf k := by cases k <;> rfl
theorem step_rows (s : State) (k : Call) : VadombNeutral.step s (rowsOf k) = step s k := by cases k <;> rfl
theorem put_rows (k : Call) : PyFlat.put1 (rowsOf k) = flat k := by
 cases k <;> first | rfl | (show _ = _; simp [rowsOf, flat, PyFlat.put1, PyFlat.putRows, PyFlat.putRow, codeOf, argsOf, rowOf])
theorem w60 {z : Int} (h : VadombNeutral.whole60 z = true) : Num z := by
 have e : VadombNeutral.whole60 z = (decide (-(10 ^ 18) ≤ z) && decide (z ≤ 10 ^ 18)) := rfl
 rw [e, Bool.and_eq_true, decide_eq_true_eq, decide_eq_true_eq] at h
 exact h
theorem wAll {l : List Int} {n : Nat} (h : VadombNeutral.allWhole l n = true) : l.length ≤ n ∧ ∀ z ∈ l, Num z := by
 have e : VadombNeutral.allWhole l n = (l.all (fun (z : Int) => VadombNeutral.whole60 z) && decide (l.length ≤ n)) := rfl
 rw [e, Bool.and_eq_true, decide_eq_true_eq, List.all_eq_true] at h
 exact ⟨h.2, fun z hz => w60 (h.1 z hz)⟩
theorem all_num {l : List Int} (h : l.all VadombNeutral.whole60 = true) : ∀ z ∈ l, Num z := fun z hz => w60 (List.all_eq_true.mp h z hz)
theorem okC_of {k : Call} (h : VadombNeutral.asked1 (rowsOf k) = true) : OkC k := by
 have two : ∀ {a b : Int}, (VadombNeutral.whole60 a && VadombNeutral.whole60 b) = true → ∀ z ∈ [a, b], Num z := fun {a b} h z hz => by
  rw [Bool.and_eq_true] at h
  rcases List.mem_cons.mp hz with e | hz
  ·rw [e]; exact w60 h.1
  ·rcases List.mem_cons.mp hz with e | hz
   ·rw [e]; exact w60 h.2
   ·cases hz
 have one : ∀ {a : Int}, VadombNeutral.whole60 a = true → ∀ z ∈ [a], Num z := fun {a} h z hz => by
  rw [List.mem_singleton] at hz
  rw [hz]; exact w60 h
 cases k with
 | of k l =>
  have h' : (VadombNeutral.whole60 k && VadombNeutral.allWhole l 60) = true := h
  rw [Bool.and_eq_true] at h'
  exact ⟨one h'.1, fun l' e => by cases e; exact wAll h'.2⟩
 | widen k a b t =>
  have h' : ([k, a, b].all VadombNeutral.whole60 && VadombNeutral.allWhole t 20) = true := h
  rw [Bool.and_eq_true] at h'
  refine ⟨all_num h'.1, fun l' e => ?_⟩
  cases e
  have := wAll h'.2
  exact ⟨by omega, this.2⟩
 | parts k a b m r z => exact ⟨all_num h, fun l' e => by cases e⟩
 | told k => exact ⟨one h, fun l' e => by cases e⟩
 | has k n => exact ⟨two h, fun l' e => by cases e⟩
 | count k => exact ⟨one h, fun l' e => by cases e⟩
 | first k n => exact ⟨two h, fun l' e => by cases e⟩
 | join k a b => exact ⟨all_num h, fun l' e => by cases e⟩
 | meet k a b => exact ⟨all_num h, fun l' e => by cases e⟩
 | within a b => exact ⟨two h, fun l' e => by cases e⟩
 | plus k a b => exact ⟨all_num h, fun l' e => by cases e⟩
 | minus k a b => exact ⟨all_num h, fun l' e => by cases e⟩
 | times k a b => exact ⟨all_num h, fun l' e => by cases e⟩
 | rem k a n => exact ⟨all_num h, fun l' e => by cases e⟩
 | test t k j a b => exact ⟨all_num h, fun l' e => by cases e⟩
 | verdict t a b => exact ⟨all_num h, fun l' e => by cases e⟩
theorem played_rows : ∀ (ks : List Call) (s : State), PyFlat.told (PyFlat.played VadombNeutral.step s (ks.map rowsOf)) = play s ks
 | [], s => rfl
 | k :: ks, s => by
  show PyFlat.told ((VadombNeutral.step s (rowsOf k)).2 :: PyFlat.played VadombNeutral.step (VadombNeutral.step s (rowsOf k)).1 (ks.map rowsOf)) = _
  rw [step_rows]
  show ((step s k).2.length : Int) :: (step s k).2 ++ PyFlat.told (PyFlat.played VadombNeutral.step (step s k).1 (ks.map rowsOf)) = _
  rw [played_rows ks]
  rfl
theorem put_map : ∀ ks : List Call, PyFlat.put (ks.map rowsOf) = ks.flatMap flat
 | [] => rfl
 | k :: ks => by
  show PyFlat.put1 (rowsOf k) ++ PyFlat.put (ks.map rowsOf) = _
  rw [put_rows, put_map ks]
  rfl
theorem map_of : ∀ {cs : List (List (List Int))}, (∀ c ∈ cs, PyFlat.okCall PyVadomb.shape c) → ∃ ks : List Call, cs = ks.map rowsOf
 | [], _ => ⟨[], rfl⟩
 | c :: cs, h => by
  obtain ⟨k, e⟩ := call_of (h c (List.mem_cons_self ..))
  obtain ⟨ks, e2⟩ := map_of fun d hd => h d (List.mem_cons_of_mem _ hd)
  exact ⟨k :: ks, by rw [e, e2]; rfl⟩
theorem line {ns : List Int} (h : PyVadomb.answers_asked ns = true) : ∃ ks : List Call, ns = ks.flatMap flat ∧ ks.length ≤ 100 ∧ (∀ k ∈ ks, OkC k) ∧ PyVadomb.answers ns = play start ks ∧ (play start ks).length ≤ 10000000 := by
 unfold PyVadomb.answers_asked at h
 cases e : PyFlat.calls PyVadomb.shape ns.length ns with
 | none => rw [e] at h; cases h
 | some raw =>
  rw [e] at h
  simp only [Bool.and_eq_true] at h
  obtain ⟨⟨⟨⟨_, h1⟩, _⟩, h2⟩, h3⟩ := h
  obtain ⟨e1, e2⟩ := PyFlat.put_calls _ _ _ e
  obtain ⟨ks, e3⟩ := map_of e2
  subst e3
  have ew : (ks.map rowsOf).map PyVadomb.whole = ks.map rowsOf := by
   rw [List.map_map]
   refine List.map_congr_left fun k _ => ?_
   exact whole_rows k
  have ea : PyVadomb.answers ns = play start ks := by
   unfold PyVadomb.answers PyVadomb.calls
   rw [e]
   show PyFlat.told (PyFlat.played VadombNeutral.step VadombNeutral.start ((ks.map rowsOf).map PyVadomb.whole)) = _
   rw [ew, played_rows]
   rfl
  rw [ew] at h2
  unfold VadombNeutral.asked at h2
  rw [Bool.and_eq_true, List.all_eq_true] at h2
  have h1' : (ks.map rowsOf).length ≤ 100 := of_decide_eq_true h1
  rw [List.length_map] at h1'
  refine ⟨ks, by rw [e1, put_map], h1', fun k hk => okC_of (h2.1 _ (List.mem_map.mpr ⟨k, hk, rfl⟩)), ea, ?_⟩
  have h3' : (PyVadomb.answers ns).length ≤ 10000000 := of_decide_eq_true h3
  rw [ea] at h3'
  exact h3'
structure WfS (s : State) : Prop where
 len : s.slots.length = 6
 wf : ∀ f ∈ s.slots, Wf f
theorem wf_start : WfS start := ⟨rfl, fun f hf => by
 have := List.eq_of_mem_replicate hf
 rw [this]
 trivial⟩
theorem wf_set {s : State} (h : WfS s) {f : Fact} (hf : Wf f) (i : Nat) : WfS { s with slots := s.slots.set i f } := ⟨by rw [List.length_set]; exact h.len, fun g hg => by
 rcases List.mem_or_eq_of_mem_set hg with m | e
 ·exact h.wf g m
 ·rw [e]; exact hf⟩
end KM
namespace KM
open Vadomb
def Slot (z : Int) : Prop := 0 ≤ z ∧ z ≤ 5
def slotsOf : Call → List Int
 | .of k _ => [k]
 | .parts k _ _ _ _ _ => [k]
 | .told k => [k]
 | .has k _ => [k]
 | .count k => [k]
 | .first k _ => [k]
 | .join k a b => [k, a, b]
 | .meet k a b => [k, a, b]
 | .widen k a b _ => [k, a, b]
 | .within a b => [a, b]
 | .plus k a b => [k, a, b]
 | .minus k a b => [k, a, b]
 | .times k a b => [k, a, b]
 | .rem k a _ => [k, a]
 | .test _ k j a b => [k, j, a, b]
 | .verdict _ a b => [a, b]
theorem slot_some {i : Int} (h : Slot i) : slotOf i = some i.toNat := by
 unfold slotOf placeOf
 rw [if_pos (show 0 ≤ i ∧ i ≤ int (SLOTS - 1) from h)]
theorem slot_none {i : Int} (h : ¬ Slot i) : slotOf i = none := by
 unfold slotOf placeOf
 rw [if_neg (show ¬ (0 ≤ i ∧ i ≤ int (SLOTS - 1)) from h)]
theorem one_bad {s : State} {i : Int} (h : ¬ Slot i) (F : Fact → State × Answer) : onOne s i F = (s, [-2]) := by
 unfold onOne
 rw [slot_none h]
theorem one_good {s : State} {i : Int} (h : Slot i) (F : Fact → State × Answer) : onOne s i F = F (factAt s i.toNat) := by
 unfold onOne
 rw [slot_some h]
theorem two_bad {s : State} {i j : Int} (h : ¬ Slot i ∨ ¬ Slot j) (F : Fact → Fact → State × Answer) : onTwo s i j F = (s, [-2]) := by
 unfold onTwo
 by_cases hi : Slot i
 ·rw [one_good hi]
  rcases h with h | h
  ·exact absurd hi h
  ·exact one_bad h _
 ·exact one_bad hi _
theorem two_good {s : State} {i j : Int} (hi : Slot i) (hj : Slot j) (F : Fact → Fact → State × Answer) : onTwo s i j F = F (factAt s i.toNat) (factAt s j.toNat) := by
 unfold onTwo
 rw [one_good hi, one_good hj]
theorem keep_bad {s : State} {i : Int} (h : ¬ Slot i) (f : Fact) : keep s i f = (s, [-2]) := by
 unfold keep
 rw [slot_none h]
theorem keep_good {s : State} {i : Int} (h : Slot i) (f : Fact) : keep s i f = ({ s with slots := s.slots.set i.toNat f }, factTold f) := by
 unfold keep
 rw [slot_some h]
theorem three_bad {s : State} {k a b : Int} {F : Fact → Fact → State × Answer} (hF : ¬ Slot k → ∀ x y, F x y = (s, [-2])) (h : ∃ z ∈ [k, a, b], ¬ Slot z) : onTwo s a b F = (s, [-2]) := by
 by_cases ha : Slot a
 ·by_cases hb : Slot b
  ·rw [two_good ha hb]
   refine hF ?_ _ _
   obtain ⟨z, hz, hn⟩ := h
   rcases List.mem_cons.mp hz with e | hz
   ·rw [← e]; exact hn
   ·rcases List.mem_cons.mp hz with e | hz
    ·rw [e] at hn; exact absurd ha hn
    ·rw [List.mem_singleton] at hz
     rw [hz] at hn; exact absurd hb hn
  ·exact two_bad (.inr hb) _
 ·exact two_bad (.inl ha) _
theorem ex1 {k : Int} (h : ∃ z ∈ [k], ¬ Slot z) : ¬ Slot k := by
 obtain ⟨z, hz, hn⟩ := h
 rw [List.mem_singleton] at hz
 rw [← hz]; exact hn
theorem ex2 {a b : Int} (h : ∃ z ∈ [a, b], ¬ Slot z) : ¬ Slot a ∨ ¬ Slot b := by
 obtain ⟨z, hz, hn⟩ := h
 rcases List.mem_cons.mp hz with e | hz
 ·rw [← e]; exact .inl hn
 ·rw [List.mem_singleton] at hz
  rw [← hz]; exact .inr hn
theorem step_bad {s : State} {c : Call} (hc : codeOf c ≤ 13) (h : ∃ z ∈ slotsOf c, ¬ Slot z) : step s c = (s, [-2]) := by
 cases c with
 | of k l =>
  show (if (!(slotOf k).isSome) = true then (s, [-2]) else _) = _
  rw [slot_none (ex1 h)]
  rfl
 | parts k lo hi m r z =>
  show doParts s k lo hi m r z = _
  unfold doParts
  rw [slot_none (ex1 h)]
  rfl
 | told k =>
  unfold step
  exact one_bad (ex1 h) _
 | has k n =>
  unfold step
  exact one_bad (ex1 h) _
 | count k =>
  unfold step
  exact one_bad (ex1 h) _
 | first k n =>
  unfold step
  exact one_bad (ex1 h) _
 | join k a b => exact three_bad (fun hk x y => keep_bad hk _) h
 | meet k a b => exact three_bad (fun hk x y => keep_bad hk _) h
 | widen k a b ts =>
  refine three_bad (fun hk x y => ?_) h
  rw [slot_none hk]
  rfl
 | within a b => exact two_bad (ex2 h) _
 | plus k a b => exact three_bad (fun hk x y => keep_bad hk _) h
 | minus k a b => exact three_bad (fun hk x y => keep_bad hk _) h
 | times k a b => exact three_bad (fun hk x y => keep_bad hk _) h
 | rem k a n =>
  unfold step
  dsimp only
  by_cases ha : Slot a
  ·rw [one_good ha]
   rcases ex2 h with hk | ha'
   ·rw [slot_none hk]
    rfl
   ·exact absurd ha ha'
  ·exact one_bad ha _
 | test t k j a b => exact absurd hc (by show ¬ ((14 : Int) ≤ 13); omega)
 | verdict t a b => exact absurd hc (by show ¬ ((15 : Int) ≤ 13); omega)
theorem testOf_none {t : Int} (h : ¬ (0 ≤ t ∧ t ≤ 3)) : testOf t = none := by
 unfold testOf placeOf
 rw [if_neg (show ¬ (0 ≤ t ∧ t ≤ int 3) from h)]
 rfl
def testN (n : Nat) : Test := match n with
 | 0 => .lt
 | 1 => .le
 | 2 => .eq
 | _ => .ne
theorem testOf_some {t : Int} (h : 0 ≤ t ∧ t ≤ 3) : testOf t = some (testN t.toNat) := by
 obtain ⟨n, rfl⟩ := Int.eq_ofNat_of_zero_le h.1
 have hn : n ≤ 3 := by omega
 match n, hn with
 | 0, _ => rfl
 | 1, _ => rfl
 | 2, _ => rfl
 | 3, _ => rfl
 | n + 4, h => exact absurd h (by omega)
theorem test_no {s : State} {t k j a b : Int} (h : ¬ (0 ≤ t ∧ t ≤ 3)) : step s (.test t k j a b) = (s, [-3]) := by
 show doTest s t k j a b = _
 unfold doTest
 rw [testOf_none h]
theorem test_bad {s : State} {t k j a b : Int} (ht : 0 ≤ t ∧ t ≤ 3) (h : (∃ z ∈ [k, j, a, b], ¬ Slot z) ∨ k = j) : step s (.test t k j a b) = (s, [-2]) := by
 show doTest s t k j a b = _
 unfold doTest
 rw [testOf_some ht]
 dsimp only
 by_cases hk : Slot k
 ·by_cases hj : Slot j
  ·rw [slot_some hk, slot_some hj]
   dsimp only
   by_cases hkj : k.toNat = j.toNat
   ·rw [if_pos hkj]
   ·rw [if_neg hkj]
    refine two_bad ?_ _
    rcases h with ⟨z, hz, hn⟩ | h
    ·rcases List.mem_cons.mp hz with e | hz
     ·rw [e] at hn; exact absurd hk hn
     ·rcases List.mem_cons.mp hz with e | hz
      ·rw [e] at hn; exact absurd hj hn
      ·exact ex2 ⟨z, hz, hn⟩
    ·exact absurd (by rw [h]) hkj
  ·rw [slot_none hj]
   cases slotOf k <;> rfl
 ·rw [slot_none hk]
def testedF (u : Test) (x y : Fact) : Fact × Fact := match x, y with
 | some v, some w => tested u v w
 | _, _ => (none, none)
theorem test_good {s : State} {t k j a b : Int} (ht : 0 ≤ t ∧ t ≤ 3) (hk : Slot k) (hj : Slot j) (ha : Slot a) (hb : Slot b) (hkj : k ≠ j) :
  step s (.test t k j a b) = ({ s with slots := (s.slots.set k.toNat (testedF (testN t.toNat) (factAt s a.toNat) (factAt s b.toNat)).1).set j.toNat (testedF (testN t.toNat) (factAt s a.toNat) (factAt s b.toNat)).2 },
   factTold (testedF (testN t.toNat) (factAt s a.toNat) (factAt s b.toNat)).1 ++ factTold (testedF (testN t.toNat) (factAt s a.toNat) (factAt s b.toNat)).2) := by
 show doTest s t k j a b = _
 unfold doTest
 rw [testOf_some ht, slot_some hk, slot_some hj]
 dsimp only
 have hne : ¬ k.toNat = j.toNat := by
  have := hk.1
  have := hj.1
  omega
 rw [if_neg hne, two_good ha hb]
 rfl
def verdictF (u : Test) (x y : Fact) : Int := match x, y with
 | some v, some w => int (verdict u v w)
 | _, _ => 0
theorem verdict_no {s : State} {t a b : Int} (h : ¬ (0 ≤ t ∧ t ≤ 3)) : step s (.verdict t a b) = (s, [-3]) := by
 show (match testOf t with | none => (s, [-3]) | some u => _) = _
 rw [testOf_none h]
theorem verdict_bad {s : State} {t a b : Int} (ht : 0 ≤ t ∧ t ≤ 3) (h : ∃ z ∈ [a, b], ¬ Slot z) : step s (.verdict t a b) = (s, [-2]) := by
 show (match testOf t with | none => (s, [-3]) | some u => onTwo s a b fun x y => (s, match x, y with | some v, some w => [int (verdict u v w)] | _, _ => [0])) = _
 rw [testOf_some ht]
 exact two_bad (ex2 h) _
theorem verdict_good {s : State} {t a b : Int} (ht : 0 ≤ t ∧ t ≤ 3) (ha : Slot a) (hb : Slot b) : step s (.verdict t a b) = (s, [verdictF (testN t.toNat) (factAt s a.toNat) (factAt s b.toNat)]) := by
 show (match testOf t with | none => (s, [-3]) | some u => onTwo s a b fun x y => (s, match x, y with | some v, some w => [int (verdict u v w)] | _, _ => [0])) = _
 rw [testOf_some ht]
 show onTwo s a b (fun x y => (s, match x, y with | some v, some w => [int (verdict (testN t.toNat) v w)] | _, _ => [0])) = _
 rw [two_good ha hb]
 unfold verdictF
 cases factAt s a.toNat with
 | none => rfl
 | some v =>
  cases factAt s b.toNat with
  | none => rfl
  | some w => rfl
theorem widen_good {s : State} {k a b : Int} {ts : List Int} (hk : Slot k) (ha : Slot a) (hb : Slot b) : step s (.widen k a b ts) = if numbersOk ts 8 = true then ({ s with slots := s.slots.set k.toNat (widenF ts (factAt s a.toNat) (factAt s b.toNat)) }, factTold (widenF ts (factAt s a.toNat) (factAt s b.toNat))) else (s, [-1]) := by
 refine (two_good ha hb _).trans ?_
 rw [slot_some hk, keep_good hk]
 rfl
theorem within_good {s : State} {a b : Int} (ha : Slot a) (hb : Slot b) : step s (.within a b) = (s, [bool (withinF (factAt s a.toNat) (factAt s b.toNat))]) := two_good ha hb fun x y => (s, [bool (withinF x y)])
theorem plus_good {s : State} {k a b : Int} (hk : Slot k) (ha : Slot a) (hb : Slot b) : step s (.plus k a b) = ({ s with slots := s.slots.set k.toNat (lift2 plus (factAt s a.toNat) (factAt s b.toNat)) }, factTold (lift2 plus (factAt s a.toNat) (factAt s b.toNat))) :=
 (two_good ha hb fun x y => keep s k (lift2 plus x y)).trans (keep_good hk _)
theorem minus_good {s : State} {k a b : Int} (hk : Slot k) (ha : Slot a) (hb : Slot b) : step s (.minus k a b) = ({ s with slots := s.slots.set k.toNat (lift2 minus (factAt s a.toNat) (factAt s b.toNat)) }, factTold (lift2 minus (factAt s a.toNat) (factAt s b.toNat))) :=
 (two_good ha hb fun x y => keep s k (lift2 minus x y)).trans (keep_good hk _)
theorem times_good {s : State} {k a b : Int} (hk : Slot k) (ha : Slot a) (hb : Slot b) : step s (.times k a b) = ({ s with slots := s.slots.set k.toNat (lift2 times (factAt s a.toNat) (factAt s b.toNat)) }, factTold (lift2 times (factAt s a.toNat) (factAt s b.toNat))) :=
 (two_good ha hb fun x y => keep s k (lift2 times x y)).trans (keep_good hk _)
def remF (n : Nat) (x : Fact) : Fact := x.bind fun v => remOf v n
theorem rem_good {s : State} {k a n : Int} (hk : Slot k) (ha : Slot a) : step s (.rem k a n) = if 1 ≤ n ∧ n ≤ 99 then ({ s with slots := s.slots.set k.toNat (remF n.toNat (factAt s a.toNat)) }, factTold (remF n.toNat (factAt s a.toNat))) else (s, [-4]) := by
 unfold step
 dsimp only
 rw [one_good ha, slot_some hk]
 show (match placeOf n 99 with | none => (s, [-4]) | some 0 => (s, [-4]) | some m => keep s k ((factAt s a.toNat).bind fun v => remOf v m)) = _
 unfold placeOf
 by_cases h0 : 0 ≤ n ∧ n ≤ 99
 ·rw [if_pos (show 0 ≤ n ∧ n ≤ int 99 from h0)]
  obtain ⟨m, rfl⟩ := Int.eq_ofNat_of_zero_le h0.1
  cases m with
  | zero => rw [if_neg (by omega)]; rfl
  | succ m =>
   rw [if_pos (by omega)]
   exact keep_good hk _
 ·rw [if_neg (show ¬ (0 ≤ n ∧ n ≤ int 99) from h0), if_neg (by omega)]
end KM
namespace KM
open Vadomb
theorem sub_len : ∀ {l k : List Int}, Up l → (∀ z ∈ l, z ∈ k) → l.length ≤ k.length
 | [], _, _, _ => Nat.zero_le _
 | a :: l, k, h, hs => by
  obtain ⟨h1, h2⟩ := List.pairwise_cons.mp h
  have ha := hs a (List.mem_cons_self ..)
  have ih := sub_len (l := l) (k := k.erase a) h2 fun z hz => (List.mem_erase_of_ne (by have := h1 z hz; omega)).mpr (hs z (List.mem_cons_of_mem _ hz))
  rw [List.length_erase_of_mem ha] at ih
  have : 0 < k.length := List.length_pos_of_mem ha
  rw [List.length_cons]
  omega
theorem sub_eq : ∀ {l k : List Int}, Up l → Up k → (∀ z ∈ l, z ∈ k) → k.length ≤ l.length → ∀ z ∈ k, z ∈ l := by
 intro l k hl hk hs hlen z hz
 by_cases hzl : z ∈ l
 ·exact hzl
 ·have h1 : l.length ≤ (k.erase z).length := sub_len hl fun y hy => (List.mem_erase_of_ne (fun e => hzl (by rw [← e]; exact hy))).mpr (hs y hy)
  rw [List.length_erase_of_mem hz] at h1
  have : 0 < k.length := List.length_pos_of_mem hz
  omega
theorem up_head {a : Int} {r : List Int} (h : Up (a :: r)) : ∀ z ∈ a :: r, a ≤ z := fun z hz => by
 rcases List.mem_cons.mp hz with e | m
 ·omega
 ·have := (List.pairwise_cons.mp h).1 z m
  omega
theorem last_mem {a b : Int} {r : List Int} : (a :: r).getLastD b ∈ a :: r := by
 have e2 : (a :: r).getLastD b = (a :: r).getLast (by simp) := by simp [List.getLastD_eq_getLast?, List.getLast?_eq_getLast]
 rw [e2]
 exact List.getLast_mem _
theorem up_last : ∀ {a b : Int} {r : List Int}, Up (a :: r) → ∀ z ∈ a :: r, z ≤ (a :: r).getLastD b
 | a, b, [], _, z, hz => by
  rw [List.mem_singleton] at hz
  subst hz
  exact Int.le_refl _
 | a, b, c :: r, h, z, hz => by
  have ih := up_last (a := c) (b := a) (r := r) (List.pairwise_cons.mp h).2
  have e : (a :: c :: r).getLastD b = (c :: r).getLastD a := rfl
  rw [e]
  rcases List.mem_cons.mp hz with e | m
  ·have h1 := (List.pairwise_cons.mp h).1 c (List.mem_cons_self ..)
   have h2 := ih c (List.mem_cons_self ..)
   omega
  ·exact ih z m
theorem has_few {v : Value} {l : List Int} (h : Few v l) (x : Int) : has v x = true ↔ x ∈ l := by
 unfold has
 rw [h.few]
 exact List.contains_iff_mem
theorem has_many {v : Value} (h : Many v) (x : Int) : has v x = true ↔ v.lo ≤ x ∧ x ≤ v.hi ∧ (v.mod : Int) ∣ x - v.rem ∧ (v.zero = true ∨ x ≠ 0) := by
 unfold has
 rw [h.nf]
 simp only [Bool.and_eq_true, decide_eq_true_eq, beq_iff_eq, Bool.or_eq_true, bne_iff_ne, Int.dvd_iff_emod_eq_zero]
theorem mem_steps {a : Int} {m : Nat} {z : Bool} {n : Nat} {x : Int} : x ∈ stepsFrom a m z n ↔ (∃ i : Nat, i < n ∧ x = a + (m : Int) * (i : Int)) ∧ (z = true ∨ x ≠ 0) := by
 unfold stepsFrom
 rw [List.mem_filter, List.mem_map]
 simp only [Bool.or_eq_true, bne_iff_ne, List.mem_range]
 constructor
 ·rintro ⟨⟨i, h, e⟩, hz⟩
  exact ⟨⟨i, h, e.symm⟩, hz⟩
 ·rintro ⟨⟨i, h, e⟩, hz⟩
  exact ⟨⟨i, h, e.symm⟩, hz⟩
theorem up_steps (a : Int) {m : Nat} (hm : 0 < m) (z : Bool) (n : Nat) : Up (stepsFrom a m z n) := by
 unfold stepsFrom
 refine List.Pairwise.filter _ ?_
 rw [List.pairwise_map]
 refine List.Pairwise.imp ?_ List.pairwise_lt_range
 intro i j h
 have : (m : Int) * (i : Int) < (m : Int) * (j : Int) := Int.mul_lt_mul_of_pos_left (by omega) (by omega)
 omega
theorem steps_le (a : Int) (m : Nat) (z : Bool) (n : Nat) : (stepsFrom a m z n).length ≤ n := by
 unfold stepsFrom
 refine Nat.le_trans (List.length_filter_le _ _) ?_
 rw [List.length_map, List.length_range]
 exact Nat.le_refl _
def elsF : Fact → List Int
 | none => []
 | some v => match v.few with
  | some l => l
  | none => stepsFrom v.lo v.mod v.zero (((v.hi - v.lo) / (v.mod : Int)).toNat + 1)
theorem els_few {v : Value} {l : List Int} (h : Few v l) : elsF (some v) = l := by
 unfold elsF
 dsimp only
 rw [h.few]
theorem els_many {v : Value} (h : Many v) : elsF (some v) = stepsFrom v.lo v.mod v.zero (((v.hi - v.lo) / (v.mod : Int)).toNat + 1) := by
 unfold elsF
 dsimp only
 rw [h.nf]
theorem Many.dl {v : Value} (h : Many v) : (v.mod : Int) ∣ v.lo - v.rem := by
 rw [← h.r0]
 exact Int.dvd_self_sub_emod
theorem Many.dh {v : Value} (h : Many v) : (v.mod : Int) ∣ v.hi - v.rem := by
 rw [← h.r1]
 exact Int.dvd_self_sub_emod
theorem els_up {f : Fact} (h : Wf f) : Up (elsF f) := by
 cases f with
 | none => exact List.Pairwise.nil
 | some v =>
  rcases wf_cases h with ⟨l, hl⟩ | hm
  ·rw [els_few hl]; exact hl.up
  ·rw [els_many hm]; exact up_steps _ hm.m0 _ _
theorem els_mem {f : Fact} (h : Wf f) (x : Int) : x ∈ elsF f ↔ hasIn f x = true := by
 cases f with
 | none => simp [elsF, hasIn]
 | some v =>
  show _ ↔ has v x = true
  rcases wf_cases h with ⟨l, hl⟩ | hm
  ·rw [els_few hl, has_few hl]
  ·rw [els_many hm, has_many hm, mem_steps]
   have m0 := hm.m0
   have hD : 0 ≤ (v.hi - v.lo) / (v.mod : Int) := Int.ediv_nonneg (by have := hm.le; omega) (by omega)
   constructor
   ·rintro ⟨⟨i, hi, rfl⟩, hz⟩
    have h1 : (i : Int) ≤ (v.hi - v.lo) / (v.mod : Int) := by omega
    have h2 : (i : Int) * (v.mod : Int) ≤ v.hi - v.lo := Int.le_trans (Int.mul_le_mul_of_nonneg_right h1 (by omega)) (Int.ediv_mul_le _ (by omega))
    have h3 : 0 ≤ (v.mod : Int) * (i : Int) := Int.mul_nonneg (by omega) (by omega)
    rw [Int.mul_comm] at h2
    refine ⟨by omega, by omega, ?_, hz⟩
    have : v.lo + (v.mod : Int) * (i : Int) - v.rem = (v.lo - v.rem) + (v.mod : Int) * (i : Int) := by omega
    rw [this]
    exact Int.dvd_add hm.dl (Int.dvd_mul_right _ _)
   ·rintro ⟨h1, h2, h3, hz⟩
    have h4 : (v.mod : Int) ∣ x - v.lo := by
     have : x - v.lo = (x - v.rem) - (v.lo - v.rem) := by omega
     rw [this]
     exact Int.dvd_sub h3 hm.dl
    obtain ⟨c, hc⟩ := h4
    have c0 : 0 ≤ c := by
     rcases Int.lt_or_le c 0 with hlt | hle
     ·have : (v.mod : Int) * c < 0 := Int.mul_neg_of_pos_of_neg (by omega) hlt
      omega
     ·exact hle
    have c1 : c ≤ (v.hi - v.lo) / (v.mod : Int) := by
     rw [Int.le_ediv_iff_mul_le (by omega)]
     rw [Int.mul_comm]
     omega
    refine ⟨⟨c.toNat, by omega, ?_⟩, hz⟩
    have : ((c.toNat : Nat) : Int) = c := by omega
    rw [this]
    omega
theorem els_len {f : Fact} (h : Wf f) : (elsF f).length = (f.map count).getD 0 := by
 cases f with
 | none => rfl
 | some v =>
  show _ = count v
  rcases wf_cases h with ⟨l, hl⟩ | hm
  ·rw [els_few hl]
   unfold count
   rw [hl.few]
  ·rw [els_many hm, count_many hm.nf]
   have m0 := hm.m0
   have hle := hm.le
   have hD : 0 ≤ (v.hi - v.lo) / (v.mod : Int) := Int.ediv_nonneg (by omega) (by omega)
   generalize hN : ((v.hi - v.lo) / (v.mod : Int)).toNat + 1 = N
   have s1 := steps_le v.lo v.mod v.zero N
   obtain ⟨s2, s3⟩ := steps_len (a := v.lo) m0 v.zero N
   by_cases hc : v.zero = false ∧ v.rem = 0 ∧ v.lo < 0 ∧ 0 < v.hi
   ·rw [if_pos hc]
    have hlt : (stepsFrom v.lo v.mod v.zero N).length < N := by
     have : (stepsFrom v.lo v.mod v.zero N).length < ((List.range N).map fun (i : Nat) => v.lo + (v.mod : Int) * (i : Int)).length := by
      unfold stepsFrom
      rw [List.length_filter_lt_length_iff_exists]
      have hd : (v.mod : Int) ∣ -v.lo := by
       rw [Int.dvd_neg]
       have := hm.dl
       rw [hc.2.1, Int.sub_zero] at this
       exact this
      obtain ⟨c, hcc⟩ := hd
      have c0 : 0 ≤ c := by
       rcases Int.lt_or_le c 0 with hlt | hle
       ·have : (v.mod : Int) * c < 0 := Int.mul_neg_of_pos_of_neg (by omega) hlt
        omega
       ·exact hle
      have c1 : c ≤ (v.hi - v.lo) / (v.mod : Int) := by
       rw [Int.le_ediv_iff_mul_le (by omega), Int.mul_comm]
       omega
      have cN : c.toNat < N := by clear s2 s3 s1; omega
      refine ⟨0, List.mem_map.mpr ⟨c.toNat, List.mem_range.mpr cN, ?_⟩, ?_⟩
      ·have : ((c.toNat : Nat) : Int) = c := by omega
       rw [this]
       clear s2 s3 s1
       omega
      ·rw [hc.1]
       simp
     rw [List.length_map, List.length_range] at this
     exact this
    omega
   ·rw [if_neg hc]
    rcases s3 with s3 | ⟨i, hi, e⟩
    ·omega
    ·cases hz : v.zero with
     | true =>
      have : stepsFrom v.lo v.mod true N = (List.range N).map fun (i : Nat) => v.lo + (v.mod : Int) * (i : Int) := by
       unfold stepsFrom
       exact List.filter_eq_self.mpr fun _ _ => rfl
      rw [this, List.length_map, List.length_range]
      rfl
     | false =>
      exfalso
      have z0 := hm.z0 hz
      have h1 : (i : Int) ≤ (v.hi - v.lo) / (v.mod : Int) := by omega
      have h2 : (i : Int) * (v.mod : Int) ≤ v.hi - v.lo := Int.le_trans (Int.mul_le_mul_of_nonneg_right h1 (by omega)) (Int.ediv_mul_le _ (by omega))
      have h3 : 0 ≤ (v.mod : Int) * (i : Int) := Int.mul_nonneg (by omega) (by omega)
      rw [Int.mul_comm] at h2
      refine hc ⟨hz, ?_, by omega, by omega⟩
      have h4 : v.lo % (v.mod : Int) = 0 := by
       have : v.lo = (v.mod : Int) * (-(i : Int)) := by rw [Int.mul_neg]; omega
       rw [this]
       exact Int.mul_emod_right _ _
      rw [← hm.r0]
      exact h4
structure Hull (S : Int → Prop) (v : Value) : Prop where
 lo : S v.lo
 hi : S v.hi
 ib : ∀ x, S x → -1000000 ≤ x ∧ x ≤ 1000000
 bd : ∀ x, S x → v.lo ≤ x ∧ x ≤ v.hi
 dv : ∀ x, S x → (v.mod : Int) ∣ x - v.lo
 gr : ∀ d : Nat, (∀ x, S x → (d : Int) ∣ x - v.lo) → d ∣ v.mod
 rm : v.rem = remBy v.mod v.lo
 ze : v.zero = true ↔ S 0
 f1 : ∀ l, v.few = some l → Up l ∧ l.length ≤ 6 ∧ ∀ x, x ∈ l ↔ S x
 f0 : v.few = none → ∃ l : List Int, Up l ∧ 7 ≤ l.length ∧ ∀ x ∈ l, S x
def HullF (S : Int → Prop) : Fact → Prop
 | none => ∀ x, ¬ S x
 | some v => Hull S v
theorem hull_congr {S T : Int → Prop} {f : Fact} (h : HullF S f) (e : ∀ x, S x ↔ T x) : HullF T f := by
 have : S = T := funext fun x => propext (e x)
 rw [← this]
 exact h
theorem hull_uniq {S : Int → Prop} {f g : Fact} (hf : HullF S f) (hg : HullF S g) : f = g := by
 cases f with
 | none =>
  cases g with
  | none => rfl
  | some w => exact absurd hg.lo (hf _)
 | some v =>
  cases g with
  | none => exact absurd hf.lo (hg _)
  | some w =>
   have hf' : Hull S v := hf
   have hg' : Hull S w := hg
   have e1 : v.lo = w.lo := by
    have := (hf'.bd _ hg'.lo).1
    have := (hg'.bd _ hf'.lo).1
    omega
   have e2 : v.hi = w.hi := by
    have := (hf'.bd _ hg'.hi).2
    have := (hg'.bd _ hf'.hi).2
    omega
   have e3 : v.mod = w.mod := Nat.dvd_antisymm (hg'.gr _ fun x hx => by rw [← e1]; exact hf'.dv x hx) (hf'.gr _ fun x hx => by rw [e1]; exact hg'.dv x hx)
   have e4 : v.rem = w.rem := by rw [hf'.rm, hg'.rm, e1, e3]
   have e5 : v.zero = w.zero := by
    have := hf'.ze.trans hg'.ze.symm
    cases hv : v.zero <;> cases hw : w.zero <;> rw [hv, hw] at this <;> simp at this ⊢
   have e6 : v.few = w.few := by
    cases hv : v.few with
    | none =>
     cases hw : w.few with
     | none => rfl
     | some k =>
      obtain ⟨l, u, l7, hl⟩ := hf'.f0 hv
      obtain ⟨_, k6, hk⟩ := hg'.f1 k hw
      have := sub_len u fun z hz => (hk z).mpr (hl z hz)
      omega
    | some l =>
     obtain ⟨u, l6, hl⟩ := hf'.f1 l hv
     cases hw : w.few with
     | none =>
      obtain ⟨k, u', k7, hk⟩ := hg'.f0 hw
      have := sub_len u' fun z hz => (hl z).mpr (hk z hz)
      omega
     | some k =>
      obtain ⟨u', k6, hk⟩ := hg'.f1 k hw
      rw [up_ext u u' fun z => (hl z).trans (hk z).symm]
   obtain ⟨a1, a2, a3, a4, a5, a6⟩ := v
   obtain ⟨b1, b2, b3, b4, b5, b6⟩ := w
   dsimp only at e1 e2 e3 e4 e5 e6
   rw [e1, e2, e3, e4, e5, e6]
theorem hull_few {l : List Int} (h1 : Up l) (h2 : InB l) (h3 : l.length ≤ 6) : HullF (fun x => x ∈ l) (ofFew l) := by
 cases l with
 | nil => exact fun x hx => by cases hx
 | cons a r =>
  refine { lo := List.mem_cons_self .., hi := last_mem (b := a), ib := h2, bd := fun x hx => ⟨up_head h1 x hx, up_last (b := a) h1 x hx⟩, dv := fun x hx => gcdOf_dvd hx, gr := fun d hd => ?_, rm := rfl, ze := List.contains_iff_mem, f1 := fun l e => ?_, f0 := fun e => ?_ }
  ·exact dvd_fold a r 0 (Nat.dvd_zero _) fun z hz => hd z (List.mem_cons_of_mem _ hz)
  ·have := Option.some.inj e
   subst this
   exact ⟨h1, h3, fun x => Iff.rfl⟩
  ·cases e
theorem Many.far {v : Value} (h : Many v) : v.lo + (v.mod : Int) * 6 ≤ v.hi ∧ (v.zero = false ∧ v.rem = 0 ∧ v.lo < 0 ∧ 0 < v.hi → v.lo + (v.mod : Int) * 7 ≤ v.hi) := by
 have hc := h.cnt
 rw [count_many h.nf] at hc
 have m0 := h.m0
 have hle := h.le
 have key : ∀ k : Int, k ≤ (v.hi - v.lo) / (v.mod : Int) → v.lo + (v.mod : Int) * k ≤ v.hi := fun k hk => by
  rw [Int.le_ediv_iff_mul_le (by omega), Int.mul_comm] at hk
  omega
 constructor
 ·refine key 6 ?_
  split at hc <;> omega
 ·intro hh
  rw [if_pos hh] at hc
  exact key 7 (by omega)
theorem wf_hull {f : Fact} (h : Wf f) : HullF (fun x => hasIn f x = true) f := by
 cases f with
 | none => exact fun x hx => by cases hx
 | some v =>
  rcases wf_cases h with ⟨l, hl⟩ | hm
  ·have := hull_few hl.up hl.inb hl.len
   rw [hl.eq] at this
   exact hull_congr this fun x => (has_few hl x).symm
  ·have m0 := hm.m0
   have far := hm.far
   have hz : v.zero = true ∨ v.lo ≠ 0 := by
    cases e : v.zero with
    | true => exact .inl rfl
    | false => exact .inr (hm.z0 e).1
   have hz' : v.zero = true ∨ v.hi ≠ 0 := by
    cases e : v.zero with
    | true => exact .inl rfl
    | false => exact .inr (hm.z0 e).2
   have hn : ∀ {x : Int}, hasIn (some v) x = true ↔ _ := fun {x} => has_many hm x
   have hlo : hasIn (some v) v.lo = true := hn.mpr ⟨Int.le_refl _, hm.le, hm.dl, hz⟩
   have hhi : hasIn (some v) v.hi = true := hn.mpr ⟨hm.le, Int.le_refl _, hm.dh, hz'⟩
   have hst : ∀ k : Int, 0 ≤ k → k ≤ 6 → (v.zero = true ∨ v.lo + (v.mod : Int) * k ≠ 0) → hasIn (some v) (v.lo + (v.mod : Int) * k) = true := fun k k0 k6 hz => by
    have h1 : (v.mod : Int) * k ≤ (v.mod : Int) * 6 := Int.mul_le_mul_of_nonneg_left k6 (by omega)
    have h2 : 0 ≤ (v.mod : Int) * k := Int.mul_nonneg (by omega) k0
    refine hn.mpr ⟨by omega, by omega, ?_, hz⟩
    have : v.lo + (v.mod : Int) * k - v.rem = (v.lo - v.rem) + (v.mod : Int) * k := by omega
    rw [this]
    exact Int.dvd_add hm.dl (Int.dvd_mul_right _ _)
   refine { lo := hlo, hi := hhi, ib := fun x hx => ?_, bd := fun x hx => ?_, dv := fun x hx => ?_, gr := fun d hd => ?_, rm := ?_, ze := ?_, f1 := fun l e => ?_, f0 := fun _ => ?_ }
   ·have := hn.mp hx
    have := hm.lb
    have := hm.hb
    omega
   ·have := hn.mp hx
    exact ⟨this.1, this.2.1⟩
   ·have := (hn.mp hx).2.2.1
    have e : x - v.lo = (x - v.rem) - (v.lo - v.rem) := by omega
    rw [e]
    exact Int.dvd_sub this hm.dl
   ·by_cases h1 : v.zero = true ∨ v.lo + (v.mod : Int) * 1 ≠ 0
    ·have := hd _ (hst 1 (by omega) (by omega) h1)
     have e : v.lo + (v.mod : Int) * 1 - v.lo = (v.mod : Int) := by omega
     rw [e] at this
     exact Int.natCast_dvd_natCast.mp this
    ·rw [not_or] at h1
     have n1 : v.lo + (v.mod : Int) * 1 = 0 := Decidable.not_not.mp h1.2
     have h2 := hd _ (hst 2 (by omega) (by omega) (.inr (by omega)))
     have h3 := hd _ (hst 3 (by omega) (by omega) (.inr (by omega)))
     have := Int.dvd_sub h3 h2
     have e : v.lo + (v.mod : Int) * 3 - v.lo - (v.lo + (v.mod : Int) * 2 - v.lo) = (v.mod : Int) := by omega
     rw [e] at this
     exact Int.natCast_dvd_natCast.mp this
   ·unfold remBy
    rw [if_neg (by omega)]
    exact hm.r0.symm
   ·constructor
    ·intro z
     obtain ⟨a1, a2, a3⟩ := hm.z1 z
     refine hn.mpr ⟨a2, a3, ?_, .inl z⟩
     rw [a1]
     exact Int.dvd_zero _
    ·intro q
     rcases (hn.mp q).2.2.2 with z | z
     ·exact z
     ·exact absurd rfl z
   ·rw [hm.nf] at e
    cases e
   ·refine ⟨elsF (some v), els_up h, ?_, fun x hx => (els_mem h x).mp hx⟩
    rw [els_len h]
    exact hm.cnt
theorem wf_ext {f g : Fact} (hf : Wf f) (hg : Wf g) (h : ∀ x, hasIn f x = true ↔ hasIn g x = true) : f = g := hull_uniq (wf_hull hf) (hull_congr (wf_hull hg) fun x => (h x).symm)
end KM
namespace KM
open Vadomb
theorem mem_row {u d : Int} {m : Nat} {z : Bool} (hm : 0 < m) (hmod : u % (m : Int) = d % (m : Int)) (hu : -1000000 ≤ u) (hd : d ≤ 1000000) (hz : z = false → u ≠ 0 ∧ d ≠ 0) (x : Int) :
  hasIn (rowF u d m z) x = true ↔ u ≤ x ∧ x ≤ d ∧ (m : Int) ∣ x - u ∧ (z = true ∨ x ≠ 0) := by
 have hk : (0 : Int) < (m : Int) := by omega
 have hW := wf_row hm hmod hu hd hz
 have ec : crosses u d m = true ↔ u ≤ 0 ∧ 0 ≤ d ∧ u % (m : Int) = 0 := by
  unfold crosses
  simp
 unfold rowF at hW ⊢
 by_cases hud : u > d
 ·rw [if_pos hud]
  constructor
  ·intro h; cases h
  ·rintro ⟨h1, h2, _⟩
   omega
 ·rw [if_neg hud] at hW ⊢
  dsimp only at hW ⊢
  by_cases hs : (d - u) / (m : Int) + 1 - (if crosses u d m = true ∧ z = false then 1 else 0) ≤ 6
  ·rw [if_pos hs] at hW ⊢
   have hmem : ∀ x, x ∈ ((List.range ((d - u) / (m : Int) + 1).toNat).map fun (i : Nat) => u + (i : Int) * (m : Int)).filter (fun x => x != 0 || z) ↔ u ≤ x ∧ x ≤ d ∧ (m : Int) ∣ x - u ∧ (z = true ∨ x ≠ 0) := fun x => by
    rw [List.mem_filter, List.mem_map]
    simp only [Bool.or_eq_true, bne_iff_ne, List.mem_range]
    constructor
    ·rintro ⟨⟨i, hi, rfl⟩, h0⟩
     have h1 : (i : Int) ≤ (d - u) / (m : Int) := by omega
     have h2 : (i : Int) * (m : Int) ≤ d - u := Int.le_trans (Int.mul_le_mul_of_nonneg_right h1 (by omega)) (Int.ediv_mul_le _ (by omega))
     have h3 : 0 ≤ (i : Int) * (m : Int) := Int.mul_nonneg (by omega) (by omega)
     refine ⟨by omega, by omega, ?_, h0.symm⟩
     have : u + (i : Int) * (m : Int) - u = (m : Int) * (i : Int) := by rw [Int.mul_comm]; omega
     rw [this]
     exact Int.dvd_mul_right _ _
    ·rintro ⟨h1, h2, ⟨c, hc⟩, h0⟩
     have c0 : 0 ≤ c := by
      rcases Int.lt_or_le c 0 with hlt | hle
      ·have : (m : Int) * c < 0 := Int.mul_neg_of_pos_of_neg (by omega) hlt
       omega
      ·exact hle
     have c1 : c ≤ (d - u) / (m : Int) := by
      rw [Int.le_ediv_iff_mul_le (by omega), Int.mul_comm]
      omega
     refine ⟨⟨c.toNat, by omega, ?_⟩, h0.symm⟩
     have : ((c.toNat : Nat) : Int) = c := by omega
     rw [this, Int.mul_comm]
     omega
   revert hW
   generalize ((List.range ((d - u) / (m : Int) + 1).toNat).map fun (i : Nat) => u + (i : Int) * (m : Int)).filter (fun x => x != 0 || z) = L at hmem ⊢
   intro hW
   rw [← hmem x]
   cases e : ofFew L with
   | none =>
    cases L with
    | nil => simp [hasIn]
    | cons a r => cases e
   | some v =>
    have hf := ofFew_few e
    show has v x = true ↔ _
    unfold has
    rw [hf]
    exact List.contains_iff_mem
  ·rw [if_neg hs] at hW ⊢
   have hM : Many _ := hW
   refine (has_many hM x).trans ?_
   dsimp only
   have edv : (m : Int) ∣ x - u % (m : Int) ↔ (m : Int) ∣ x - u := by
    have h1 : (m : Int) ∣ u - u % (m : Int) := Int.dvd_self_sub_emod
    constructor
    ·intro h
     have : x - u = (x - u % (m : Int)) - (u - u % (m : Int)) := by omega
     rw [this]; exact Int.dvd_sub h h1
    ·intro h
     have : x - u % (m : Int) = (x - u) + (u - u % (m : Int)) := by omega
     rw [this]; exact Int.dvd_add h h1
   rw [edv]
   constructor
   ·rintro ⟨h1, h2, h3, h4⟩
    refine ⟨h1, h2, h3, ?_⟩
    rcases h4 with h4 | h4
    ·rw [Bool.and_eq_true] at h4
     exact .inl h4.2
    ·exact .inr h4
   ·rintro ⟨h1, h2, h3, h4⟩
    refine ⟨h1, h2, h3, ?_⟩
    by_cases h0 : x = 0
    ·rcases h4 with h4 | h4
     ·refine .inl ?_
      rw [Bool.and_eq_true]
      refine ⟨ec.mpr ⟨by omega, by omega, ?_⟩, h4⟩
      rw [h0, Int.zero_sub, Int.dvd_neg] at h3
      exact Int.emod_eq_zero_of_dvd h3
     ·exact absurd h0 h4
    ·exact .inr h0
theorem mem_tidy (lo hi : Int) (m : Nat) (r : Int) (z : Bool) (x : Int) :
  hasIn (tidy lo hi m r z) x = true ↔ (-1000000 ≤ x ∧ x ≤ 1000000) ∧ lo ≤ x ∧ x ≤ hi ∧ (m : Int) ∣ x - r ∧ (z = true ∨ x ≠ 0) := by
 have eB : BOUND = 1000000 := rfl
 rcases Nat.eq_zero_or_pos m with h0 | hm
 ·subst h0
  unfold tidy
  rw [clamp_lo, clamp_hi]
  dsimp only
  rw [if_pos rfl, eB]
  have e0 : ((0 : Nat) : Int) ∣ x - r ↔ x = r := by
   constructor
   ·intro h
    have := Int.zero_dvd.mp h
    omega
   ·intro h
    rw [h, Int.sub_self]
    exact Int.dvd_zero _
  rw [e0]
  split
  ·rename_i h
   have : hasIn (ofFew [r]) x = true ↔ x = r := by
    show [r].contains x = true ↔ _
    rw [List.contains_iff_mem, List.mem_singleton]
   rw [this]
   constructor
   ·intro e
    subst e
    exact ⟨by omega, by omega, by omega, rfl, h.2.2⟩
   ·exact fun q => q.2.2.2.1
  ·rename_i h
   constructor
   ·intro q; cases q
   ·rintro ⟨h1, h2, h3, h4, h5⟩
    subst h4
    exact absurd ⟨by omega, by omega, h5⟩ h
 ·rw [tidy_row lo hi hm]
  have hk : (0 : Int) < (m : Int) := by omega
  have em := (lowEnd_mod (max lo (-BOUND)) m r z).trans (highEnd_mod (min hi BOUND) m r z).symm
  have emr := lowEnd_mod (max lo (-BOUND)) m r z
  have ul : ∀ x : Int, (m : Int) ∣ x - r → (z = true ∨ x ≠ 0) → (lowEnd (max lo (-BOUND)) m r z ≤ x ↔ max lo (-BOUND) ≤ x) := fun x hx h0 => by
   have u0 : 0 ≤ (r - max lo (-BOUND)) % (m : Int) := Int.emod_nonneg _ (by omega)
   have u1 : (r - max lo (-BOUND)) % (m : Int) < (m : Int) := Int.emod_lt_of_pos _ hk
   have key : max lo (-BOUND) ≤ x → max lo (-BOUND) + (r - max lo (-BOUND)) % (m : Int) ≤ x := fun h => by
    have h1 : (m : Int) ∣ x - (max lo (-BOUND) + (r - max lo (-BOUND)) % (m : Int)) := by
     have h2 : (m : Int) ∣ (r - max lo (-BOUND)) - (r - max lo (-BOUND)) % (m : Int) := Int.dvd_self_sub_emod
     have : x - (max lo (-BOUND) + (r - max lo (-BOUND)) % (m : Int)) = (x - r) + ((r - max lo (-BOUND)) - (r - max lo (-BOUND)) % (m : Int)) := by omega
     rw [this]
     exact Int.dvd_add hx h2
    obtain ⟨c, hc⟩ := h1
    have c0 : 0 ≤ c := by
     rcases Int.lt_or_le c 0 with hlt | hle
     ·have : (m : Int) * c ≤ (m : Int) * (-1) := Int.mul_le_mul_of_nonneg_left (by omega) (by omega)
      omega
     ·exact hle
    have : 0 ≤ (m : Int) * c := Int.mul_nonneg (by omega) c0
    omega
   unfold lowEnd
   split
   ·rename_i hh
    constructor
    ·intro h; omega
    ·intro h
     have h1 := key h
     rw [hh.1] at h1
     have hx0 : x ≠ 0 := by
      rcases h0 with h0 | h0
      ·rw [hh.2] at h0; cases h0
      ·exact h0
     have hmr : (m : Int) ∣ r := by
      have := up_mod (max lo (-BOUND)) r (k := (m : Int))
      rw [hh.1, Int.zero_emod] at this
      exact Int.dvd_of_emod_eq_zero this.symm
     have hmx : (m : Int) ∣ x := by
      have := Int.dvd_add hx hmr
      rw [Int.sub_add_cancel] at this
      exact this
     exact Int.le_of_dvd (by omega) hmx
   ·constructor
    ·intro h; omega
    ·exact key
  have dl : ∀ x : Int, (m : Int) ∣ x - r → (z = true ∨ x ≠ 0) → (x ≤ highEnd (min hi BOUND) m r z ↔ x ≤ min hi BOUND) := fun x hx h0 => by
   have u0 : 0 ≤ (min hi BOUND - r) % (m : Int) := Int.emod_nonneg _ (by omega)
   have u1 : (min hi BOUND - r) % (m : Int) < (m : Int) := Int.emod_lt_of_pos _ hk
   have key : x ≤ min hi BOUND → x ≤ min hi BOUND - (min hi BOUND - r) % (m : Int) := fun h => by
    have h1 : (m : Int) ∣ (min hi BOUND - (min hi BOUND - r) % (m : Int)) - x := by
     have h2 : (m : Int) ∣ (min hi BOUND - r) - (min hi BOUND - r) % (m : Int) := Int.dvd_self_sub_emod
     have : (min hi BOUND - (min hi BOUND - r) % (m : Int)) - x = ((min hi BOUND - r) - (min hi BOUND - r) % (m : Int)) - (x - r) := by omega
     rw [this]
     exact Int.dvd_sub h2 hx
    obtain ⟨c, hc⟩ := h1
    have c0 : 0 ≤ c := by
     rcases Int.lt_or_le c 0 with hlt | hle
     ·have : (m : Int) * c ≤ (m : Int) * (-1) := Int.mul_le_mul_of_nonneg_left (by omega) (by omega)
      omega
     ·exact hle
    have : 0 ≤ (m : Int) * c := Int.mul_nonneg (by omega) c0
    omega
   unfold highEnd
   split
   ·rename_i hh
    constructor
    ·intro h; omega
    ·intro h
     have h1 := key h
     rw [hh.1] at h1
     have hx0 : x ≠ 0 := by
      rcases h0 with h0 | h0
      ·rw [hh.2] at h0; cases h0
      ·exact h0
     have hmr : (m : Int) ∣ r := by
      have := down_mod (min hi BOUND) r (k := (m : Int))
      rw [hh.1, Int.zero_emod] at this
      exact Int.dvd_of_emod_eq_zero this.symm
     have hmx : (m : Int) ∣ -x := by
      rw [Int.dvd_neg]
      have := Int.dvd_add hx hmr
      rw [Int.sub_add_cancel] at this
      exact this
     have := Int.le_of_dvd (by omega) hmx
     omega
   ·constructor
    ·intro h; omega
    ·exact key
  have hu : -1000000 ≤ lowEnd (max lo (-BOUND)) m r z := by
   have : 0 ≤ (r - max lo (-BOUND)) % (m : Int) := Int.emod_nonneg _ (by omega)
   unfold lowEnd
   rw [eB] at *
   split <;> omega
  have hd : highEnd (min hi BOUND) m r z ≤ 1000000 := by
   have : 0 ≤ (min hi BOUND - r) % (m : Int) := Int.emod_nonneg _ (by omega)
   unfold highEnd
   rw [eB] at *
   split <;> omega
  have hz : z = false → lowEnd (max lo (-BOUND)) m r z ≠ 0 ∧ highEnd (min hi BOUND) m r z ≠ 0 := by
   intro hz
   unfold lowEnd highEnd
   constructor
   ·split
    ·omega
    ·rename_i h
     exact fun q => h ⟨q, hz⟩
   ·split
    ·omega
    ·rename_i h
     exact fun q => h ⟨q, hz⟩
  rw [mem_row hm em hu hd hz]
  have edv : (m : Int) ∣ x - lowEnd (max lo (-BOUND)) m r z ↔ (m : Int) ∣ x - r := by
   have h1 : (m : Int) ∣ lowEnd (max lo (-BOUND)) m r z - r := Int.dvd_of_emod_eq_zero (Int.emod_eq_emod_iff_emod_sub_eq_zero.mp emr)
   constructor
   ·intro h
    have : x - r = (x - lowEnd (max lo (-BOUND)) m r z) + (lowEnd (max lo (-BOUND)) m r z - r) := by omega
    rw [this]; exact Int.dvd_add h h1
   ·intro h
    have : x - lowEnd (max lo (-BOUND)) m r z = (x - r) - (lowEnd (max lo (-BOUND)) m r z - r) := by omega
    rw [this]; exact Int.dvd_sub h h1
  rw [edv]
  constructor
  ·rintro ⟨h1, h2, h3, h4⟩
   have a1 := (ul x h3 h4).mp h1
   have a2 := (dl x h3 h4).mp h2
   rw [eB] at a1 a2
   exact ⟨by omega, by omega, by omega, h3, h4⟩
  ·rintro ⟨h0, h1, h2, h3, h4⟩
   refine ⟨(ul x h3 h4).mpr (by rw [eB]; omega), (dl x h3 h4).mpr (by rw [eB]; omega), h3, h4⟩
theorem hull_tidy {S : Int → Prop} {lo hi : Int} {m : Nat} {r : Int} {z : Bool} (h : ∀ x, S x ↔ (-1000000 ≤ x ∧ x ≤ 1000000) ∧ lo ≤ x ∧ x ≤ hi ∧ (m : Int) ∣ x - r ∧ (z = true ∨ x ≠ 0)) : HullF S (tidy lo hi m r z) :=
 hull_congr (wf_hull (wf_tidy lo hi m r z)) fun x => (mem_tidy lo hi m r z x).trans (h x).symm
theorem hull_span {S : Int → Prop} {lo hi : Int} {m : Nat} {r : Int} {z : Bool} (h1 : S lo) (h2 : S hi) (ib : ∀ x, S x → -1000000 ≤ x ∧ x ≤ 1000000) (bd : ∀ x, S x → lo ≤ x ∧ x ≤ hi) (dv : ∀ x, S x → (m : Int) ∣ x - lo)
  (gr : ∀ d : Nat, (∀ x, S x → (d : Int) ∣ x - lo) → d ∣ m) (hr : (m : Int) ∣ lo - r) (ze : z = true ↔ S 0) (f0 : ∃ l : List Int, Up l ∧ 7 ≤ l.length ∧ ∀ x ∈ l, S x) : HullF S (tidy lo hi m r z) := by
 have hW := wf_tidy lo hi m r z
 have hz : ∀ x, S x → z = true ∨ x ≠ 0 := fun x hx => by
  by_cases e : x = 0
  ·subst e
   exact .inl (ze.mpr hx)
  ·exact .inr e
 have hT : ∀ x, S x → hasIn (tidy lo hi m r z) x = true := fun x hx => by
  refine (mem_tidy lo hi m r z x).mpr ⟨ib x hx, (bd x hx).1, (bd x hx).2, ?_, hz x hx⟩
  have : x - r = (x - lo) + (lo - r) := by omega
  rw [this]
  exact Int.dvd_add (dv x hx) hr
 have hH := wf_hull hW
 have hin : ∀ x, hasIn (tidy lo hi m r z) x = true → lo ≤ x ∧ x ≤ hi ∧ (m : Int) ∣ x - lo ∧ (z = true ∨ x ≠ 0) := fun x hx => by
  obtain ⟨_, a, b, c, d⟩ := (mem_tidy lo hi m r z x).mp hx
  refine ⟨a, b, ?_, d⟩
  have : x - lo = (x - r) - (lo - r) := by omega
  rw [this]
  exact Int.dvd_sub c hr
 cases e : tidy lo hi m r z with
 | none =>
  have := hT lo h1
  rw [e] at this
  cases this
 | some v =>
  rw [e] at hH hT hin
  have hv : Hull _ v := hH
  have elo : v.lo = lo := by
   have := (hin _ hv.lo).1
   have := (hv.bd _ (hT lo h1)).1
   omega
  have ehi : v.hi = hi := by
   have := (hin _ hv.hi).2.1
   have := (hv.bd _ (hT hi h2)).2
   omega
  have emod : v.mod = m := Nat.dvd_antisymm (gr _ fun x hx => by
    have := hv.dv x (hT x hx)
    rw [elo] at this
    exact this) (hv.gr _ fun x hx => by
    rw [elo]
    exact (hin x hx).2.2.1)
  refine { lo := by rw [elo]; exact h1, hi := by rw [ehi]; exact h2, ib := ib, bd := fun x hx => by rw [elo, ehi]; exact bd x hx, dv := fun x hx => by rw [elo, emod]; exact dv x hx, gr := fun d hd => by rw [emod]; rw [elo] at hd; exact gr d hd, rm := hv.rm, ze := ?_, f1 := fun l el => ?_, f0 := fun _ => f0 }
  ·rw [hv.ze]
   constructor
   ·intro q
    refine ze.mp ?_
    rcases (hin 0 q).2.2.2 with q | q
    ·exact q
    ·exact absurd rfl q
   ·intro q
    exact hT 0 q
  ·exfalso
   obtain ⟨k, uk, k7, hk⟩ := f0
   obtain ⟨_, l6, hl⟩ := hv.f1 l el
   have := sub_len uk fun x hx => (hl x).mpr (hT x (hk x hx))
   omega
theorem hull_ofList (l : List Int) : HullF (fun x => x ∈ l ∧ -1000000 ≤ x ∧ x ≤ 1000000) (ofList l) := by
 unfold ofList
 dsimp only
 have hu := up_rising (l.filter inBound)
 have hm : ∀ x, x ∈ rising (l.filter inBound) ↔ x ∈ l ∧ -1000000 ≤ x ∧ x ≤ 1000000 := fun x => by
  rw [mem_rising, List.mem_filter, inB_iff]
 generalize rising (l.filter inBound) = s at *
 have hib : InB s := fun x hx => ((hm x).mp hx).2
 by_cases h6 : s.length ≤ 6
 ·rw [if_pos (show s.length ≤ FEW from h6)]
  exact hull_congr (hull_few hu hib h6) hm
 ·rw [if_neg (show ¬ s.length ≤ FEW from h6)]
  refine hull_congr (S := fun x => x ∈ s) ?_ hm
  cases s with
  | nil => exact absurd (Nat.zero_le _) h6
  | cons a r =>
   refine hull_span (List.mem_cons_self ..) (last_mem (b := 0)) hib (fun x hx => ⟨up_head hu x hx, up_last (b := 0) hu x hx⟩) (fun x hx => gcdOf_dvd hx) (fun d hd => dvd_fold a r 0 (Nat.dvd_zero _) fun z hz => hd z (List.mem_cons_of_mem _ hz)) ?_ List.contains_iff_mem ⟨a :: r, hu, by omega, fun x hx => hx⟩
   show ((gcdOf (a :: r) : Nat) : Int) ∣ a - remBy (gcdOf (a :: r)) a
   unfold remBy
   split
   ·rw [Int.sub_self]; exact Int.dvd_zero _
   ·exact Int.dvd_self_sub_emod
theorem Hull.drem {S : Int → Prop} {v : Value} (h : Hull S v) : (v.mod : Int) ∣ v.lo - v.rem := by
 rw [h.rm]
 unfold remBy
 split
 ·rw [Int.sub_self]; exact Int.dvd_zero _
 ·exact Int.dvd_self_sub_emod
theorem hull_join {A B : Int → Prop} {f g : Fact} (hf : HullF A f) (hg : HullF B g) : HullF (fun x => A x ∨ B x) (joinF f g) := by
 cases f with
 | none => exact hull_congr hg fun x => ⟨fun h => .inr h, fun h => h.elim (fun q => absurd q (hf x)) id⟩
 | some v =>
  cases g with
  | none => exact hull_congr hf fun x => ⟨fun h => .inl h, fun h => h.elim id (fun q => absurd q (hg x))⟩
  | some w =>
   have hv : Hull A v := hf
   have hw : Hull B w := hg
   show HullF _ (join v w)
   have mixed : v.few = none ∨ w.few = none → join v w = tidy (if v.lo ≤ w.lo then v.lo else w.lo) (if v.hi ≤ w.hi then w.hi else v.hi) (commonMod v.mod v.rem w.mod w.rem) (remBy (commonMod v.mod v.rem w.mod w.rem) v.rem) (v.zero || w.zero) → HullF (fun x => A x ∨ B x) (join v w) := fun hn e => by
    rw [e]
    have dg : ∀ d : Nat, d ∣ commonMod v.mod v.rem w.mod w.rem ↔ d ∣ v.mod ∧ d ∣ w.mod ∧ (d : Int) ∣ v.rem - w.rem := fun d => by
     unfold commonMod
     rw [Nat.dvd_gcd_iff, Nat.dvd_gcd_iff, and_assoc]
     constructor
     ·rintro ⟨a, b, c⟩
      exact ⟨a, b, Int.dvd_natAbs.mp (Int.natCast_dvd_natCast.mpr c)⟩
     ·rintro ⟨a, b, c⟩
      exact ⟨a, b, Int.natCast_dvd_natCast.mp (Int.dvd_natAbs.mpr c)⟩
    obtain ⟨m1, m2, m3⟩ := (dg _).mp (Nat.dvd_refl (commonMod v.mod v.rem w.mod w.rem))
    have hgr : ∀ d : Nat, d ∣ v.mod → d ∣ w.mod → (d : Int) ∣ v.lo - w.lo → d ∣ commonMod v.mod v.rem w.mod w.rem := fun d d1 d2 d3 => (dg d).mpr ⟨d1, d2, by
     have q1 := Int.dvd_trans (Int.natCast_dvd_natCast.mpr d1) hv.drem
     have q2 := Int.dvd_trans (Int.natCast_dvd_natCast.mpr d2) hw.drem
     have : v.rem - w.rem = (v.lo - w.lo) - (v.lo - v.rem) + (w.lo - w.rem) := by omega
     rw [this]
     exact Int.dvd_add (Int.dvd_sub d3 q1) q2⟩
    generalize commonMod v.mod v.rem w.mod w.rem = m at *
    have q1 := Int.dvd_trans (Int.natCast_dvd_natCast.mpr m1) hv.drem
    have q2 := Int.dvd_trans (Int.natCast_dvd_natCast.mpr m2) hw.drem
    have q3 : (m : Int) ∣ v.lo - w.lo := by
     have : v.lo - w.lo = (v.lo - v.rem) + (v.rem - w.rem) - (w.lo - w.rem) := by omega
     rw [this]
     exact Int.dvd_sub (Int.dvd_add q1 m3) q2
    have ql : (m : Int) ∣ v.lo - (if v.lo ≤ w.lo then v.lo else w.lo) := by
     split
     ·rw [Int.sub_self]; exact Int.dvd_zero _
     ·exact q3
    have vb := hv.bd _ hv.hi
    have wb := hw.bd _ hw.hi
    refine hull_span ?_ ?_ (fun x hx => hx.elim (hv.ib x) (hw.ib x)) (fun x hx => ?_) (fun x hx => ?_) (fun d hd => ?_) ?_ ?_ ?_
    ·split
     ·exact .inl hv.lo
     ·exact .inr hw.lo
    ·split
     ·exact .inr hw.hi
     ·exact .inl hv.hi
    ·rcases hx with hx | hx
     ·have := hv.bd x hx
      constructor <;> split <;> omega
     ·have := hw.bd x hx
      constructor <;> split <;> omega
    ·rcases hx with hx | hx
     ·have e1 := Int.dvd_trans (Int.natCast_dvd_natCast.mpr m1) (hv.dv x hx)
      have : x - (if v.lo ≤ w.lo then v.lo else w.lo) = (x - v.lo) + (v.lo - (if v.lo ≤ w.lo then v.lo else w.lo)) := by omega
      rw [this]
      exact Int.dvd_add e1 ql
     ·have e1 := Int.dvd_trans (Int.natCast_dvd_natCast.mpr m2) (hw.dv x hx)
      have : x - (if v.lo ≤ w.lo then v.lo else w.lo) = (x - w.lo) - (v.lo - w.lo) + (v.lo - (if v.lo ≤ w.lo then v.lo else w.lo)) := by omega
      rw [this]
      exact Int.dvd_add (Int.dvd_sub e1 q3) ql
    ·have hv0 := hd _ (.inl hv.lo)
     have hw0 := hd _ (.inr hw.lo)
     refine hgr d (hv.gr d fun x hx => ?_) (hw.gr d fun x hx => ?_) ?_
     ·have := Int.dvd_sub (hd x (.inl hx)) hv0
      rw [show x - (if v.lo ≤ w.lo then v.lo else w.lo) - (v.lo - (if v.lo ≤ w.lo then v.lo else w.lo)) = x - v.lo by omega] at this
      exact this
     ·have := Int.dvd_sub (hd x (.inr hx)) hw0
      rw [show x - (if v.lo ≤ w.lo then v.lo else w.lo) - (w.lo - (if v.lo ≤ w.lo then v.lo else w.lo)) = x - w.lo by omega] at this
      exact this
     ·have := Int.dvd_sub hv0 hw0
      rw [show v.lo - (if v.lo ≤ w.lo then v.lo else w.lo) - (w.lo - (if v.lo ≤ w.lo then v.lo else w.lo)) = v.lo - w.lo by omega] at this
      exact this
    ·have e3 : (m : Int) ∣ v.rem - remBy m v.rem := by
      unfold remBy
      split
      ·rw [Int.sub_self]; exact Int.dvd_zero _
      ·exact Int.dvd_self_sub_emod
     have : (if v.lo ≤ w.lo then v.lo else w.lo) - remBy m v.rem = (v.lo - v.rem) + (v.rem - remBy m v.rem) - (v.lo - (if v.lo ≤ w.lo then v.lo else w.lo)) := by omega
     rw [this]
     exact Int.dvd_sub (Int.dvd_add q1 e3) ql
    ·rw [Bool.or_eq_true, hv.ze, hw.ze]
    ·rcases hn with hn | hn
     ·obtain ⟨l, a, b, c⟩ := hv.f0 hn
      exact ⟨l, a, b, fun x hx => .inl (c x hx)⟩
     ·obtain ⟨l, a, b, c⟩ := hw.f0 hn
      exact ⟨l, a, b, fun x hx => .inr (c x hx)⟩
   cases e1 : v.few with
   | none =>
    refine mixed (.inl e1) ?_
    unfold join
    rw [e1]
   | some a =>
    cases e2 : w.few with
    | none =>
     refine mixed (.inr e2) ?_
     unfold join
     rw [e1, e2]
    | some b =>
     have ej : join v w = ofList (a ++ b) := by
      unfold join
      rw [e1, e2]
     rw [ej]
     refine hull_congr (hull_ofList (a ++ b)) fun x => ?_
     obtain ⟨_, _, ha⟩ := hv.f1 a e1
     obtain ⟨_, _, hb⟩ := hw.f1 b e2
     rw [List.mem_append, ha x, hb x]
     constructor
     ·exact fun q => q.1
     ·exact fun q => ⟨q, q.elim (hv.ib x) (hw.ib x)⟩
theorem hull_fold {α : Type} (S : α → Int → Prop) (F : α → Fact) : ∀ (l : List α) (T : Int → Prop) (f : Fact), HullF T f → (∀ a ∈ l, HullF (S a) (F a)) → HullF (fun x => T x ∨ ∃ a ∈ l, S a x) ((l.map F).foldl joinF f)
 | [], T, f, h, _ => hull_congr h fun x => ⟨.inl, fun q => q.elim id (fun ⟨a, ha, _⟩ => by cases ha)⟩
 | a :: l, T, f, h, hl => by
  refine hull_congr (hull_fold S F l _ _ (hull_join h (hl a (List.mem_cons_self ..))) fun b hb => hl b (List.mem_cons_of_mem _ hb)) fun x => ?_
  constructor
  ·rintro ((q | q) | ⟨b, hb, q⟩)
   ·exact .inl q
   ·exact .inr ⟨a, List.mem_cons_self .., q⟩
   ·exact .inr ⟨b, List.mem_cons_of_mem _ hb, q⟩
  ·rintro (q | ⟨b, hb, q⟩)
   ·exact .inl (.inl q)
   ·rcases List.mem_cons.mp hb with e | hb
    ·subst e
     exact .inl (.inr q)
    ·exact .inr ⟨b, hb, q⟩
theorem hull_joinAll {α : Type} {S : α → Int → Prop} {F : α → Fact} {l : List α} (h : ∀ a ∈ l, HullF (S a) (F a)) : HullF (fun x => ∃ a ∈ l, S a x) (joinAll (l.map F)) :=
 hull_congr (hull_fold S F l (fun _ => False) none (fun _ q => q) h) fun x => ⟨fun q => q.elim False.elim id, .inr⟩
end KM
namespace KM
open Vadomb
theorem hull_shifted {v : Value} (h : Wf (some v)) (c : Int) : HullF (fun x => (-1000000 ≤ x ∧ x ≤ 1000000) ∧ has v (x - c) = true) (shifted v c) := by
 unfold shifted
 rcases wf_cases h with ⟨l, hl⟩ | hm
 ·rw [hl.few]
  refine hull_congr (hull_ofList _) fun x => ?_
  rw [has_few hl, List.mem_map]
  constructor
  ·rintro ⟨⟨n, hn, rfl⟩, hb⟩
   exact ⟨hb, by rw [Int.add_sub_cancel]; exact hn⟩
  ·rintro ⟨hb, hx⟩
   exact ⟨⟨x - c, hx, by omega⟩, hb⟩
 ·rw [hm.nf]
  dsimp only
  have hr := hm.rem0
  have m0 := hm.m0
  by_cases hh : hasHole v = true
  ·rw [if_pos hh]
   have hh' : v.zero = false ∧ v.rem = 0 ∧ v.lo < 0 ∧ 0 < v.hi := by
    unfold hasHole at hh
    rw [hm.nf] at hh
    simpa using hh
   obtain ⟨z0, r0, l0, h0⟩ := hh'
   refine hull_congr (hull_join (hull_tidy fun x => Iff.rfl) (hull_tidy fun x => Iff.rfl)) fun x => ?_
   rw [has_many hm (x - c), r0, z0]
   have ed : ∀ y : Int, (v.mod : Int) ∣ y → y ≠ 0 → y ≤ -(v.mod : Int) ∨ (v.mod : Int) ≤ y := fun y hy hy0 => by
    rcases Int.lt_or_le 0 y with hp | hp
    ·exact .inr (Int.le_of_dvd hp hy)
    ·have : (v.mod : Int) ≤ -y := Int.le_of_dvd (by omega) (Int.dvd_neg.mpr hy)
     exact .inl (by omega)
   have e1 : x - (0 + c) = x - c := by omega
   have e2 : x - c - 0 = x - c := by omega
   rw [e1, e2]
   constructor
   ·rintro (⟨b, a1, a2, a3, a4⟩ | ⟨b, a1, a2, a3, a4⟩)
    ·exact ⟨b, by omega, by omega, a3, .inr (by omega)⟩
    ·exact ⟨b, by omega, by omega, a3, .inr (by omega)⟩
   ·rintro ⟨b, a1, a2, a3, a4⟩
    have a5 : x - c ≠ 0 := by
     rcases a4 with q | q
     ·cases q
     ·exact q
    have a6 : has v (-c) = true ∨ x ≠ 0 := by
     by_cases hx : x = 0
     ·refine .inl ((has_many hm _).mpr ?_)
      have : -c = x - c := by omega
      rw [this, r0, e2]
      exact ⟨a1, a2, a3, .inr a5⟩
     ·exact .inr hx
    rcases ed _ a3 a5 with q | q
    ·exact .inl ⟨b, by omega, by omega, a3, a6⟩
    ·exact .inr ⟨b, by omega, by omega, a3, a6⟩
  ·rw [if_neg hh]
   refine hull_tidy fun x => ?_
   rw [has_many hm (x - c)]
   have e1 : x - (v.rem + c) = x - c - v.rem := by omega
   rw [e1]
   constructor
   ·rintro ⟨b, a1, a2, a3, a4⟩
    refine ⟨b, by omega, by omega, a3, ?_⟩
    by_cases hx : x = 0
    ·refine .inl ((has_many hm _).mpr ?_)
     have : -c = x - c := by omega
     rw [this]
     exact ⟨a1, a2, a3, a4⟩
    ·exact .inr hx
   ·rintro ⟨b, a1, a2, a3, a4⟩
    refine ⟨b, by omega, by omega, a3, ?_⟩
    cases hz : v.zero with
    | true => exact .inl rfl
    | false =>
     refine .inr fun hx => hh ?_
     have hz0 := hm.z0 hz
     rw [hx, Int.zero_sub, Int.dvd_neg] at a3
     have hr0 : v.rem = 0 := by
      rcases Int.lt_or_le 0 v.rem with hp | hp
      ·have := Int.le_of_dvd hp a3
       omega
      ·omega
     unfold hasHole
     rw [hm.nf, hz, hr0]
     simp
     omega
theorem hull_plus {f g : Fact} (hf : Wf f) (hg : Wf g) (h : (∀ v, f = some v → v.few ≠ none) ∨ ∀ v, g = some v → v.few ≠ none) :
  HullF (fun x => (-1000000 ≤ x ∧ x ≤ 1000000) ∧ ∃ y, hasIn f y = true ∧ hasIn g (x - y) = true) (lift2 plus f g) := by
 cases f with
 | none => exact fun x q => by obtain ⟨_, y, q, _⟩ := q; cases q
 | some v =>
  cases g with
  | none => exact fun x q => by obtain ⟨_, y, _, q⟩ := q; cases q
  | some w =>
   show HullF (fun x => (-1000000 ≤ x ∧ x ≤ 1000000) ∧ ∃ y, has v y = true ∧ has w (x - y) = true) (plus v w)
   rcases wf_cases hf with ⟨a, ha⟩ | ma
   ·rcases wf_cases hg with ⟨b, hb⟩ | mb
    ·have e : plus v w = ofList (a.flatMap fun x => b.map fun y => x + y) := by
      unfold plus
      rw [ha.few, hb.few]
     rw [e]
     refine hull_congr (hull_ofList _) fun x => ?_
     rw [List.mem_flatMap]
     constructor
     ·rintro ⟨⟨y, hy, hx⟩, bb⟩
      obtain ⟨z, hz, e⟩ := List.mem_map.mp hx
      refine ⟨bb, y, (has_few ha y).mpr hy, (has_few hb _).mpr ?_⟩
      have : x - y = z := by omega
      rw [this]; exact hz
     ·rintro ⟨bb, y, hy, hx⟩
      exact ⟨⟨y, (has_few ha y).mp hy, List.mem_map.mpr ⟨x - y, (has_few hb _).mp hx, by omega⟩⟩, bb⟩
    ·have e : plus v w = joinAll (a.map (shifted w)) := by
      unfold plus
      rw [ha.few, mb.nf]
     rw [e]
     refine hull_congr (hull_joinAll fun c _ => hull_shifted hg c) fun x => ?_
     constructor
     ·rintro ⟨c, hc, bb, hx⟩
      exact ⟨bb, c, (has_few ha c).mpr hc, hx⟩
     ·rintro ⟨bb, c, hc, hx⟩
      exact ⟨c, (has_few ha c).mp hc, bb, hx⟩
   ·rcases wf_cases hg with ⟨b, hb⟩ | mb
    ·have e : plus v w = joinAll (b.map (shifted v)) := by
      unfold plus
      rw [ma.nf, hb.few]
     rw [e]
     refine hull_congr (hull_joinAll fun c _ => hull_shifted hf c) fun x => ?_
     constructor
     ·rintro ⟨c, hc, bb, hx⟩
      refine ⟨bb, x - c, hx, ?_⟩
      have : x - (x - c) = c := by omega
      rw [this]
      exact (has_few hb c).mpr hc
     ·rintro ⟨bb, y, hy, hx⟩
      refine ⟨x - y, (has_few hb _).mp hx, bb, ?_⟩
      have : x - (x - y) = y := by omega
      rw [this]
      exact hy
    ·rcases h with h | h
     ·exact absurd ma.nf (h v rfl)
     ·exact absurd mb.nf (h w rfl)
theorem hull_scaled {v : Value} (h : Wf (some v)) (c : Int) : HullF (fun x => (-1000000 ≤ x ∧ x ≤ 1000000) ∧ ∃ y, has v y = true ∧ x = y * c) (scaled v c) := by
 unfold scaled
 rcases wf_cases h with ⟨l, hl⟩ | hm
 ·rw [hl.few]
  refine hull_congr (hull_ofList _) fun x => ?_
  rw [List.mem_map]
  constructor
  ·rintro ⟨⟨n, hn, e⟩, hb⟩
   exact ⟨hb, n, (has_few hl n).mpr hn, e.symm⟩
  ·rintro ⟨hb, n, hn, e⟩
   exact ⟨⟨n, (has_few hl n).mp hn, e.symm⟩, hb⟩
 ·rw [hm.nf]
  dsimp only
  by_cases hc : c = 0
  ·rw [if_pos hc]
   subst hc
   refine hull_congr (hull_few (List.pairwise_singleton _ _) (fun x hx => by rw [List.mem_singleton] at hx; subst hx; omega) (by show 1 ≤ 6; omega)) fun x => ?_
   rw [List.mem_singleton]
   constructor
   ·intro e
    subst e
    have hH : Hull _ v := wf_hull h
    exact ⟨by omega, v.lo, hH.lo, by omega⟩
   ·rintro ⟨_, y, _, e⟩
    rw [Int.mul_zero] at e
    exact e
  ·rw [if_neg hc]
   refine hull_tidy fun x => ?_
   have hca : 0 < (c.natAbs : Int) := by omega
   have ecm : ((v.mod * c.natAbs : Nat) : Int) = (v.mod : Int) * (c.natAbs : Int) := Int.natCast_mul ..
   rw [ecm]
   have dvc : ∀ y : Int, (v.mod : Int) * (c.natAbs : Int) ∣ y * c - v.rem * c ↔ (v.mod : Int) ∣ y - v.rem := fun y => by
    rw [← Int.sub_mul]
    have e1 : ((v.mod : Int) * (c.natAbs : Int)) ∣ (y - v.rem) * c ↔ ((v.mod : Int) * (c.natAbs : Int)) ∣ (y - v.rem) * (c.natAbs : Int) := by
     rcases Int.lt_or_le c 0 with hn | hp
     ·have : (c.natAbs : Int) = -c := by omega
      rw [this, Int.mul_neg, Int.mul_neg, Int.neg_dvd, Int.neg_dvd, Int.dvd_neg]
     ·have : (c.natAbs : Int) = c := by omega
      rw [this]
    rw [e1]
    exact Int.mul_dvd_mul_iff_right (by omega)
   have zc : ∀ y : Int, y * c = 0 ↔ y = 0 := fun y => by
    rw [Int.mul_eq_zero]
    exact ⟨fun q => q.elim id (fun q => absurd q hc), .inl⟩
   have bc : ∀ y : Int, (if 0 < c then v.lo * c else v.hi * c) ≤ y * c ∧ y * c ≤ (if 0 < c then v.hi * c else v.lo * c) ↔ v.lo ≤ y ∧ y ≤ v.hi := fun y => by
    by_cases hp : 0 < c
    ·rw [if_pos hp, if_pos hp]
     constructor
     ·rintro ⟨a, b⟩
      exact ⟨Int.le_of_mul_le_mul_right a hp, Int.le_of_mul_le_mul_right b hp⟩
     ·rintro ⟨a, b⟩
      exact ⟨Int.mul_le_mul_of_nonneg_right a (by omega), Int.mul_le_mul_of_nonneg_right b (by omega)⟩
    ·rw [if_neg hp, if_neg hp]
     have hn : 0 < -c := by omega
     have em : ∀ t : Int, t * c = -(t * -c) := fun t => by rw [Int.mul_neg, Int.neg_neg]
     rw [em y, em v.lo, em v.hi]
     constructor
     ·rintro ⟨a, b⟩
      exact ⟨Int.le_of_mul_le_mul_right (by omega) hn, Int.le_of_mul_le_mul_right (by omega) hn⟩
     ·rintro ⟨a, b⟩
      have := Int.mul_le_mul_of_nonneg_right a (show 0 ≤ -c by omega)
      have := Int.mul_le_mul_of_nonneg_right b (show 0 ≤ -c by omega)
      exact ⟨by omega, by omega⟩
   constructor
   ·rintro ⟨b, y, hy, rfl⟩
    obtain ⟨a1, a2, a3, a4⟩ := (has_many hm y).mp hy
    have := (bc y).mpr ⟨a1, a2⟩
    exact ⟨b, this.1, this.2, (dvc y).mpr a3, a4.imp id fun q e => q ((zc y).mp e)⟩
   ·rintro ⟨b, a1, a2, a3, a4⟩
    have hcx : c ∣ x := by
     have h1 : c ∣ (v.mod : Int) * (c.natAbs : Int) := Int.dvd_mul_of_dvd_right (Int.dvd_natAbs.mpr (Int.dvd_refl c))
     have h2 := Int.dvd_trans h1 a3
     have h3 := Int.dvd_add h2 (Int.dvd_mul_left v.rem c)
     rw [Int.sub_add_cancel] at h3
     exact h3
    obtain ⟨y, hy⟩ := hcx
    rw [Int.mul_comm] at hy
    subst hy
    have hb := (bc y).mp ⟨a1, a2⟩
    exact ⟨b, y, (has_many hm y).mpr ⟨hb.1, hb.2, (dvc y).mp a3, a4.imp id fun q e => q ((zc y).mpr e)⟩, rfl⟩
theorem hull_times {f g : Fact} (hf : Wf f) (hg : Wf g) (h : (∀ v, f = some v → v.few ≠ none) ∨ ∀ v, g = some v → v.few ≠ none) :
  HullF (fun x => (-1000000 ≤ x ∧ x ≤ 1000000) ∧ ∃ y z, hasIn f y = true ∧ hasIn g z = true ∧ x = y * z) (lift2 times f g) := by
 cases f with
 | none => exact fun x q => by obtain ⟨_, y, z, q, _⟩ := q; cases q
 | some v =>
  cases g with
  | none => exact fun x q => by obtain ⟨_, y, z, _, q, _⟩ := q; cases q
  | some w =>
   show HullF (fun x => (-1000000 ≤ x ∧ x ≤ 1000000) ∧ ∃ y z, has v y = true ∧ has w z = true ∧ x = y * z) (times v w)
   rcases wf_cases hf with ⟨a, ha⟩ | ma
   ·rcases wf_cases hg with ⟨b, hb⟩ | mb
    ·have e : times v w = ofList (a.flatMap fun x => b.map fun y => x * y) := by
      unfold times
      rw [ha.few, hb.few]
     rw [e]
     refine hull_congr (hull_ofList _) fun x => ?_
     rw [List.mem_flatMap]
     constructor
     ·rintro ⟨⟨y, hy, hx⟩, bb⟩
      obtain ⟨z, hz, e⟩ := List.mem_map.mp hx
      exact ⟨bb, y, z, (has_few ha y).mpr hy, (has_few hb _).mpr hz, e.symm⟩
     ·rintro ⟨bb, y, z, hy, hz, e⟩
      exact ⟨⟨y, (has_few ha y).mp hy, List.mem_map.mpr ⟨z, (has_few hb _).mp hz, e.symm⟩⟩, bb⟩
    ·have e : times v w = joinAll (a.map (scaled w)) := by
      unfold times
      rw [ha.few, mb.nf]
     rw [e]
     refine hull_congr (hull_joinAll fun c _ => hull_scaled hg c) fun x => ?_
     constructor
     ·rintro ⟨c, hc, bb, y, hy, e⟩
      exact ⟨bb, c, y, (has_few ha c).mpr hc, hy, by rw [e, Int.mul_comm]⟩
     ·rintro ⟨bb, c, y, hc, hy, e⟩
      exact ⟨c, (has_few ha c).mp hc, bb, y, hy, by rw [e, Int.mul_comm]⟩
   ·rcases wf_cases hg with ⟨b, hb⟩ | mb
    ·have e : times v w = joinAll (b.map (scaled v)) := by
      unfold times
      rw [ma.nf, hb.few]
     rw [e]
     refine hull_congr (hull_joinAll fun c _ => hull_scaled hf c) fun x => ?_
     constructor
     ·rintro ⟨c, hc, bb, y, hy, e⟩
      exact ⟨bb, y, c, hy, (has_few hb c).mpr hc, e⟩
     ·rintro ⟨bb, y, c, hy, hc, e⟩
      exact ⟨c, (has_few hb c).mp hc, bb, y, hy, e⟩
    ·rcases h with h | h
     ·exact absurd ma.nf (h v rfl)
     ·exact absurd mb.nf (h w rfl)
def handL (g : Fact) (p : Int) : List Int := match g with
 | none => []
 | some v => match v.few with
  | some l => l ++ (if has v p = true then [p] else [])
  | none => firstOf v 6 ++ [v.hi] ++ (if has v p = true then [p] else [])
theorem first_six {v : Value} (h : Many v) : ∃ i : Nat, firstOf v 6 = stepsFrom v.lo v.mod v.zero i ∧ 6 ≤ i ∧ (stepsFrom v.lo v.mod v.zero i).length = 6 ∧ v.lo + (v.mod : Int) * (i : Int) ≤ v.hi := by
 have m0 := h.m0
 have far := h.far
 have hb : ∀ i : Nat, i ≤ 7 → ∀ j : Nat, j < i → v.lo + (v.mod : Int) * (j : Int) ≤ v.hi := fun i hi j hj => by
  have : (v.mod : Int) * (j : Int) ≤ (v.mod : Int) * 6 := Int.mul_le_mul_of_nonneg_left (by omega) (by omega)
  omega
 obtain ⟨s1, s2⟩ := steps_len (a := v.lo) m0 v.zero 6
 have s3 := steps_le v.lo v.mod v.zero 6
 by_cases h6 : (stepsFrom v.lo v.mod v.zero 6).length = 6
 ·refine ⟨6, first_done h (hb 6 (by omega)) (by omega) (by omega) (.inr (by omega)), Nat.le_refl _, h6, far.1⟩
 ·obtain ⟨j, hj, e⟩ : ∃ i : Nat, i < 6 ∧ v.lo + (v.mod : Int) * (i : Int) = 0 := by
   rcases s2 with q | q
   ·omega
   ·exact q
  have hz : v.zero = false := by
   cases hz : v.zero with
   | false => rfl
   | true =>
    exfalso
    apply h6
    rw [hz]
    have : stepsFrom v.lo v.mod true 6 = (List.range 6).map fun (i : Nat) => v.lo + (v.mod : Int) * (i : Int) := by
     unfold stepsFrom
     exact List.filter_eq_self.mpr fun _ _ => rfl
    rw [this, List.length_map, List.length_range]
  have z0 := h.z0 hz
  have h2 := hb 6 (by omega) j hj
  have h3 : 0 ≤ (v.mod : Int) * (j : Int) := Int.mul_nonneg (by omega) (by omega)
  have hr : v.rem = 0 := by
   rw [← h.r0]
   have : v.lo = (v.mod : Int) * (-(j : Int)) := by rw [Int.mul_neg]; omega
   rw [this]
   exact Int.mul_emod_right _ _
  have f7 := far.2 ⟨hz, hr, by omega, by omega⟩
  have ess := steps_snoc v.lo v.mod v.zero 6
  have hne : (v.mod : Int) * (j : Int) < (v.mod : Int) * ((6 : Nat) : Int) := Int.mul_lt_mul_of_pos_left (by omega) (by omega)
  have hc : (v.zero || v.lo + (v.mod : Int) * ((6 : Nat) : Int) != 0) = true := by
   rw [Bool.or_eq_true, bne_iff_ne]
   exact .inr (by omega)
  rw [if_pos hc] at ess
  have hl7 : (stepsFrom v.lo v.mod v.zero 7).length = 6 := by
   rw [ess, List.length_append, List.length_singleton]
   omega
  exact ⟨7, first_done h (hb 7 (by omega)) (by omega) (by omega) (.inr (by omega)), by omega, hl7, f7⟩
theorem hull_hand {g : Fact} (hg : Wf g) {k c p : Int} (hk : k ≠ 0) (hp : ∀ y, hasIn g y = true → k * y + c = 0 → y = p) (hb : ∀ y, hasIn g y = true → -1000000 ≤ k * y + c ∧ k * y + c ≤ 1000000) {f : Fact}
  (h : HullF (fun x => ∃ y ∈ handL g p, x = k * y + c) f) : HullF (fun x => ∃ y, hasIn g y = true ∧ x = k * y + c) f := by
 cases g with
 | none =>
  refine hull_congr h fun x => ?_
  constructor
  ·rintro ⟨y, hy, _⟩
   cases hy
  ·rintro ⟨y, hy, _⟩
   cases hy
 | some v =>
  rcases wf_cases hg with ⟨l, hl⟩ | hm
  ·have e : ∀ y, y ∈ handL (some v) p ↔ has v y = true := fun y => by
    unfold handL
    dsimp only
    rw [hl.few]
    dsimp only
    rw [List.mem_append, has_few hl y]
    constructor
    ·rintro (q | q)
     ·exact q
     ·split at q
      ·rename_i h2
       rw [List.mem_singleton] at q
       rw [q]
       exact (has_few hl p).mp h2
      ·cases q
    ·exact .inl
   exact hull_congr h fun x => ⟨fun ⟨y, hy, e2⟩ => ⟨y, (e y).mp hy, e2⟩, fun ⟨y, hy, e2⟩ => ⟨y, (e y).mpr hy, e2⟩⟩
  ·obtain ⟨i, ei, i6, li, fi⟩ := first_six hm
   have m0 := hm.m0
   have hH : Hull _ v := wf_hull hg
   have hst : ∀ y, y ∈ stepsFrom v.lo v.mod v.zero i → has v y = true := fun y hy => by
    obtain ⟨⟨j, hj, e⟩, hz⟩ := mem_steps.mp hy
    have h1 : (v.mod : Int) * (j : Int) ≤ (v.mod : Int) * (i : Int) := Int.mul_le_mul_of_nonneg_left (by omega) (by omega)
    have h2 : 0 ≤ (v.mod : Int) * (j : Int) := Int.mul_nonneg (by omega) (by omega)
    refine (has_many hm y).mpr ⟨by omega, by omega, ?_, hz⟩
    have : y - v.rem = (v.lo - v.rem) + (v.mod : Int) * (j : Int) := by omega
    rw [this]
    exact Int.dvd_add hm.dl (Int.dvd_mul_right _ _)
   have eh : handL (some v) p = stepsFrom v.lo v.mod v.zero i ++ [v.hi] ++ (if has v p = true then [p] else []) := by
    unfold handL
    dsimp only
    rw [hm.nf]
    dsimp only
    rw [ei]
   have hT : ∀ y, y ∈ handL (some v) p → has v y = true := fun y hy => by
    rw [eh, List.mem_append, List.mem_append, List.mem_singleton] at hy
    rcases hy with (q | q) | q
    ·exact hst y q
    ·rw [q]; exact hH.hi
    ·split at q
     ·rename_i h2
      rw [List.mem_singleton] at q
      rw [q]; exact h2
     ·cases q
   have t1 : ∀ y, y ∈ stepsFrom v.lo v.mod v.zero i → y ∈ handL (some v) p := fun y hy => by
    rw [eh, List.mem_append, List.mem_append]
    exact .inl (.inl hy)
   have thi : v.hi ∈ handL (some v) p := by
    rw [eh, List.mem_append, List.mem_append]
    exact .inl (.inr (List.mem_singleton.mpr rfl))
   have tp : has v p = true → p ∈ handL (some v) p := fun q => by
    rw [eh, List.mem_append, if_pos q]
    exact .inr (List.mem_singleton.mpr rfl)
   have sm : ∀ j : Nat, j < i → (v.zero = true ∨ v.lo + (v.mod : Int) * (j : Int) ≠ 0) → v.lo + (v.mod : Int) * (j : Int) ∈ handL (some v) p := fun j hj hz => t1 _ (mem_steps.mpr ⟨⟨j, hj, rfl⟩, hz⟩)
   have hz : v.zero = true ∨ v.lo ≠ 0 := by
    cases e : v.zero with
    | true => exact .inl rfl
    | false => exact .inr (hm.z0 e).1
   have tlo : v.lo ∈ handL (some v) p := by
    have := sm 0 (by omega) (by simpa using hz)
    simpa using this
   have adj : ∃ y, y ∈ handL (some v) p ∧ y + (v.mod : Int) ∈ handL (some v) p := by
    by_cases h1 : v.zero = true ∨ v.lo + (v.mod : Int) * ((1 : Nat) : Int) ≠ 0
    ·refine ⟨v.lo, tlo, ?_⟩
     have := sm 1 (by omega) h1
     rw [show v.lo + (v.mod : Int) * ((1 : Nat) : Int) = v.lo + (v.mod : Int) by omega] at this
     exact this
    ·rw [not_or] at h1
     have n1 : v.lo + (v.mod : Int) * ((1 : Nat) : Int) = 0 := Decidable.not_not.mp h1.2
     have h2 := sm 2 (by omega) (.inr (by omega))
     have h3 := sm 3 (by omega) (.inr (by omega))
     refine ⟨_, h2, ?_⟩
     rw [show v.lo + (v.mod : Int) * ((2 : Nat) : Int) + (v.mod : Int) = v.lo + (v.mod : Int) * ((3 : Nat) : Int) by omega]
     exact h3
   have seven : ∃ l : List Int, Up l ∧ l.length = 7 ∧ ∀ y ∈ l, y ∈ handL (some v) p := by
    refine ⟨stepsFrom v.lo v.mod v.zero i ++ [v.hi], ?_, by rw [List.length_append, li]; rfl, fun y hy => ?_⟩
    ·refine List.pairwise_append.mpr ⟨up_steps _ m0 _ _, List.pairwise_singleton _ _, fun a ha b hb => ?_⟩
     rw [List.mem_singleton] at hb
     subst hb
     obtain ⟨⟨j, hj, e⟩, _⟩ := mem_steps.mp ha
     have h1 : (v.mod : Int) * (j : Int) < (v.mod : Int) * (i : Int) := Int.mul_lt_mul_of_pos_left (by omega) (by omega)
     omega
    ·rcases List.mem_append.mp hy with q | q
     ·exact t1 y q
     ·rw [List.mem_singleton] at q
      rw [q]; exact thi
   have seven' : ∃ l : List Int, Up l ∧ 7 ≤ l.length ∧ ∀ x ∈ l, ∃ y ∈ handL (some v) p, x = k * y + c := by
    obtain ⟨l, ul, l7, hl⟩ := seven
    rcases Int.lt_or_le k 0 with hn | hp'
    ·refine ⟨(l.map fun y => k * y + c).reverse, ?_, by rw [List.length_reverse, List.length_map]; omega, fun x hx => ?_⟩
     ·show List.Pairwise _ _
      rw [List.pairwise_reverse, List.pairwise_map]
      refine List.Pairwise.imp ?_ ul
      intro a b hab
      have : k * b < k * a := Int.mul_lt_mul_of_neg_left hab hn
      omega
     ·rw [List.mem_reverse] at hx
      obtain ⟨y, hy, e⟩ := List.mem_map.mp hx
      exact ⟨y, hl y hy, e.symm⟩
    ·refine ⟨l.map fun y => k * y + c, ?_, by rw [List.length_map]; omega, fun x hx => ?_⟩
     ·show List.Pairwise _ _
      rw [List.pairwise_map]
      refine List.Pairwise.imp ?_ ul
      intro a b hab
      have : k * a < k * b := Int.mul_lt_mul_of_pos_left hab (by omega)
      omega
     ·obtain ⟨y, hy, e⟩ := List.mem_map.mp hx
      exact ⟨y, hl y hy, e.symm⟩
   cases f with
   | none => exact absurd ⟨v.lo, tlo, rfl⟩ (h (k * v.lo + c))
   | some u =>
    have hu : Hull _ u := h
    have dvS : ∀ x, (∃ y, has v y = true ∧ x = k * y + c) → (u.mod : Int) ∣ x - u.lo := by
     rintro x ⟨y, hy, rfl⟩
     obtain ⟨y1, a1, a2⟩ := adj
     have d1 := hu.dv _ ⟨_, a1, rfl⟩
     have d2 := hu.dv _ ⟨_, a2, rfl⟩
     have d3 := hu.dv _ ⟨_, tlo, rfl⟩
     have d4 : (u.mod : Int) ∣ k * (v.mod : Int) := by
      have := Int.dvd_sub d2 d1
      rw [show k * (y1 + (v.mod : Int)) + c - u.lo - (k * y1 + c - u.lo) = k * (v.mod : Int) by rw [Int.mul_add]; omega] at this
      exact this
     obtain ⟨t, ht⟩ := hH.dv y hy
     have : k * y + c - u.lo = (k * v.lo + c - u.lo) + k * (v.mod : Int) * t := by
      have e1 : y = v.lo + (v.mod : Int) * t := by omega
      rw [e1, Int.mul_add, Int.mul_assoc]
      omega
     rw [this]
     exact Int.dvd_add d3 (Int.dvd_mul_of_dvd_left d4)
    obtain ⟨lo', hlo', elo⟩ := hu.lo
    obtain ⟨hi', hhi', ehi⟩ := hu.hi
    refine { lo := ⟨lo', hT _ hlo', elo⟩, hi := ⟨hi', hT _ hhi', ehi⟩, ib := fun x ⟨y, hy, e⟩ => by rw [e]; exact hb y hy, bd := ?_, dv := dvS, gr := fun d hd => hu.gr d fun x ⟨y, hy, e⟩ => hd x ⟨y, hT y hy, e⟩, rm := hu.rm, ze := ?_, f1 := fun l el => ?_, f0 := fun _ => ?_ }
    ·rintro x ⟨y, hy, rfl⟩
     have b1 := hu.bd _ ⟨_, tlo, rfl⟩
     have b2 := hu.bd _ ⟨_, thi, rfl⟩
     have b3 := hH.bd y hy
     rcases Int.lt_or_le k 0 with hn | hp'
     ·have := Int.mul_le_mul_of_nonpos_left (Int.le_of_lt hn) b3.1
      have := Int.mul_le_mul_of_nonpos_left (Int.le_of_lt hn) b3.2
      omega
     ·have := Int.mul_le_mul_of_nonneg_left b3.1 hp'
      have := Int.mul_le_mul_of_nonneg_left b3.2 hp'
      omega
    ·rw [hu.ze]
     constructor
     ·rintro ⟨y, hy, e⟩
      exact ⟨y, hT y hy, e⟩
     ·rintro ⟨y, hy, e⟩
      have ey := hp y hy e.symm
      subst ey
      exact ⟨y, tp hy, e⟩
    ·exfalso
     obtain ⟨_, l6, hl⟩ := hu.f1 l el
     obtain ⟨s, us, s7, hs⟩ := seven'
     have := sub_len us fun x hx => (hl x).mpr (hs x hx)
     omega
    ·obtain ⟨s, us, s7, hs⟩ := seven'
     refine ⟨s, us, s7, fun x hx => ?_⟩
     obtain ⟨y, hy, e⟩ := hs x hx
     exact ⟨y, hT y hy, e⟩
end KM
namespace KM
open Vadomb
def betweenF (f : Fact) (lo hi : Int) : Fact := match f with
 | none => none
 | some v => match v.few with
  | some l => ofFew (l.filter fun x => decide (lo ≤ x) && decide (x ≤ hi))
  | none => tidy (if v.lo > lo then v.lo else lo) (if v.hi < hi then v.hi else hi) v.mod v.rem v.zero
theorem between_few {v : Value} {l : List Int} (h : Few v l) (lo hi : Int) : betweenF (some v) lo hi = ofFew (l.filter fun x => decide (lo ≤ x) && decide (x ≤ hi)) := by
 unfold betweenF
 dsimp only
 rw [h.few]
theorem between_many {v : Value} (h : Many v) (lo hi : Int) : betweenF (some v) lo hi = tidy (if v.lo > lo then v.lo else lo) (if v.hi < hi then v.hi else hi) v.mod v.rem v.zero := by
 unfold betweenF
 dsimp only
 rw [h.nf]
theorem has_ofFew (l : List Int) (x : Int) : hasIn (ofFew l) x = true ↔ x ∈ l := by
 cases l with
 | nil => simp [ofFew, hasIn]
 | cons a r =>
  show (a :: r).contains x = true ↔ _
  exact List.contains_iff_mem
theorem wf_sub {v : Value} {l : List Int} (h : Few v l) (p : Int → Bool) : Wf (ofFew (l.filter p)) :=
 wf_few (List.Pairwise.filter _ h.up) (fun x hx => h.inb x (List.mem_filter.mp hx).1) (Nat.le_trans (List.length_filter_le _ _) h.len)
theorem wf_between {f : Fact} (h : Wf f) (lo hi : Int) : Wf (betweenF f lo hi) := by
 cases f with
 | none => trivial
 | some v =>
  rcases wf_cases h with ⟨l, hl⟩ | hm
  ·rw [between_few hl]; exact wf_sub hl _
  ·rw [between_many hm]; exact wf_tidy _ _ _ _ _
theorem mem_between {f : Fact} (h : Wf f) (lo hi x : Int) : hasIn (betweenF f lo hi) x = true ↔ hasIn f x = true ∧ lo ≤ x ∧ x ≤ hi := by
 cases f with
 | none =>
  constructor
  ·intro q
   cases q
  ·intro q
   cases q.1
 | some v =>
  rcases wf_cases h with ⟨l, hl⟩ | hm
  ·rw [between_few hl, has_ofFew, List.mem_filter, Bool.and_eq_true, decide_eq_true_eq, decide_eq_true_eq]
   show _ ↔ has v x = true ∧ _
   rw [has_few hl]
  ·rw [between_many hm, mem_tidy]
   show _ ↔ has v x = true ∧ _
   rw [has_many hm]
   have := hm.lb
   have := hm.hb
   constructor
   ·rintro ⟨a, b, c, d, e⟩
    exact ⟨⟨by split at b <;> omega, by split at c <;> omega, d, e⟩, by split at b <;> omega, by split at c <;> omega⟩
   ·rintro ⟨⟨a, b, c, d⟩, e, g⟩
    exact ⟨by omega, by split <;> omega, by split <;> omega, c, d⟩
def fewPlusL (a : List Int) (g : Fact) : List Int := a.flatMap fun n => (handL (betweenF g (-1000000 - n) (1000000 - n)) (-n)).map fun y => n + y
theorem hand_len (g : Fact) (h : Wf g) (p : Int) : (handL g p).length ≤ 8 := by
 cases g with
 | none => exact Nat.zero_le _
 | some v =>
  have e1 : (if has v p = true then [p] else []).length ≤ 1 := by split <;> simp
  rcases wf_cases h with ⟨l, hl⟩ | hm
  ·unfold handL
   dsimp only
   rw [hl.few]
   dsimp only
   rw [List.length_append]
   have := hl.len
   omega
  ·obtain ⟨i, ei, i6, li, fi⟩ := first_six hm
   unfold handL
   dsimp only
   rw [hm.nf]
   dsimp only
   rw [List.length_append, List.length_append, ei, li, List.length_singleton]
   omega
theorem hand_has {g : Fact} (h : Wf g) {p y : Int} (hy : y ∈ handL g p) : hasIn g y = true := by
 cases g with
 | none => cases hy
 | some v =>
  show has v y = true
  have hp : y ∈ (if has v p = true then [p] else []) → has v y = true := fun q => by
   split at q
   ·rename_i h2
    rw [List.mem_singleton] at q
    rw [q]; exact h2
   ·cases q
  rcases wf_cases h with ⟨l, hl⟩ | hm
  ·unfold handL at hy
   dsimp only at hy
   rw [hl.few] at hy
   dsimp only at hy
   rw [List.mem_append] at hy
   rcases hy with q | q
   ·exact (has_few hl y).mpr q
   ·exact hp q
  ·obtain ⟨i, ei, i6, li, fi⟩ := first_six hm
   unfold handL at hy
   dsimp only at hy
   rw [hm.nf] at hy
   dsimp only at hy
   rw [ei, List.mem_append, List.mem_append, List.mem_singleton] at hy
   have hH : Hull _ v := wf_hull h
   have m0 := hm.m0
   rcases hy with (q | q) | q
   ·obtain ⟨⟨j, hj, e⟩, hz⟩ := mem_steps.mp q
    have h1 : (v.mod : Int) * (j : Int) ≤ (v.mod : Int) * (i : Int) := Int.mul_le_mul_of_nonneg_left (by omega) (by omega)
    have h2 : 0 ≤ (v.mod : Int) * (j : Int) := Int.mul_nonneg (by omega) (by omega)
    refine (has_many hm y).mpr ⟨by omega, by omega, ?_, hz⟩
    have : y - v.rem = (v.lo - v.rem) + (v.mod : Int) * (j : Int) := by omega
    rw [this]
    exact Int.dvd_add hm.dl (Int.dvd_mul_right _ _)
   ·rw [q]; exact hH.hi
   ·exact hp q
theorem flat_len {α : Type} (a : List Int) (F : Int → List α) {n : Nat} (h : ∀ x ∈ a, (F x).length ≤ n) : (a.flatMap F).length ≤ a.length * n := by
 induction a with
 | nil => exact Nat.zero_le _
 | cons b r ih =>
  rw [List.flatMap_cons, List.length_append, List.length_cons, Nat.succ_mul]
  have := h b (List.mem_cons_self ..)
  have := ih fun x hx => h x (List.mem_cons_of_mem _ hx)
  omega
theorem plusL_in {a : List Int} {g : Fact} (hg : Wf g) : ∀ x ∈ fewPlusL a g, -1000000 ≤ x ∧ x ≤ 1000000 := fun x hx => by
 obtain ⟨n, hn, hx⟩ := List.mem_flatMap.mp hx
 obtain ⟨y, hy, e⟩ := List.mem_map.mp hx
 have := (mem_between hg _ _ y).mp (hand_has (wf_between hg _ _) hy)
 omega
theorem plusL_len {a : List Int} {g : Fact} (hg : Wf g) : (fewPlusL a g).length ≤ a.length * 8 := flat_len a _ fun n _ => by
 rw [List.length_map]
 exact hand_len _ (wf_between hg _ _) _
theorem hull_plusL {a : List Int} {g : Fact} (hg : Wf g) : HullF (fun x => (-1000000 ≤ x ∧ x ≤ 1000000) ∧ ∃ y ∈ a, hasIn g (x - y) = true) (ofList (fewPlusL a g)) := by
 have one : ∀ n : Int, HullF (fun x => ∃ y ∈ handL (betweenF g (-1000000 - n) (1000000 - n)) (-n), x = 1 * y + n) (ofList ((handL (betweenF g (-1000000 - n) (1000000 - n)) (-n)).map fun y => n + y)) := fun n => by
  refine hull_congr (hull_ofList _) fun x => ?_
  rw [List.mem_map]
  constructor
  ·rintro ⟨⟨y, hy, e⟩, _⟩
   exact ⟨y, hy, by omega⟩
  ·rintro ⟨y, hy, e⟩
   have := (mem_between hg _ _ y).mp (hand_has (wf_between hg _ _) hy)
   exact ⟨⟨y, hy, by omega⟩, by omega⟩
 have two : ∀ n : Int, HullF (fun x => ∃ y, hasIn (betweenF g (-1000000 - n) (1000000 - n)) y = true ∧ x = 1 * y + n) (ofList ((handL (betweenF g (-1000000 - n) (1000000 - n)) (-n)).map fun y => n + y)) := fun n =>
  hull_hand (wf_between hg _ _) (by omega) (fun y _ e => by omega) (fun y hy => by
   have := (mem_between hg _ _ y).mp hy
   omega) (one n)
 have A := hull_joinAll (l := a) (S := fun n x => ∃ y ∈ handL (betweenF g (-1000000 - n) (1000000 - n)) (-n), x = 1 * y + n) fun n _ => one n
 have B := hull_joinAll (l := a) (S := fun n x => ∃ y, hasIn (betweenF g (-1000000 - n) (1000000 - n)) y = true ∧ x = 1 * y + n) fun n _ => two n
 have C := hull_ofList (fewPlusL a g)
 have e : ofList (fewPlusL a g) = joinAll (a.map fun n => ofList ((handL (betweenF g (-1000000 - n) (1000000 - n)) (-n)).map fun y => n + y)) := by
  refine hull_uniq C (hull_congr A fun x => ?_)
  constructor
  ·rintro ⟨n, hn, y, hy, e⟩
   have hm : x ∈ fewPlusL a g := List.mem_flatMap.mpr ⟨n, hn, List.mem_map.mpr ⟨y, hy, by omega⟩⟩
   exact ⟨hm, plusL_in hg x hm⟩
  ·rintro ⟨hx, _⟩
   obtain ⟨n, hn, hx⟩ := List.mem_flatMap.mp hx
   obtain ⟨y, hy, e⟩ := List.mem_map.mp hx
   exact ⟨n, hn, y, hy, by omega⟩
 rw [e]
 refine hull_congr B fun x => ?_
 constructor
 ·rintro ⟨n, hn, y, hy, e⟩
  have q := (mem_between hg _ _ y).mp hy
  refine ⟨by omega, n, hn, ?_⟩
  have : x - n = y := by omega
  rw [this]
  exact q.1
 ·rintro ⟨b, n, hn, hx⟩
  exact ⟨n, hn, x - n, (mem_between hg _ _ _).mpr ⟨hx, by omega, by omega⟩, by omega⟩
theorem few_plus {f g : Fact} (hf : Wf f) (hg : Wf g) (h6 : ∀ v, f = some v → v.few ≠ none) : ofList (fewPlusL (elsF f) g) = lift2 plus f g ∧ ofList (fewPlusL (elsF f) g) = lift2 plus g f := by
 have C := hull_plusL (a := elsF f) hg
 constructor
 ·refine hull_uniq C (hull_congr (hull_plus hf hg (.inl h6)) fun x => ?_)
  constructor
  ·rintro ⟨b, y, hy, hx⟩
   exact ⟨b, y, (els_mem hf y).mpr hy, hx⟩
  ·rintro ⟨b, y, hy, hx⟩
   exact ⟨b, y, (els_mem hf y).mp hy, hx⟩
 ·refine hull_uniq C (hull_congr (hull_plus hg hf (.inr h6)) fun x => ?_)
  constructor
  ·rintro ⟨b, y, hy, hx⟩
   refine ⟨b, x - y, (els_mem hf _).mpr hx, ?_⟩
   rw [show x - (x - y) = y by omega]
   exact hy
  ·rintro ⟨b, y, hy, hx⟩
   refine ⟨b, x - y, hx, ?_⟩
   rw [show x - (x - y) = y by omega]
   exact (els_mem hf y).mp hy
def reach (n : Int) : Int := if n = 0 then 1000000 else 1000000 / (n.natAbs : Int)
def fewTimesL (a : List Int) (g : Fact) : List Int := a.flatMap fun n => (handL (betweenF g (-(reach n)) (reach n)) 0).map fun y => n * y
theorem reach_iff {n y : Int} (hn : n ≠ 0) : (-(reach n) ≤ y ∧ y ≤ reach n) ↔ (-1000000 ≤ n * y ∧ n * y ≤ 1000000) := by
 have ha : 0 < (n.natAbs : Int) := by omega
 have e : reach n = 1000000 / (n.natAbs : Int) := by unfold reach; rw [if_neg hn]
 have key : ∀ t : Int, t ≤ reach n ↔ t * (n.natAbs : Int) ≤ 1000000 := fun t => by
  rw [e]
  exact Int.le_ediv_iff_mul_le ha
 have k1 := key y
 have k2 := key (-y)
 rw [Int.neg_mul] at k2
 have e2 : (-(reach n) ≤ y ∧ y ≤ reach n) ↔ (-y ≤ reach n ∧ y ≤ reach n) := by omega
 rw [e2, k1, k2]
 rcases Int.lt_or_le n 0 with h | h
 ·have : (n.natAbs : Int) = -n := by omega
  rw [this, Int.mul_neg, Int.mul_comm n y]
  omega
 ·have : (n.natAbs : Int) = n := by omega
  rw [this, Int.mul_comm n y]
  omega
theorem reach_b (n : Int) : 0 ≤ reach n ∧ reach n ≤ 1000000 := by
 unfold reach
 split
 ·omega
 ·exact ⟨Int.ediv_nonneg (by omega) (by omega), Int.ediv_le_self _ (by omega)⟩
theorem times_b {g : Fact} (hg : Wf g) {n y : Int} (hy : hasIn (betweenF g (-(reach n)) (reach n)) y = true) : -1000000 ≤ n * y ∧ n * y ≤ 1000000 := by
 have := (mem_between hg _ _ y).mp hy
 by_cases h0 : n = 0
 ·subst h0
  rw [Int.zero_mul]
  omega
 ·exact (reach_iff h0).mp this.2
theorem timesL_in {a : List Int} {g : Fact} (hg : Wf g) : ∀ x ∈ fewTimesL a g, -1000000 ≤ x ∧ x ≤ 1000000 := fun x hx => by
 obtain ⟨n, hn, hx⟩ := List.mem_flatMap.mp hx
 obtain ⟨y, hy, e⟩ := List.mem_map.mp hx
 rw [← e]
 exact times_b hg (hand_has (wf_between hg _ _) hy)
theorem timesL_len {a : List Int} {g : Fact} (hg : Wf g) : (fewTimesL a g).length ≤ a.length * 8 := flat_len a _ fun n _ => by
 rw [List.length_map]
 exact hand_len _ (wf_between hg _ _) _
theorem hand_ne {g : Fact} (h : Wf g) (p : Int) (y : Int) (hy : hasIn g y = true) : ∃ z, z ∈ handL g p := by
 cases g with
 | none => cases hy
 | some v =>
  rcases wf_cases h with ⟨l, hl⟩ | hm
  ·refine ⟨y, ?_⟩
   unfold handL
   dsimp only
   rw [hl.few]
   exact List.mem_append_left _ ((has_few hl y).mp hy)
  ·refine ⟨v.hi, ?_⟩
   unfold handL
   dsimp only
   rw [hm.nf]
   dsimp only
   rw [List.mem_append, List.mem_append]
   exact .inl (.inr (List.mem_singleton.mpr rfl))
theorem hull_timesL {a : List Int} {g : Fact} (hg : Wf g) : HullF (fun x => (-1000000 ≤ x ∧ x ≤ 1000000) ∧ ∃ n ∈ a, ∃ y, hasIn g y = true ∧ x = n * y) (ofList (fewTimesL a g)) := by
 have one : ∀ n : Int, HullF (fun x => ∃ y ∈ handL (betweenF g (-(reach n)) (reach n)) 0, x = n * y + 0) (ofList ((handL (betweenF g (-(reach n)) (reach n)) 0).map fun y => n * y)) := fun n => by
  refine hull_congr (hull_ofList _) fun x => ?_
  rw [List.mem_map]
  constructor
  ·rintro ⟨⟨y, hy, e⟩, _⟩
   exact ⟨y, hy, by omega⟩
  ·rintro ⟨y, hy, e⟩
   have := times_b hg (hand_has (wf_between hg _ _) hy)
   exact ⟨⟨y, hy, by omega⟩, by omega⟩
 have two : ∀ n : Int, HullF (fun x => ∃ y, hasIn (betweenF g (-(reach n)) (reach n)) y = true ∧ x = n * y + 0) (ofList ((handL (betweenF g (-(reach n)) (reach n)) 0).map fun y => n * y)) := fun n => by
  by_cases h0 : n = 0
  ·subst h0
   refine hull_congr (one 0) fun x => ?_
   constructor
   ·rintro ⟨y, hy, e⟩
    exact ⟨y, hand_has (wf_between hg _ _) hy, e⟩
   ·rintro ⟨y, hy, e⟩
    obtain ⟨z, hz⟩ := hand_ne (wf_between hg _ _) 0 y hy
    refine ⟨z, hz, ?_⟩
    rw [e, Int.zero_mul, Int.zero_mul]
  ·refine hull_hand (wf_between hg _ _) h0 (fun y _ e => ?_) (fun y hy => ?_) (one n)
   ·rw [Int.add_zero, Int.mul_eq_zero] at e
    exact e.elim (fun q => absurd q h0) id
   ·rw [Int.add_zero]
    exact times_b hg hy
 have A := hull_joinAll (l := a) (S := fun n x => ∃ y ∈ handL (betweenF g (-(reach n)) (reach n)) 0, x = n * y + 0) fun n _ => one n
 have B := hull_joinAll (l := a) (S := fun n x => ∃ y, hasIn (betweenF g (-(reach n)) (reach n)) y = true ∧ x = n * y + 0) fun n _ => two n
 have C := hull_ofList (fewTimesL a g)
 have e : ofList (fewTimesL a g) = joinAll (a.map fun n => ofList ((handL (betweenF g (-(reach n)) (reach n)) 0).map fun y => n * y)) := by
  refine hull_uniq C (hull_congr A fun x => ?_)
  constructor
  ·rintro ⟨n, hn, y, hy, e⟩
   have hm : x ∈ fewTimesL a g := List.mem_flatMap.mpr ⟨n, hn, List.mem_map.mpr ⟨y, hy, by omega⟩⟩
   exact ⟨hm, timesL_in hg x hm⟩
  ·rintro ⟨hx, _⟩
   obtain ⟨n, hn, hx⟩ := List.mem_flatMap.mp hx
   obtain ⟨y, hy, e⟩ := List.mem_map.mp hx
   exact ⟨n, hn, y, hy, by omega⟩
 rw [e]
 refine hull_congr B fun x => ?_
 constructor
 ·rintro ⟨n, hn, y, hy, e⟩
  have h1 := times_b hg hy
  have h2 := (mem_between hg _ _ y).mp hy
  exact ⟨by omega, n, hn, y, h2.1, by omega⟩
 ·rintro ⟨b, n, hn, y, hy, e⟩
  by_cases h0 : n = 0
  ·subst h0
   have hin := (wf_hull hg)
   have hyb : -1000000 ≤ y ∧ y ≤ 1000000 := by
    cases g with
    | none => cases hy
    | some v =>
     have hv : Hull _ v := hin
     exact hv.ib y hy
   refine ⟨0, hn, y, (mem_between hg _ _ y).mpr ⟨hy, ?_, ?_⟩, by omega⟩
   ·show -(reach 0) ≤ y
    rw [show reach 0 = 1000000 from rfl]
    omega
   ·show y ≤ reach 0
    rw [show reach 0 = 1000000 from rfl]
    omega
  ·have := (reach_iff h0 (y := y)).mpr (by omega)
   exact ⟨n, hn, y, (mem_between hg _ _ y).mpr ⟨hy, this.1, this.2⟩, by omega⟩
theorem few_times {f g : Fact} (hf : Wf f) (hg : Wf g) (h6 : ∀ v, f = some v → v.few ≠ none) : ofList (fewTimesL (elsF f) g) = lift2 times f g ∧ ofList (fewTimesL (elsF f) g) = lift2 times g f := by
 have C := hull_timesL (a := elsF f) hg
 constructor
 ·refine hull_uniq C (hull_congr (hull_times hf hg (.inl h6)) fun x => ?_)
  constructor
  ·rintro ⟨b, y, z, hy, hz, e⟩
   exact ⟨b, y, (els_mem hf y).mpr hy, z, hz, e⟩
  ·rintro ⟨b, y, hy, z, hz, e⟩
   exact ⟨b, y, z, (els_mem hf y).mp hy, hz, e⟩
 ·refine hull_uniq C (hull_congr (hull_times hg hf (.inr h6)) fun x => ?_)
  constructor
  ·rintro ⟨b, y, z, hy, hz, e⟩
   exact ⟨b, z, (els_mem hf z).mpr hz, y, hy, by rw [e, Int.mul_comm]⟩
  ·rintro ⟨b, y, hy, z, hz, e⟩
   exact ⟨b, z, y, hz, (els_mem hf y).mp hy, by rw [e, Int.mul_comm]⟩
end KM
namespace KM
open Vadomb
theorem crt {m n : Nat} {r s : Int} (hb : n < 2 ^ 31) (h : (s - r) % ((Nat.gcd m n : Nat) : Int) = 0) : ∃ x : Int, (m : Int) ∣ x - r ∧ (n : Int) ∣ x - s := by
 have hB := bez 31 64 m n hb (by omega)
 generalize bezout 64 (m : Int) (n : Int) = p at *
 obtain ⟨p1, p2⟩ := p
 dsimp only at *
 have et : (s - r) / ((Nat.gcd m n : Nat) : Int) * ((Nat.gcd m n : Nat) : Int) = s - r := Int.ediv_mul_cancel (Int.dvd_of_emod_eq_zero h)
 generalize (s - r) / ((Nat.gcd m n : Nat) : Int) = t at *
 refine ⟨r + (m : Int) * (p1 * t), ?_, ?_⟩
 ·rw [show r + (m : Int) * (p1 * t) - r = (m : Int) * (p1 * t) by omega]
  exact Int.dvd_mul_right _ _
 ·have e1 : (m : Int) * (p1 * t) = (s - r) - (n : Int) * (p2 * t) := by
   have e2 : t * ((m : Int) * p1) = (m : Int) * (p1 * t) := by rw [Int.mul_comm, Int.mul_assoc]
   have e3 : t * ((n : Int) * p2) = (n : Int) * (p2 * t) := by rw [Int.mul_comm, Int.mul_assoc]
   rw [← et, ← hB, Int.mul_add, e2, e3]
   omega
  rw [e1]
  rw [show r + (s - r - (n : Int) * (p2 * t)) - s = -((n : Int) * (p2 * t)) by omega, Int.dvd_neg]
  exact Int.dvd_mul_right _ _
theorem both_iff {m n : Nat} {r s : Int} (hm : 0 < m) (hn : 0 < n) (hb : n < 2 ^ 31) (h : (s - r) % ((Nat.gcd m n : Nat) : Int) = 0) :
  ∃ y, bothRem m r n s = some (m / Nat.gcd m n * n, y) ∧ ∀ x : Int, ((m / Nat.gcd m n * n : Nat) : Int) ∣ x - y ↔ (m : Int) ∣ x - r ∧ (n : Int) ∣ x - s := by
 obtain ⟨y, e, hy⟩ := bothRem_some hm hn hb h
 obtain ⟨x0, a1, a2⟩ := crt hb h
 have h0 := hy x0 a1 a2
 have d1 : (m : Int) ∣ ((m / Nat.gcd m n * n : Nat) : Int) := by
  refine Int.natCast_dvd_natCast.mpr ?_
  have e : m / Nat.gcd m n * n = m * (n / Nat.gcd m n) := by
   rw [← Nat.mul_div_assoc m (Nat.gcd_dvd_right m n), Nat.div_mul_right_comm (Nat.gcd_dvd_left m n)]
  rw [e]
  exact Nat.dvd_mul_right _ _
 have d2 : (n : Int) ∣ ((m / Nat.gcd m n * n : Nat) : Int) := Int.natCast_dvd_natCast.mpr (Nat.dvd_mul_left _ _)
 refine ⟨y, e, fun x => ⟨fun q => ?_, fun q => hy x q.1 q.2⟩⟩
 have q1 : ((m / Nat.gcd m n * n : Nat) : Int) ∣ x - x0 := by
  rw [show x - x0 = (x - y) - (x0 - y) by omega]
  exact Int.dvd_sub q h0
 constructor
 ·rw [show x - r = (x - x0) + (x0 - r) by omega]
  exact Int.dvd_add (Int.dvd_trans d1 q1) a1
 ·rw [show x - s = (x - x0) + (x0 - s) by omega]
  exact Int.dvd_add (Int.dvd_trans d2 q1) a2
theorem mem_meet {f g : Fact} (hf : Wf f) (hg : Wf g) (x : Int) : hasIn (meetF f g) x = true ↔ hasIn f x = true ∧ hasIn g x = true := by
 cases f with
 | none =>
  constructor
  ·intro q; cases q
  ·intro q; cases q.1
 | some v =>
  cases g with
  | none =>
   constructor
   ·intro q; cases q
   ·intro q; cases q.2
  | some w =>
   show hasIn (meet v w) x = true ↔ has v x = true ∧ has w x = true
   rcases wf_cases hf with ⟨l, hl⟩ | hm
   ·have e : meet v w = ofFew (l.filter (has w)) := by
     unfold meet
     rw [hl.few]
     exact ofList_few (List.Pairwise.filter _ hl.up) (fun z hz => hl.inb z (List.mem_filter.mp hz).1) (Nat.le_trans (List.length_filter_le _ _) hl.len)
    rw [e, has_ofFew, List.mem_filter, has_few hl]
   ·rcases wf_cases hg with ⟨k, hk⟩ | hn
    ·have e : meet v w = ofFew (k.filter (has v)) := by
      unfold meet
      rw [hm.nf, hk.few]
      exact ofList_few (List.Pairwise.filter _ hk.up) (fun z hz => hk.inb z (List.mem_filter.mp hz).1) (Nat.le_trans (List.length_filter_le _ _) hk.len)
     rw [e, has_ofFew, List.mem_filter, has_few hk]
     exact And.comm
    ·have e : meet v w = (bothRem v.mod v.rem w.mod w.rem).bind fun x => tidy (if v.lo ≤ w.lo then w.lo else v.lo) (if v.hi ≤ w.hi then v.hi else w.hi) x.1 x.2 (v.zero && w.zero) := by
      unfold meet
      rw [hm.nf, hn.nf]
     rw [e, has_many hm, has_many hn]
     by_cases hc : (w.rem - v.rem) % ((Nat.gcd v.mod w.mod : Nat) : Int) = 0
     ·obtain ⟨y, ey, hy⟩ := both_iff hm.m0 hn.m0 (by have := hn.mb; omega) hc
      rw [ey]
      show hasIn (tidy _ _ (v.mod / Nat.gcd v.mod w.mod * w.mod) y (v.zero && w.zero)) x = true ↔ _
      rw [mem_tidy, hy x, Bool.and_eq_true]
      have := hm.lb
      have := hm.hb
      constructor
      ·rintro ⟨_, a, b, ⟨c1, c2⟩, d⟩
       refine ⟨⟨by split at a <;> omega, by split at b <;> omega, c1, d.imp And.left id⟩, by split at a <;> omega, by split at b <;> omega, c2, d.imp And.right id⟩
      ·rintro ⟨⟨a1, a2, a3, a4⟩, b1, b2, b3, b4⟩
       refine ⟨by omega, by split <;> omega, by split <;> omega, ⟨a3, b3⟩, ?_⟩
       by_cases hx : x = 0
       ·exact .inl ⟨a4.elim id fun q => absurd hx q, b4.elim id fun q => absurd hx q⟩
       ·exact .inr hx
     ·rw [bothRem_none hc]
      constructor
      ·intro q; cases q
      ·rintro ⟨⟨_, _, a3, _⟩, _, _, b3, _⟩
       exfalso
       apply hc
       refine Int.emod_eq_zero_of_dvd ?_
       have q1 := Int.dvd_trans (Int.natCast_dvd_natCast.mpr (Nat.gcd_dvd_left v.mod w.mod)) a3
       have q2 := Int.dvd_trans (Int.natCast_dvd_natCast.mpr (Nat.gcd_dvd_right v.mod w.mod)) b3
       rw [show w.rem - v.rem = (x - v.rem) - (x - w.rem) by omega]
       exact Int.dvd_sub q1 q2
theorem within_iff {f g : Fact} (hf : Wf f) (hg : Wf g) : withinF f g = true ↔ ∀ x, hasIn f x = true → hasIn g x = true := by
 cases f with
 | none =>
  refine Iff.intro (fun _ x q => ?_) (fun _ => rfl)
  cases q
 | some v =>
  have hv : Hull _ v := wf_hull hf
  cases g with
  | none =>
   constructor
   ·intro q; cases q
   ·intro q
    have := q _ hv.lo
    cases this
  | some w =>
   show within v w = true ↔ ∀ x, has v x = true → has w x = true
   have hw : Hull _ w := wf_hull hg
   rcases wf_cases hf with ⟨l, hl⟩ | hm
   ·have e : within v w = l.all (has w) := by
     unfold within
     rw [hl.few]
    rw [e, List.all_eq_true]
    exact ⟨fun h x hx => h x ((has_few hl x).mp hx), fun h x hx => h x ((has_few hl x).mpr hx)⟩
   ·have e : within v w = (w.few.isNone && (decide (w.lo ≤ v.lo) && (decide (v.hi ≤ w.hi) && (v.mod % w.mod == 0 && ((v.rem - w.rem) % (w.mod : Int) == 0 && (!v.zero || w.zero)))))) := by
     unfold within
     rw [hm.nf]
    rw [e]
    rcases wf_cases hg with ⟨k, hk⟩ | hn
    ·rw [hk.few]
     constructor
     ·intro q; cases q
     ·intro h
      exfalso
      have h1 := sub_len (els_up hf) fun x hx => (has_few hk x).mp (h x ((els_mem hf x).mp hx))
      rw [els_len hf] at h1
      have h2 := hm.cnt
      have h3 := hk.len
      have h4 : ((some v).map count).getD 0 = count v := rfl
      omega
    ·rw [hn.nf]
     simp only [Option.isNone_none, Bool.true_and, Bool.and_eq_true, decide_eq_true_eq, beq_iff_eq, Bool.or_eq_true, Bool.not_eq_true']
     constructor
     ·rintro ⟨h1, h2, h3, h4, h5⟩ x hx
      obtain ⟨a1, a2, a3, a4⟩ := (has_many hm x).mp hx
      refine (has_many hn x).mpr ⟨by omega, by omega, ?_, ?_⟩
      ·have q1 : (w.mod : Int) ∣ x - v.rem := Int.dvd_trans (Int.natCast_dvd_natCast.mpr (Nat.dvd_of_mod_eq_zero h3)) a3
       rw [show x - w.rem = (x - v.rem) + (v.rem - w.rem) by omega]
       exact Int.dvd_add q1 (Int.dvd_of_emod_eq_zero h4)
      ·rcases a4 with q | q
       ·rcases h5 with h5 | h5
        ·rw [h5] at q; cases q
        ·exact .inl h5
       ·exact .inr q
     ·intro h
      have b1 := (has_many hn _).mp (h _ hv.lo)
      have b2 := (has_many hn _).mp (h _ hv.hi)
      have b3 : w.mod ∣ v.mod := hv.gr _ fun x hx => by
       have := (has_many hn _).mp (h x hx)
       rw [show x - v.lo = (x - w.rem) - (v.lo - w.rem) by omega]
       exact Int.dvd_sub this.2.2.1 b1.2.2.1
      refine ⟨b1.1, b2.2.1, Nat.mod_eq_zero_of_dvd b3, ?_, ?_⟩
      ·refine Int.emod_eq_zero_of_dvd ?_
       rw [show v.rem - w.rem = (v.lo - w.rem) - (v.lo - v.rem) by omega]
       exact Int.dvd_sub b1.2.2.1 (Int.dvd_trans (Int.natCast_dvd_natCast.mpr b3) hm.dl)
      ·cases hz : v.zero with
       | false => exact .inl rfl
       | true => exact .inr (hw.ze.mpr (h 0 (hv.ze.mp hz)))
def sizeF (f : Fact) : Nat := (f.map count).getD 0
theorem within_size {f g : Fact} (hf : Wf f) (hg : Wf g) : sizeF (meetF f g) = sizeF f ↔ withinF f g = true := by
 have hW := wf_meetF f g
 rw [within_iff hf hg]
 constructor
 ·intro h x hx
  have e1 := els_len hW
  have e2 := els_len hf
  have hs := sub_eq (els_up hW) (els_up hf) (fun z hz => (els_mem hf z).mpr ((mem_meet hf hg z).mp ((els_mem hW z).mp hz)).1) (by
   have : sizeF (meetF f g) = sizeF f := h
   unfold sizeF at this
   omega)
  have := (els_mem hW x).mp (hs x ((els_mem hf x).mpr hx))
  exact ((mem_meet hf hg x).mp this).2
 ·intro h
  have : meetF f g = f := wf_ext hW hf fun x => (mem_meet hf hg x).trans ⟨fun q => q.1, fun q => ⟨q, h x q⟩⟩
  rw [this]
def negF (f : Fact) : Fact := f.bind negated
theorem wf_neg {f : Fact} : Wf (negF f) := by
 cases f with
 | none => trivial
 | some v => exact wf_scaled v (-1)
theorem minus_neg (f g : Fact) : lift2 minus f g = lift2 plus f (negF g) := by
 cases f with
 | none => rfl
 | some v =>
  cases g with
  | none => rfl
  | some w => rfl
theorem neg_few {v : Value} {l : List Int} (h : Few v l) : negF (some v) = ofFew (l.reverse.map fun x => -x) ∧ Up (l.reverse.map fun x => -x) := by
 have hu : Up (l.reverse.map fun x => -x) := by
  show List.Pairwise _ _
  rw [List.pairwise_map, List.pairwise_reverse]
  refine List.Pairwise.imp ?_ h.up
  intro a b hab
  omega
 refine ⟨?_, hu⟩
 show scaled v (-1) = _
 unfold scaled
 rw [h.few]
 have hin : InB (l.reverse.map fun x => -x) := fun z hz => by
  obtain ⟨y, hy, e⟩ := List.mem_map.mp hz
  have := h.inb y (List.mem_reverse.mp hy)
  omega
 have hl : (l.reverse.map fun x => -x).length ≤ 6 := by rw [List.length_map, List.length_reverse]; exact h.len
 rw [← ofList_few hu hin hl]
 refine hull_uniq (hull_ofList _) (hull_congr (hull_ofList _) fun x => ?_)
 rw [List.mem_map, List.mem_map]
 constructor
 ·rintro ⟨⟨y, hy, e⟩, b⟩
  exact ⟨⟨y, List.mem_reverse.mp hy, by omega⟩, b⟩
 ·rintro ⟨⟨y, hy, e⟩, b⟩
  exact ⟨⟨y, List.mem_reverse.mpr hy, by omega⟩, b⟩
theorem neg_many {v : Value} (h : Many v) : negF (some v) = tidy (-v.hi) (-v.lo) v.mod (-v.rem) v.zero := by
 show scaled v (-1) = _
 unfold scaled
 rw [h.nf]
 dsimp only
 rw [if_neg (by omega), if_neg (by omega), if_neg (by omega)]
 have e1 : v.hi * -1 = -v.hi := by omega
 have e2 : v.lo * -1 = -v.lo := by omega
 have e3 : v.rem * -1 = -v.rem := by omega
 have e4 : v.mod * Int.natAbs (-1) = v.mod := Nat.mul_one _
 rw [e1, e2, e3, e4]
theorem first_all {v : Value} (h : Many v) {k : Nat} (hk : v.hi - v.lo < (k : Int)) (x : Int) : x ∈ firstOf v k ↔ has v x = true := by
 have ef : firstOf v k = ((stepsFrom v.lo v.mod v.zero (k + 1)).filter fun x => decide (x ≤ v.hi)).take k := by
  unfold firstOf
  rw [h.nf]
 have m0 := h.m0
 have hle := h.le
 have big : ∀ j : Nat, k ≤ j → v.hi < v.lo + (v.mod : Int) * (j : Int) := fun j hj => by
  have h1 : (1 : Int) * (j : Int) ≤ (v.mod : Int) * (j : Int) := Int.mul_le_mul_of_nonneg_right (by omega) (by omega)
  omega
 have e2 : (stepsFrom v.lo v.mod v.zero (k + 1)).filter (fun x => decide (x ≤ v.hi)) = (stepsFrom v.lo v.mod v.zero k).filter (fun x => decide (x ≤ v.hi)) := by
  rw [steps_snoc, List.filter_append]
  have : List.filter (fun x => decide (x ≤ v.hi)) (if (v.zero || v.lo + (v.mod : Int) * (k : Int) != 0) = true then [v.lo + (v.mod : Int) * (k : Int)] else []) = [] := by
   refine List.filter_eq_nil_iff.mpr fun y hy => ?_
   split at hy
   ·rw [List.mem_singleton] at hy
    have := big k (Nat.le_refl _)
    rw [decide_eq_true_eq]
    omega
   ·cases hy
  rw [this, List.append_nil]
 have e3 : ((stepsFrom v.lo v.mod v.zero k).filter fun x => decide (x ≤ v.hi)).take k = (stepsFrom v.lo v.mod v.zero k).filter fun x => decide (x ≤ v.hi) :=
  List.take_of_length_le (Nat.le_trans (List.length_filter_le _ _) (steps_le _ _ _ _))
 rw [ef, e2, e3, List.mem_filter, decide_eq_true_eq, mem_steps, has_many h]
 constructor
 ·rintro ⟨⟨⟨j, hj, e⟩, hz⟩, hx⟩
  have h2 : 0 ≤ (v.mod : Int) * (j : Int) := Int.mul_nonneg (by omega) (by omega)
  refine ⟨by omega, hx, ?_, hz⟩
  rw [show x - v.rem = (v.lo - v.rem) + (v.mod : Int) * (j : Int) by omega]
  exact Int.dvd_add h.dl (Int.dvd_mul_right _ _)
 ·rintro ⟨a1, a2, a3, a4⟩
  have h4 : (v.mod : Int) ∣ x - v.lo := by
   rw [show x - v.lo = (x - v.rem) - (v.lo - v.rem) by omega]
   exact Int.dvd_sub a3 h.dl
  obtain ⟨c, hc⟩ := h4
  have c0 : 0 ≤ c := by
   rcases Int.lt_or_le c 0 with hlt | hle
   ·have : (v.mod : Int) * c < 0 := Int.mul_neg_of_pos_of_neg (by omega) hlt
    omega
   ·exact hle
  have ec : ((c.toNat : Nat) : Int) = c := by omega
  refine ⟨⟨⟨c.toNat, ?_, by rw [ec]; omega⟩, a4⟩, a2⟩
  rcases Nat.lt_or_ge c.toNat k with q | q
  ·exact q
  ·have := big c.toNat q
   rw [ec] at this
   omega
def remPy (f : Fact) (n : Nat) : Fact := match f with
 | none => none
 | some v => match v.few with
  | some l => ofList (l.map fun x => x % (n : Int))
  | none => if v.lo / (n : Int) = v.hi / (n : Int) then ofList ((firstOf v n).map fun x => x % (n : Int)) else tidy 0 ((n : Int) - 1) (Nat.gcd v.mod n) v.rem true
theorem rem_py {f : Fact} (hf : Wf f) {n : Nat} (hn : 0 < n) : remPy f n = f.bind fun v => remOf v n := by
 cases f with
 | none => rfl
 | some v =>
  show remPy (some v) n = remOf v n
  unfold remPy remOf
  dsimp only
  rcases wf_cases hf with ⟨l, hl⟩ | hm
  ·rw [hl.few]
  ·rw [hm.nf]
   dsimp only
   have hk : (0 : Int) < (n : Int) := by omega
   have hle := hm.le
   have m0 := hm.m0
   by_cases hq : v.lo / (n : Int) = v.hi / (n : Int)
   ·rw [if_pos hq, if_pos hq]
    have el := Int.emod_add_mul_ediv v.lo (n : Int)
    have eh := Int.emod_add_mul_ediv v.hi (n : Int)
    rw [← hq] at eh
    have l0 := Int.emod_nonneg v.lo (show (n : Int) ≠ 0 by omega)
    have l1 := Int.emod_lt_of_pos v.lo hk
    have h0 := Int.emod_nonneg v.hi (show (n : Int) ≠ 0 by omega)
    have h1 := Int.emod_lt_of_pos v.hi hk
    have hH : Hull _ v := wf_hull hf
    have hlb := hm.lb
    have hhb := hm.hb
    generalize hQ : (n : Int) * (v.lo / (n : Int)) = q at *
    have eq' : v.lo / (n : Int) * (n : Int) = q := by rw [Int.mul_comm]; exact hQ
    rw [eq']
    have hmodx : ∀ y, v.lo ≤ y → y ≤ v.hi → y % (n : Int) = y - q := fun y a b => by
     have e1 : y = (y - q) + (n : Int) * (v.lo / (n : Int)) := by rw [hQ]; omega
     rw [e1, Int.add_mul_emod_self_left, hQ]
     rw [show y - q + q - q = y - q by omega]
     exact Int.emod_eq_of_lt (by omega) (by omega)
    have hrb : (v.mod : Int) ∣ v.rem - q - remBy v.mod (v.rem - q) := by
     unfold remBy
     rw [if_neg (by omega)]
     exact Int.dvd_self_sub_emod
    refine hull_uniq (hull_ofList _) (hull_tidy fun x => ?_)
    rw [List.mem_map]
    constructor
    ·rintro ⟨⟨y, hy, e⟩, b⟩
     have hy' := (first_all hm (by omega) y).mp hy
     obtain ⟨a1, a2, a3, a4⟩ := (has_many hm y).mp hy'
     have := hmodx y a1 a2
     refine ⟨b, by omega, by omega, ?_, ?_⟩
     ·rw [show x - remBy v.mod (v.rem - q) = (y - v.rem) + (v.rem - q - remBy v.mod (v.rem - q)) by omega]
      exact Int.dvd_add a3 hrb
     ·by_cases hx : x = 0
      ·refine .inl ?_
       rw [show q = y by omega]
       exact hy'
      ·exact .inr hx
    ·rintro ⟨b, a1, a2, a3, a4⟩
     have hx : has v (x + q) = true := by
      refine (has_many hm _).mpr ⟨by omega, by omega, ?_, ?_⟩
      ·rw [show x + q - v.rem = (x - remBy v.mod (v.rem - q)) - (v.rem - q - remBy v.mod (v.rem - q)) by omega]
       exact Int.dvd_sub a3 hrb
      ·by_cases hx0 : x + q = 0
       ·rcases a4 with a4 | a4
        ·exact Or.inl (by
          have hq0 : x = 0 := by
           have hlo : v.lo ≤ 0 := by omega
           have hhi : 0 ≤ v.hi := by omega
           have := hmodx 0 hlo hhi
           rw [Int.zero_emod] at this
           omega
          have hq1 : q = 0 := by omega
          rw [hq1] at a4
          exact hH.ze.mpr a4)
        ·exfalso
         have hlo : v.lo ≤ 0 := by omega
         have hhi : 0 ≤ v.hi := by omega
         have := hmodx 0 hlo hhi
         rw [Int.zero_emod] at this
         omega
       ·exact .inr hx0
     refine ⟨⟨x + q, (first_all hm (by omega) _).mpr hx, ?_⟩, b⟩
     rw [hmodx (x + q) (by omega) (by omega)]
     omega
   ·rw [if_neg hq, if_neg hq]
    refine (tidy_congr _ _ (Nat.gcd_pos_of_pos_right _ hn) ?_ _)
    unfold remBy
    rw [if_neg (by have := Nat.gcd_pos_of_pos_right v.mod hn; omega)]
    exact Int.dvd_self_sub_emod
theorem fold_max : ∀ (l : List Int) (a : Int), (l.foldl (fun m t => if m < t then t else m) a = a ∨ l.foldl (fun m t => if m < t then t else m) a ∈ l) ∧ a ≤ l.foldl (fun m t => if m < t then t else m) a ∧ ∀ t ∈ l, t ≤ l.foldl (fun m t => if m < t then t else m) a
 | [], a => ⟨.inl rfl, Int.le_refl _, fun t ht => by cases ht⟩
 | b :: l, a => by
  obtain ⟨h1, h2, h3⟩ := fold_max l (if a < b then b else a)
  have hb : a ≤ (if a < b then b else a) ∧ b ≤ (if a < b then b else a) := by constructor <;> split <;> omega
  rw [List.foldl_cons]
  refine ⟨?_, by omega, fun t ht => ?_⟩
  ·rcases h1 with h1 | h1
   ·rw [h1]
    by_cases h : a < b
    ·rw [if_pos h]; exact .inr (List.mem_cons_self ..)
    ·rw [if_neg h]; exact .inl rfl
   ·exact .inr (List.mem_cons_of_mem _ h1)
  ·rcases List.mem_cons.mp ht with e | ht
   ·omega
   ·exact h3 t ht
theorem fold_min : ∀ (l : List Int) (a : Int), (l.foldl (fun m t => if t < m then t else m) a = a ∨ l.foldl (fun m t => if t < m then t else m) a ∈ l) ∧ l.foldl (fun m t => if t < m then t else m) a ≤ a ∧ ∀ t ∈ l, l.foldl (fun m t => if t < m then t else m) a ≤ t
 | [], a => ⟨.inl rfl, Int.le_refl _, fun t ht => by cases ht⟩
 | b :: l, a => by
  obtain ⟨h1, h2, h3⟩ := fold_min l (if b < a then b else a)
  have hb : (if b < a then b else a) ≤ a ∧ (if b < a then b else a) ≤ b := by constructor <;> split <;> omega
  rw [List.foldl_cons]
  refine ⟨?_, by omega, fun t ht => ?_⟩
  ·rcases h1 with h1 | h1
   ·rw [h1]
    by_cases h : b < a
    ·rw [if_pos h]; exact .inr (List.mem_cons_self ..)
    ·rw [if_neg h]; exact .inl rfl
   ·exact .inr (List.mem_cons_of_mem _ h1)
  ·rcases List.mem_cons.mp ht with e | ht
   ·omega
   ·exact h3 t ht
theorem down_max {ts : List Int} {n m : Int} (h1 : m ∈ (-1000000) :: ts.filter (fun t => decide (t ≤ n))) (h2 : ∀ y ∈ (-1000000) :: ts.filter (fun t => decide (t ≤ n)), y ≤ m) : m = downTo ts n := by
 obtain ⟨a1, a2, a3⟩ := fold_max (ts.filter fun t => decide (t ≤ n)) (-BOUND)
 have e : downTo ts n = (ts.filter fun t => decide (t ≤ n)).foldl (fun m t => if m < t then t else m) (-BOUND) := rfl
 rw [← e] at a1 a2 a3
 have eB : -BOUND = -1000000 := rfl
 rw [eB] at a1 a2
 have q1 : downTo ts n ≤ m := by
  rcases a1 with a1 | a1
  ·rw [a1]; exact h2 _ (List.mem_cons_self ..)
  ·exact h2 _ (List.mem_cons_of_mem _ a1)
 have q2 : m ≤ downTo ts n := by
  rcases List.mem_cons.mp h1 with h1 | h1
  ·omega
  ·exact a3 m h1
 omega
theorem up_min {ts : List Int} {n m : Int} (h1 : m ∈ 1000000 :: ts.filter (fun t => decide (n ≤ t))) (h2 : ∀ y ∈ 1000000 :: ts.filter (fun t => decide (n ≤ t)), m ≤ y) : m = upTo ts n := by
 obtain ⟨a1, a2, a3⟩ := fold_min (ts.filter fun t => decide (n ≤ t)) BOUND
 have e : upTo ts n = (ts.filter fun t => decide (n ≤ t)).foldl (fun m t => if t < m then t else m) BOUND := rfl
 rw [← e] at a1 a2 a3
 have eB : BOUND = 1000000 := rfl
 rw [eB] at a1 a2
 have q1 : m ≤ upTo ts n := by
  rcases a1 with a1 | a1
  ·rw [a1]; exact h2 _ (List.mem_cons_self ..)
  ·exact h2 _ (List.mem_cons_of_mem _ a1)
 have q2 : upTo ts n ≤ m := by
  rcases List.mem_cons.mp h1 with h1 | h1
  ·omega
  ·exact a3 m h1
 omega
theorem upTo_between {v : Value} (h : Wf (some v)) (n : Int) : upToN v n = betweenF (some v) (-1000000) n := by
 have hH : Hull _ v := wf_hull h
 refine wf_ext ?_ (wf_between h _ _) fun x => ?_
 ·unfold upToN
  split
  ·exact wf_ofList _
  ·exact wf_tidy _ _ _ _ _
 ·rw [mem_between h]
  show _ ↔ has v x = true ∧ _
  unfold upToN
  rcases wf_cases h with ⟨l, hl⟩ | hm
  ·rw [hl.few]
   dsimp only
   rw [ofList_few (List.Pairwise.filter _ hl.up) (fun z hz => hl.inb z (List.mem_filter.mp hz).1) (Nat.le_trans (List.length_filter_le _ _) hl.len), has_ofFew, List.mem_filter, decide_eq_true_eq, has_few hl]
   constructor
   ·rintro ⟨a, b⟩
    have := hl.inb x a
    exact ⟨a, by omega, b⟩
   ·rintro ⟨a, _, b⟩
    exact ⟨a, b⟩
  ·rw [hm.nf]
   dsimp only
   rw [mem_tidy, has_many hm]
   constructor
   ·rintro ⟨a, b, c, d, e⟩
    exact ⟨⟨b, by split at c <;> omega, d, e⟩, by omega, by split at c <;> omega⟩
   ·rintro ⟨⟨a, b, c, d⟩, e, g⟩
    have := hm.hb
    exact ⟨by omega, by omega, by split <;> omega, c, d⟩
theorem from_between {v : Value} (h : Wf (some v)) (n : Int) : fromN v n = betweenF (some v) n 1000000 := by
 have hH : Hull _ v := wf_hull h
 refine wf_ext ?_ (wf_between h _ _) fun x => ?_
 ·unfold fromN
  split
  ·exact wf_ofList _
  ·exact wf_tidy _ _ _ _ _
 ·rw [mem_between h]
  show _ ↔ has v x = true ∧ _
  unfold fromN
  rcases wf_cases h with ⟨l, hl⟩ | hm
  ·rw [hl.few]
   dsimp only
   rw [ofList_few (List.Pairwise.filter _ hl.up) (fun z hz => hl.inb z (List.mem_filter.mp hz).1) (Nat.le_trans (List.length_filter_le _ _) hl.len), has_ofFew, List.mem_filter, decide_eq_true_eq, has_few hl]
   constructor
   ·rintro ⟨a, b⟩
    have := hl.inb x a
    exact ⟨a, b, by omega⟩
   ·rintro ⟨a, b, _⟩
    exact ⟨a, b⟩
  ·rw [hm.nf]
   dsimp only
   rw [mem_tidy, has_many hm]
   constructor
   ·rintro ⟨a, b, c, d, e⟩
    exact ⟨⟨by split at b <;> omega, c, d, e⟩, by split at b <;> omega, by omega⟩
   ·rintro ⟨⟨a, b, c, d⟩, e, g⟩
    have := hm.lb
    exact ⟨by omega, by split <;> omega, by omega, c, d⟩
def withoutF (f : Fact) (n : Int) : Fact := match f with
 | none => none
 | some v => match v.few with
  | some l => ofFew (l.filter fun x => x != n)
  | none => if n = 0 then tidy v.lo v.hi v.mod v.rem false else if n = v.lo then betweenF (some v) (n + 1) v.hi else betweenF (some v) v.lo (n - 1)
theorem wf_without {f : Fact} (h : Wf f) (n : Int) : Wf (withoutF f n) := by
 cases f with
 | none => trivial
 | some v =>
  unfold withoutF
  dsimp only
  rcases wf_cases h with ⟨l, hl⟩ | hm
  ·rw [hl.few]; exact wf_sub hl _
  ·rw [hm.nf]
   dsimp only
   split
   ·exact wf_tidy _ _ _ _ _
   ·split
    ·exact wf_between h _ _
    ·exact wf_between h _ _
def unF (f g : Fact) : Fact := match g with
 | none => f
 | some w => match only w with
  | some n => f.bind fun v => butN v n
  | none => f
theorem wf_un {f : Fact} (h : Wf f) (g : Fact) : Wf (unF f g) := by
 unfold unF
 cases g with
 | none => exact h
 | some w =>
  dsimp only
  cases only w with
  | none => exact h
  | some n =>
   cases f with
   | none => trivial
   | some v => exact wf_butN h n
theorem but_few {v : Value} {l : List Int} (h : Few v l) (n : Int) : butN v n = withoutF (some v) n := by
 unfold butN withoutF
 dsimp only
 rw [h.few]
 exact ofList_few (List.Pairwise.filter _ h.up) (fun z hz => h.inb z (List.mem_filter.mp hz).1) (Nat.le_trans (List.length_filter_le _ _) h.len)
theorem but_many {v : Value} (h : Many v) (n : Int) : butN v n = if n = 0 ∨ n = v.lo ∨ n = v.hi then withoutF (some v) n else some v := by
 unfold butN withoutF
 dsimp only
 rw [h.nf]
 dsimp only
 have hle := h.le
 by_cases h0 : n = 0
 ·rw [if_pos h0, if_pos (.inl h0), if_pos h0]
 ·rw [if_neg h0, if_neg h0]
  by_cases h1 : n = v.lo
  ·rw [if_pos h1, if_pos (.inr (.inl h1)), if_pos h1, between_many h]
   rw [if_neg (by omega), if_neg (by omega), h1]
  ·rw [if_neg h1, if_neg h1]
   by_cases h2 : n = v.hi
   ·rw [if_pos h2, if_pos (.inr (.inr h2)), between_many h]
    rw [if_neg (by omega), if_neg (by omega), h2]
   ·rw [if_neg h2, if_neg (by rintro (q | q | q) <;> contradiction)]
theorem only_size {w : Value} (h : Wf (some w)) (n : Int) (e : only w = some n) : count w = 1 ∧ w.lo = n := by
 unfold only at e
 rcases wf_cases h with ⟨l, hl⟩ | hm
 ·rw [hl.few] at e
  match l, hl, e with
  | [a], hl, e =>
   have e' := Option.some.inj e
   subst e'
   have := Option.some.inj hl.eq
   subst this
   exact ⟨rfl, rfl⟩
  | [], _, e => cases e
  | a :: b :: r, _, e => cases e
 ·rw [hm.nf] at e
  cases e
theorem only_none {w : Value} (h : Wf (some w)) (e : only w = none) : count w ≠ 1 := by
 unfold only at e
 rcases wf_cases h with ⟨l, hl⟩ | hm
 ·have ec : count w = l.length := by unfold count; rw [hl.few]
  rw [hl.few] at e
  rw [ec]
  match l, e with
  | [a], e => cases e
  | [], _ => simp
  | a :: b :: r, _ => simp
 ·have := hm.cnt
  omega
end KM
namespace Kv
open PySem PySem.Spec PyProof.Rows L2
open PySem.W (Codec)
theorem sc_greatest_divisor : FnScope ["one", "other", "rest"] ["one", "other"] (defScope s_greatest_divisor) := ⟨rfl, rfl, rfl, by decide +kernel, rfl, by decide +kernel, by decide +kernel⟩
theorem sc_inverse : FnScope ["number", "modulus", "above", "below", "above_factor", "below_factor", "quotient", "rest", "rest_factor"] ["number", "modulus"] (defScope s_inverse) := ⟨rfl, rfl, rfl, by decide +kernel, rfl, by decide +kernel, by decide +kernel⟩
theorem sc_shared_number : FnScope ["remainder", "modulus", "other_remainder", "other_modulus", "divisor", "distance", "cycle", "steps"] ["remainder", "modulus", "other_remainder", "other_modulus"] (defScope s_shared_number) := ⟨rfl, rfl, rfl, by decide +kernel, rfl, by decide +kernel, by decide +kernel⟩
theorem sc_is_beyond : FnScope ["number"] ["number"] (defScope s_is_beyond) := ⟨rfl, rfl, rfl, by decide +kernel, rfl, by decide +kernel, by decide +kernel⟩
theorem sc_is_few : FnScope ["value"] ["value"] (defScope s_is_few) := ⟨rfl, rfl, rfl, by decide +kernel, rfl, by decide +kernel, by decide +kernel⟩
theorem sc_common_distance : FnScope ["rising", "divisor", "number"] ["rising"] (defScope s_common_distance) := ⟨rfl, rfl, rfl, by decide +kernel, rfl, by decide +kernel, by decide +kernel⟩
theorem sc_few_of : FnScope ["rising", "least", "modulus", "remainder", "zero"] ["rising"] (defScope s_few_of) := ⟨rfl, rfl, rfl, by decide +kernel, rfl, by decide +kernel, by decide +kernel⟩
theorem sc_row_of : FnScope ["least", "greatest", "modulus", "zero", "crosses_zero", "size", "number", "kept_zero"] ["least", "greatest", "modulus", "zero"] (defScope s_row_of) := ⟨rfl, rfl, rfl, by decide +kernel, rfl, by decide +kernel, by decide +kernel⟩
theorem sc_made_of : FnScope ["lo", "hi", "modulus", "remainder", "zero", "low", "high", "least", "greatest"] ["lo", "hi", "modulus", "remainder", "zero"] (defScope s_made_of) := ⟨rfl, rfl, rfl, by decide +kernel, rfl, by decide +kernel, by decide +kernel⟩
theorem sc_hull : FnScope ["numbers", "rising"] ["numbers"] (defScope s_hull) := ⟨rfl, rfl, rfl, by decide +kernel, rfl, by decide +kernel, by decide +kernel⟩
theorem sc_told : FnScope ["value", "head"] ["value"] (defScope s_told) := ⟨rfl, rfl, rfl, by decide +kernel, rfl, by decide +kernel, by decide +kernel⟩
theorem sc_has : FnScope ["value", "number"] ["value", "number"] (defScope s_has) := ⟨rfl, rfl, rfl, by decide +kernel, rfl, by decide +kernel, by decide +kernel⟩
theorem sc_first_numbers : FnScope ["value", "limit", "numbers", "number"] ["value", "limit"] (defScope s_first_numbers) := ⟨rfl, rfl, rfl, by decide +kernel, rfl, by decide +kernel, by decide +kernel⟩
theorem sc_between : FnScope ["value", "low", "high", "number"] ["value", "low", "high"] (defScope s_between) := ⟨rfl, rfl, rfl, by decide +kernel, rfl, by decide +kernel, by decide +kernel⟩
theorem sc_without : FnScope ["value", "number", "kept"] ["value", "number"] (defScope s_without) := ⟨rfl, rfl, rfl, by decide +kernel, rfl, by decide +kernel, by decide +kernel⟩
theorem sc_negated : FnScope ["value", "number"] ["value"] (defScope s_negated) := ⟨rfl, rfl, rfl, by decide +kernel, rfl, by decide +kernel, by decide +kernel⟩
theorem sc_join : FnScope ["one", "other", "modulus", "least", "greatest"] ["one", "other"] (defScope s_join) := ⟨rfl, rfl, rfl, by decide +kernel, rfl, by decide +kernel, by decide +kernel⟩
theorem sc_meet : FnScope ["one", "other", "number", "shared", "modulus", "least", "greatest"] ["one", "other"] (defScope s_meet) := ⟨rfl, rfl, rfl, by decide +kernel, rfl, by decide +kernel, by decide +kernel⟩
theorem sc_is_within : FnScope ["one", "other"] ["one", "other"] (defScope s_is_within) := ⟨rfl, rfl, rfl, by decide +kernel, rfl, by decide +kernel, by decide +kernel⟩
theorem sc_handful : FnScope ["value", "number", "taken"] ["value", "number"] (defScope s_handful) := ⟨rfl, rfl, rfl, by decide +kernel, rfl, by decide +kernel, by decide +kernel⟩
theorem sc_few_plus : FnScope ["few", "other", "sums", "number", "fitting", "summand"] ["few", "other"] (defScope s_few_plus) := ⟨rfl, rfl, rfl, by decide +kernel, rfl, by decide +kernel, by decide +kernel⟩
theorem sc_plus : FnScope ["one", "other", "modulus", "least", "greatest"] ["one", "other"] (defScope s_plus) := ⟨rfl, rfl, rfl, by decide +kernel, rfl, by decide +kernel, by decide +kernel⟩
theorem sc_minus : FnScope ["one", "other"] ["one", "other"] (defScope s_minus) := ⟨rfl, rfl, rfl, by decide +kernel, rfl, by decide +kernel, by decide +kernel⟩
theorem sc_few_times : FnScope ["few", "other", "products", "number", "reach", "fitting", "factor"] ["few", "other"] (defScope s_few_times) := ⟨rfl, rfl, rfl, by decide +kernel, rfl, by decide +kernel, by decide +kernel⟩
theorem sc_times : FnScope ["one", "other", "corners", "modulus", "remainder"] ["one", "other"] (defScope s_times) := ⟨rfl, rfl, rfl, by decide +kernel, rfl, by decide +kernel, by decide +kernel⟩
theorem sc_rem : FnScope ["value", "divisor", "number"] ["value", "divisor"] (defScope s_rem) := ⟨rfl, rfl, rfl, by decide +kernel, rfl, by decide +kernel, by decide +kernel⟩
theorem sc_widen : FnScope ["value", "other", "thresholds", "joined", "least", "threshold", "greatest"] ["value", "other", "thresholds"] (defScope s_widen) := ⟨rfl, rfl, rfl, by decide +kernel, rfl, by decide +kernel, by decide +kernel⟩
theorem sc_left_unequal : FnScope ["value", "other", "number"] ["value", "other"] (defScope s_left_unequal) := ⟨rfl, rfl, rfl, by decide +kernel, rfl, by decide +kernel, by decide +kernel⟩
theorem sc_left_of_each : FnScope ["which", "one", "other", "met"] ["which", "one", "other"] (defScope s_left_of_each) := ⟨rfl, rfl, rfl, by decide +kernel, rfl, by decide +kernel, by decide +kernel⟩
theorem sc_left_of_both : FnScope ["which", "one", "other", "pair"] ["which", "one", "other"] (defScope s_left_of_both) := ⟨rfl, rfl, rfl, by decide +kernel, rfl, by decide +kernel, by decide +kernel⟩
theorem sc_leaves_none : FnScope ["which", "one", "other"] ["which", "one", "other"] (defScope s_leaves_none) := ⟨rfl, rfl, rfl, by decide +kernel, rfl, by decide +kernel, by decide +kernel⟩
theorem sc_leaves_none_opposite : FnScope ["which", "one", "other"] ["which", "one", "other"] (defScope s_leaves_none_opposite) := ⟨rfl, rfl, rfl, by decide +kernel, rfl, by decide +kernel, by decide +kernel⟩
theorem sc_verdict : FnScope ["which", "one", "other"] ["which", "one", "other"] (defScope s_verdict) := ⟨rfl, rfl, rfl, by decide +kernel, rfl, by decide +kernel, by decide +kernel⟩
theorem sc_keep : FnScope ["slots", "new", "value"] ["slots", "new", "value"] (defScope s_keep) := ⟨rfl, rfl, rfl, by decide +kernel, rfl, by decide +kernel, by decide +kernel⟩
theorem sc_answer_of : FnScope ["slots", "handed", "numbers", "number"] ["slots", "handed"] (defScope s_answer_of) := ⟨rfl, rfl, rfl, by decide +kernel, rfl, by decide +kernel, by decide +kernel⟩
theorem sc_answer_parts : FnScope ["slots", "handed", "lo", "hi", "modulus", "remainder", "zero"] ["slots", "handed"] (defScope s_answer_parts) := ⟨rfl, rfl, rfl, by decide +kernel, rfl, by decide +kernel, by decide +kernel⟩
theorem sc_answer_told : FnScope ["slots", "handed"] ["slots", "handed"] (defScope s_answer_told) := ⟨rfl, rfl, rfl, by decide +kernel, rfl, by decide +kernel, by decide +kernel⟩
theorem sc_answer_has : FnScope ["slots", "handed"] ["slots", "handed"] (defScope s_answer_has) := ⟨rfl, rfl, rfl, by decide +kernel, rfl, by decide +kernel, by decide +kernel⟩
theorem sc_answer_count : FnScope ["slots", "handed"] ["slots", "handed"] (defScope s_answer_count) := ⟨rfl, rfl, rfl, by decide +kernel, rfl, by decide +kernel, by decide +kernel⟩
theorem sc_answer_first : FnScope ["slots", "handed", "limit", "numbers"] ["slots", "handed"] (defScope s_answer_first) := ⟨rfl, rfl, rfl, by decide +kernel, rfl, by decide +kernel, by decide +kernel⟩
theorem sc_answer_join : FnScope ["slots", "handed"] ["slots", "handed"] (defScope s_answer_join) := ⟨rfl, rfl, rfl, by decide +kernel, rfl, by decide +kernel, by decide +kernel⟩
theorem sc_answer_meet : FnScope ["slots", "handed"] ["slots", "handed"] (defScope s_answer_meet) := ⟨rfl, rfl, rfl, by decide +kernel, rfl, by decide +kernel, by decide +kernel⟩
theorem sc_answer_widen : FnScope ["slots", "handed", "thresholds", "threshold"] ["slots", "handed"] (defScope s_answer_widen) := ⟨rfl, rfl, rfl, by decide +kernel, rfl, by decide +kernel, by decide +kernel⟩
theorem sc_answer_within : FnScope ["slots", "handed"] ["slots", "handed"] (defScope s_answer_within) := ⟨rfl, rfl, rfl, by decide +kernel, rfl, by decide +kernel, by decide +kernel⟩
theorem sc_answer_plus : FnScope ["slots", "handed"] ["slots", "handed"] (defScope s_answer_plus) := ⟨rfl, rfl, rfl, by decide +kernel, rfl, by decide +kernel, by decide +kernel⟩
theorem sc_answer_minus : FnScope ["slots", "handed"] ["slots", "handed"] (defScope s_answer_minus) := ⟨rfl, rfl, rfl, by decide +kernel, rfl, by decide +kernel, by decide +kernel⟩
theorem sc_answer_times : FnScope ["slots", "handed"] ["slots", "handed"] (defScope s_answer_times) := ⟨rfl, rfl, rfl, by decide +kernel, rfl, by decide +kernel, by decide +kernel⟩
theorem sc_answer_rem : FnScope ["slots", "handed", "divisor"] ["slots", "handed"] (defScope s_answer_rem) := ⟨rfl, rfl, rfl, by decide +kernel, rfl, by decide +kernel, by decide +kernel⟩
theorem sc_answer_test : FnScope ["slots", "handed", "new", "other_new", "pair"] ["slots", "handed"] (defScope s_answer_test) := ⟨rfl, rfl, rfl, by decide +kernel, rfl, by decide +kernel, by decide +kernel⟩
theorem sc_answer_verdict : FnScope ["slots", "handed"] ["slots", "handed"] (defScope s_answer_verdict) := ⟨rfl, rfl, rfl, by decide +kernel, rfl, by decide +kernel, by decide +kernel⟩
theorem sc_answer_call : FnScope ["slots", "call", "handed", "slot", "answerer"] ["slots", "call", "handed"] (defScope s_answer_call) := ⟨rfl, rfl, rfl, by decide +kernel, rfl, by decide +kernel, by decide +kernel⟩
theorem sc_answers : FnScope ["calls", "slots", "slot", "given", "place", "call", "end", "handed", "row_length", "answer"] ["calls"] (defScope s_answers) := ⟨rfl, rfl, rfl, by decide +kernel, rfl, by decide +kernel, by decide +kernel⟩
theorem ifNe {x y : Int} {A B : Prop} (h1 : x ≠ y → A) (h2 : x = y → B) : if (!decide (V.int x = V.int y)) = true then A else B := by
 by_cases h : x = y
 ·subst h
  exact iteNS rfl (h2 rfl)
 ·rw [decide_eq_false fun q => h (by injection q)]
  exact iteT (h1 h)
theorem ifEq {x y : Int} {A B : Prop} (h1 : x = y → A) (h2 : x ≠ y → B) : if decide (V.int x = V.int y) = true then A else B := by
 by_cases h : x = y
 ·subst h
  rw [decide_eq_true rfl]
  exact iteT (h1 rfl)
 ·rw [decide_eq_false fun q => h (by injection q)]
  exact iteF (h2 h)
theorem ifB {c A B : Prop} [Decidable c] (h1 : c → A) (h2 : ¬ c → B) : if decide c = true then A else B := by
 by_cases h : c
 ·rw [decide_eq_true h]
  exact iteT (h1 h)
 ·rw [decide_eq_false h]
  exact iteF (h2 h)
structure PV where
 size : Int
 least : Int
 greatest : Int
 modulus : Int
 remainder : Int
 zero : Int
 nums : List Int
def flds (x : PV) (q : Addr) : List (Str × V) := [("size", .int x.size), ("least", .int x.least), ("greatest", .int x.greatest), ("modulus", .int x.modulus), ("remainder", .int x.remainder), ("zero", .int x.zero), ("numbers", .ref q)]
theorem fl_size (x : PV) (q : Addr) : (flds x q).lookup ("size" : Str) = some (.int x.size) := rfl
theorem fl_least (x : PV) (q : Addr) : (flds x q).lookup ("least" : Str) = some (.int x.least) := rfl
theorem fl_greatest (x : PV) (q : Addr) : (flds x q).lookup ("greatest" : Str) = some (.int x.greatest) := rfl
theorem fl_modulus (x : PV) (q : Addr) : (flds x q).lookup ("modulus" : Str) = some (.int x.modulus) := rfl
theorem fl_remainder (x : PV) (q : Addr) : (flds x q).lookup ("remainder" : Str) = some (.int x.remainder) := rfl
theorem fl_zero (x : PV) (q : Addr) : (flds x q).lookup ("zero" : Str) = some (.int x.zero) := rfl
theorem fl_numbers (x : PV) (q : Addr) : (flds x q).lookup ("numbers" : Str) = some (.ref q) := rfl
def VAt (C : Addr) (H : Hp) (p : Addr) (x : PV) : Prop := ∃ dx q, H p = some (.ins C dx (flds x q)) ∧ H q = some (.lst (x.nums.map V.int))
theorem VAt.mono {C : Addr} {H H' : Hp} {p : Addr} {x : PV} (h : VAt C H p x) (s : Same H H') : VAt C H' p x := by
 obtain ⟨dx, q, h1, h2⟩ := h
 exact ⟨dx, q, s _ _ h1, s _ _ h2⟩
theorem Same.refl (H : Hp) : Same H H := fun _ _ e => e
theorem Same.new {H : Hp} {p : Addr} {o : HO} (n : H p = none) : Same H (upd H p o) := fun b u e => by
 rw [upd_ne (ne_of_none e n)]
 exact e
structure Txt (K : PySem.W.Frag) (mg : Str → Option Value) (C : Addr) : Prop where
 cl : Cls K C
 nS : NoAttr K C "size"
 nL : NoAttr K C "least"
 nG : NoAttr K C "greatest"
 nM : NoAttr K C "modulus"
 nR : NoAttr K C "remainder"
 nZ : NoAttr K C "zero"
 nN : NoAttr K C "numbers"
 mgC : mg "Value" = some (.ref C)
 h_BOUND : ∃ t, mg "BOUND" = some (.int 1000000 t)
 h_FEW : ∃ t, mg "FEW" = some (.int 6 t)
 h_LESS : ∃ t, mg "LESS" = some (.int 0 t)
 h_LESS_OR_EQUAL : ∃ t, mg "LESS_OR_EQUAL" = some (.int 1 t)
 h_EQUAL : ∃ t, mg "EQUAL" = some (.int 2 t)
 h_UNEQUAL : ∃ t, mg "UNEQUAL" = some (.int 3 t)
 h_TESTS : ∃ t, mg "TESTS" = some (.int 4 t)
 h_NEVER : ∃ t, mg "NEVER" = some (.int 0 t)
 h_ALWAYS : ∃ t, mg "ALWAYS" = some (.int 1 t)
 h_NOT_KNOWN : ∃ t, mg "NOT_KNOWN" = some (.int 2 t)
 h_SLOTS : ∃ t, mg "SLOTS" = some (.int 6 t)
 h_MOST_LISTED : ∃ t, mg "MOST_LISTED" = some (.int 40 t)
 h_MOST_FIRST : ∃ t, mg "MOST_FIRST" = some (.int 50 t)
 h_MOST_THRESHOLDS : ∃ t, mg "MOST_THRESHOLDS" = some (.int 8 t)
 h_MOST_DIVISOR : ∃ t, mg "MOST_DIVISOR" = some (.int 99 t)
 h_OUT_OF_RANGE : ∃ t, mg "OUT_OF_RANGE" = some (.int (-1) t)
 h_NO_SLOT : ∃ t, mg "NO_SLOT" = some (.int (-2) t)
 h_NO_TEST : ∃ t, mg "NO_TEST" = some (.int (-3) t)
 h_NO_COUNT : ∃ t, mg "NO_COUNT" = some (.int (-4) t)
 len : mg "len" = none
 range : mg "range" = none
 mgMin : mg "min" = none
 mgMax : mg "max" = none
 abs : mg "abs" = none
 any : mg "any" = none
 set : mg "set" = none
 sorted : mg "sorted" = none
 reversed : mg "reversed" = none
structure Df (K : PySem.W.Frag) (mg : Str → Option Value) (x : Str) (st : Stmt) (ps : List Str) (f : Addr) (fd : FuncData) : Prop where
 fn : Fun K x x st f fd
 bd : Binds K fd ps []
 at_ : mg x = some (.ref f)
theorem pe_cD {X : Cx} {k : Nat} {x : Str} {st : Stmt} {ps : List Str} {f : Addr} {fd : FuncData} {sp : Sp} {e : Expr} {es : List Expr} {t : TA} {p pos : Pos} (G : FnOk X.prog X.w X.K X.mg X.base CX0 k f fd ps sp) (hr : Room k X.A) (d : Df X.K X.mg x st ps f fd) (ha : PA X (e :: es) t)
  (hg : Gl X x := by rfl) (hdb : (x == ("__debug__" : Str)) = false := by decide) (he : starEach (e :: es) X.env = (false, eval e X.env) :: starEach es X.env := by rfl) (hpl : (backTo pos (starEach es X.env)).any (·.1) = false := by rfl) :
  PE X (.Call (.Name x p) (e :: es) [] pos) (tCall sp [] E0 t) := pe_call G hr hg d.at_ d.fn.kp d.bd .nil pass0 ha hdb he hpl
structure Cl (K : PySem.W.Frag) (mg : Str → Option Value) (C fI : Addr) (fdI : FuncData) : Prop where
 txt : Txt K mg C
 mak : Mk K C fI
 ini : Fun K "__init__" "Value.__init__" s_Value_init fI fdI
 bd : Binds K fdI ["self", "size", "least", "greatest", "modulus", "remainder", "zero", "numbers"] []
structure Fs where
 C : Addr
 fI : Addr
 fdI : FuncData
 a_greatest_divisor : Addr
 f_greatest_divisor : FuncData
 a_inverse : Addr
 f_inverse : FuncData
 a_shared_number : Addr
 f_shared_number : FuncData
 a_is_beyond : Addr
 f_is_beyond : FuncData
 a_is_few : Addr
 f_is_few : FuncData
 a_common_distance : Addr
 f_common_distance : FuncData
 a_few_of : Addr
 f_few_of : FuncData
 a_row_of : Addr
 f_row_of : FuncData
 a_made_of : Addr
 f_made_of : FuncData
 a_hull : Addr
 f_hull : FuncData
 a_told : Addr
 f_told : FuncData
 a_has : Addr
 f_has : FuncData
 a_first_numbers : Addr
 f_first_numbers : FuncData
 a_between : Addr
 f_between : FuncData
 a_without : Addr
 f_without : FuncData
 a_negated : Addr
 f_negated : FuncData
 a_join : Addr
 f_join : FuncData
 a_meet : Addr
 f_meet : FuncData
 a_is_within : Addr
 f_is_within : FuncData
 a_handful : Addr
 f_handful : FuncData
 a_few_plus : Addr
 f_few_plus : FuncData
 a_plus : Addr
 f_plus : FuncData
 a_minus : Addr
 f_minus : FuncData
 a_few_times : Addr
 f_few_times : FuncData
 a_times : Addr
 f_times : FuncData
 a_rem : Addr
 f_rem : FuncData
 a_widen : Addr
 f_widen : FuncData
 a_left_unequal : Addr
 f_left_unequal : FuncData
 a_left_of_each : Addr
 f_left_of_each : FuncData
 a_left_of_both : Addr
 f_left_of_both : FuncData
 a_leaves_none : Addr
 f_leaves_none : FuncData
 a_leaves_none_opposite : Addr
 f_leaves_none_opposite : FuncData
 a_verdict : Addr
 f_verdict : FuncData
 a_keep : Addr
 f_keep : FuncData
 a_answer_of : Addr
 f_answer_of : FuncData
 a_answer_parts : Addr
 f_answer_parts : FuncData
 a_answer_told : Addr
 f_answer_told : FuncData
 a_answer_has : Addr
 f_answer_has : FuncData
 a_answer_count : Addr
 f_answer_count : FuncData
 a_answer_first : Addr
 f_answer_first : FuncData
 a_answer_join : Addr
 f_answer_join : FuncData
 a_answer_meet : Addr
 f_answer_meet : FuncData
 a_answer_widen : Addr
 f_answer_widen : FuncData
 a_answer_within : Addr
 f_answer_within : FuncData
 a_answer_plus : Addr
 f_answer_plus : FuncData
 a_answer_minus : Addr
 f_answer_minus : FuncData
 a_answer_times : Addr
 f_answer_times : FuncData
 a_answer_rem : Addr
 f_answer_rem : FuncData
 a_answer_test : Addr
 f_answer_test : FuncData
 a_answer_verdict : Addr
 f_answer_verdict : FuncData
 a_answer_call : Addr
 f_answer_call : FuncData
 a_answers : Addr
 f_answers : FuncData
 g_WHOLE_NUMBERS : Addr
 g_SLOTS_FROM : Addr
 g_SLOTS_UP_TO : Addr
 g_CALLS_WITH_A_ROW : Addr
 g_CALLS_WITH_A_TEST : Addr
 g_ANSWERERS : Addr
structure Ds (K : PySem.W.Frag) (mg : Str → Option Value) (x : Fs) : Prop where
 cl : Cl K mg x.C x.fI x.fdI
 d_greatest_divisor : Df K mg "greatest_divisor" s_greatest_divisor ["one", "other"] x.a_greatest_divisor x.f_greatest_divisor
 d_inverse : Df K mg "inverse" s_inverse ["number", "modulus"] x.a_inverse x.f_inverse
 d_shared_number : Df K mg "shared_number" s_shared_number ["remainder", "modulus", "other_remainder", "other_modulus"] x.a_shared_number x.f_shared_number
 d_is_beyond : Df K mg "is_beyond" s_is_beyond ["number"] x.a_is_beyond x.f_is_beyond
 d_is_few : Df K mg "is_few" s_is_few ["value"] x.a_is_few x.f_is_few
 d_common_distance : Df K mg "common_distance" s_common_distance ["rising"] x.a_common_distance x.f_common_distance
 d_few_of : Df K mg "few_of" s_few_of ["rising"] x.a_few_of x.f_few_of
 d_row_of : Df K mg "row_of" s_row_of ["least", "greatest", "modulus", "zero"] x.a_row_of x.f_row_of
 d_made_of : Df K mg "made_of" s_made_of ["lo", "hi", "modulus", "remainder", "zero"] x.a_made_of x.f_made_of
 d_hull : Df K mg "hull" s_hull ["numbers"] x.a_hull x.f_hull
 d_told : Df K mg "told" s_told ["value"] x.a_told x.f_told
 d_has : Df K mg "has" s_has ["value", "number"] x.a_has x.f_has
 d_first_numbers : Df K mg "first_numbers" s_first_numbers ["value", "limit"] x.a_first_numbers x.f_first_numbers
 d_between : Df K mg "between" s_between ["value", "low", "high"] x.a_between x.f_between
 d_without : Df K mg "without" s_without ["value", "number"] x.a_without x.f_without
 d_negated : Df K mg "negated" s_negated ["value"] x.a_negated x.f_negated
 d_join : Df K mg "join" s_join ["one", "other"] x.a_join x.f_join
 d_meet : Df K mg "meet" s_meet ["one", "other"] x.a_meet x.f_meet
 d_is_within : Df K mg "is_within" s_is_within ["one", "other"] x.a_is_within x.f_is_within
 d_handful : Df K mg "handful" s_handful ["value", "number"] x.a_handful x.f_handful
 d_few_plus : Df K mg "few_plus" s_few_plus ["few", "other"] x.a_few_plus x.f_few_plus
 d_plus : Df K mg "plus" s_plus ["one", "other"] x.a_plus x.f_plus
 d_minus : Df K mg "minus" s_minus ["one", "other"] x.a_minus x.f_minus
 d_few_times : Df K mg "few_times" s_few_times ["few", "other"] x.a_few_times x.f_few_times
 d_times : Df K mg "times" s_times ["one", "other"] x.a_times x.f_times
 d_rem : Df K mg "rem" s_rem ["value", "divisor"] x.a_rem x.f_rem
 d_widen : Df K mg "widen" s_widen ["value", "other", "thresholds"] x.a_widen x.f_widen
 d_left_unequal : Df K mg "left_unequal" s_left_unequal ["value", "other"] x.a_left_unequal x.f_left_unequal
 d_left_of_each : Df K mg "left_of_each" s_left_of_each ["which", "one", "other"] x.a_left_of_each x.f_left_of_each
 d_left_of_both : Df K mg "left_of_both" s_left_of_both ["which", "one", "other"] x.a_left_of_both x.f_left_of_both
 d_leaves_none : Df K mg "leaves_none" s_leaves_none ["which", "one", "other"] x.a_leaves_none x.f_leaves_none
 d_leaves_none_opposite : Df K mg "leaves_none_opposite" s_leaves_none_opposite ["which", "one", "other"] x.a_leaves_none_opposite x.f_leaves_none_opposite
 d_verdict : Df K mg "verdict" s_verdict ["which", "one", "other"] x.a_verdict x.f_verdict
 d_keep : Df K mg "keep" s_keep ["slots", "new", "value"] x.a_keep x.f_keep
 d_answer_of : Df K mg "answer_of" s_answer_of ["slots", "handed"] x.a_answer_of x.f_answer_of
 d_answer_parts : Df K mg "answer_parts" s_answer_parts ["slots", "handed"] x.a_answer_parts x.f_answer_parts
 d_answer_told : Df K mg "answer_told" s_answer_told ["slots", "handed"] x.a_answer_told x.f_answer_told
 d_answer_has : Df K mg "answer_has" s_answer_has ["slots", "handed"] x.a_answer_has x.f_answer_has
 d_answer_count : Df K mg "answer_count" s_answer_count ["slots", "handed"] x.a_answer_count x.f_answer_count
 d_answer_first : Df K mg "answer_first" s_answer_first ["slots", "handed"] x.a_answer_first x.f_answer_first
 d_answer_join : Df K mg "answer_join" s_answer_join ["slots", "handed"] x.a_answer_join x.f_answer_join
 d_answer_meet : Df K mg "answer_meet" s_answer_meet ["slots", "handed"] x.a_answer_meet x.f_answer_meet
 d_answer_widen : Df K mg "answer_widen" s_answer_widen ["slots", "handed"] x.a_answer_widen x.f_answer_widen
 d_answer_within : Df K mg "answer_within" s_answer_within ["slots", "handed"] x.a_answer_within x.f_answer_within
 d_answer_plus : Df K mg "answer_plus" s_answer_plus ["slots", "handed"] x.a_answer_plus x.f_answer_plus
 d_answer_minus : Df K mg "answer_minus" s_answer_minus ["slots", "handed"] x.a_answer_minus x.f_answer_minus
 d_answer_times : Df K mg "answer_times" s_answer_times ["slots", "handed"] x.a_answer_times x.f_answer_times
 d_answer_rem : Df K mg "answer_rem" s_answer_rem ["slots", "handed"] x.a_answer_rem x.f_answer_rem
 d_answer_test : Df K mg "answer_test" s_answer_test ["slots", "handed"] x.a_answer_test x.f_answer_test
 d_answer_verdict : Df K mg "answer_verdict" s_answer_verdict ["slots", "handed"] x.a_answer_verdict x.f_answer_verdict
 d_answer_call : Df K mg "answer_call" s_answer_call ["slots", "call", "handed"] x.a_answer_call x.f_answer_call
 d_answers : Df K mg "answers" s_answers ["calls"] x.a_answers x.f_answers
 h_WHOLE_NUMBERS : mg "WHOLE_NUMBERS" = some (.ref x.g_WHOLE_NUMBERS)
 t_WHOLE_NUMBERS : ∀ H : Hp, SqT K H x.g_WHOLE_NUMBERS ([1, 6, 1, 2, 1, 2, 3, 3, 3, 2, 3, 3, 3, 3, 5, 3].map V.int)
 h_SLOTS_FROM : mg "SLOTS_FROM" = some (.ref x.g_SLOTS_FROM)
 t_SLOTS_FROM : ∀ H : Hp, SqT K H x.g_SLOTS_FROM ([0, 0, 0, 0, 0, 0, 0, 0, 0, 0, 0, 0, 0, 0, 1, 1].map V.int)
 h_SLOTS_UP_TO : mg "SLOTS_UP_TO" = some (.ref x.g_SLOTS_UP_TO)
 t_SLOTS_UP_TO : ∀ H : Hp, SqT K H x.g_SLOTS_UP_TO ([1, 1, 1, 1, 1, 1, 3, 3, 3, 2, 3, 3, 3, 2, 5, 3].map V.int)
 h_CALLS_WITH_A_ROW : mg "CALLS_WITH_A_ROW" = some (.ref x.g_CALLS_WITH_A_ROW)
 t_CALLS_WITH_A_ROW : ∀ H : Hp, SqT K H x.g_CALLS_WITH_A_ROW ([0, 8].map V.int)
 h_CALLS_WITH_A_TEST : mg "CALLS_WITH_A_TEST" = some (.ref x.g_CALLS_WITH_A_TEST)
 t_CALLS_WITH_A_TEST : ∀ H : Hp, SqT K H x.g_CALLS_WITH_A_TEST ([14, 15].map V.int)
 h_ANSWERERS : mg "ANSWERERS" = some (.ref x.g_ANSWERERS)
 t_ANSWERERS : ∀ H : Hp, SqT K H x.g_ANSWERERS [V.ref x.a_answer_of, V.ref x.a_answer_parts, V.ref x.a_answer_told, V.ref x.a_answer_has, V.ref x.a_answer_count, V.ref x.a_answer_first, V.ref x.a_answer_join, V.ref x.a_answer_meet, V.ref x.a_answer_widen, V.ref x.a_answer_within, V.ref x.a_answer_plus, V.ref x.a_answer_minus, V.ref x.a_answer_times, V.ref x.a_answer_rem, V.ref x.a_answer_test, V.ref x.a_answer_verdict]
end Kv
namespace Kv
open PySem PySem.Spec PyProof.Rows L2
open PySem.W (Codec)
section
variable {P : Program} {w : World} {K : PySem.W.Frag} {mg : Str → Option Value} {base : Heap}
def spGcd : Sp := fun vs H Q _ => ∃ a b : Int, vs = [.int a, .int b] ∧ 0 ≤ a ∧ 0 ≤ b ∧ Q (.int (Nat.gcd a.toNat b.toNat)) H
theorem gcd_step {a b : Int} (ha : 0 ≤ a) (hb : 0 < b) : Nat.gcd b.toNat (a % b).toNat = Nat.gcd a.toNat b.toNat := by
 obtain ⟨x, rfl⟩ := Int.eq_ofNat_of_zero_le ha
 obtain ⟨y, rfl⟩ := Int.eq_ofNat_of_zero_le (Int.le_of_lt hb)
 have e : ((x : Int) % (y : Int)) = ((x % y : Nat) : Int) := (Int.natCast_emod x y).symm
 rw [e]
 simp only [Int.toNat_natCast]
 rw [Nat.gcd_comm x y, Nat.gcd_rec y x, Nat.gcd_comm]
theorem ok_gcd {f : Addr} {fd : FuncData} (F : Fun K "greatest_divisor" "greatest_divisor" s_greatest_divisor f fd) : FnOk P w K mg base CX0 1 f fd ["one", "other"] spGcd := by
 refine F.ok sc_greatest_divisor (fun vs H Q E h => ?_) (fun cdv A outer s H vs Q E hr h => ?_)
 ·obtain ⟨a, b, rfl, _⟩ := h
  rfl
 ·obtain ⟨a, b, rfl, ha, hb, k⟩ := h
  refine ⟨_, pss_cons (ps_while PassesOwn.never (pt_cmpR op_ne (pv 1) pe_int (nomark _)) (pss_cons (ps_set (i := 2) sc_greatest_divisor.nd rfl (Or.inl rfl) (pe_op op_mod (pv 0) (pv 1)))
   (pss_cons (ps_set (i := 0) sc_greatest_divisor.nd rfl (Or.inl rfl) (pv 1)) (pss_one (ps_set (i := 1) sc_greatest_divisor.nd rfl (Or.inl rfl) (pv 2)))))) (pss_one (ps_ret (pv 0))), ?_⟩
  refine while_by (fun σ H' => H' = H ∧ ∃ (x y : Int) (r : Option V), σ = [some (.int x), some (.int y), r] ∧ 0 ≤ x ∧ 0 ≤ y ∧ Nat.gcd x.toNat y.toNat = Nat.gcd a.toNat b.toNat)
   (fun σ _ => match σ with
    | [_, some (.int y), _] => y.toNat
    | _ => 0) ⟨rfl, a, b, none, rfl, ha, hb, rfl⟩ ?_ (fun σ H Q Q' h ⟨v, e, s, k, e2, q⟩ => ⟨v, e, s, k, e2, h _ _ q⟩)
  rintro σ H' ⟨rfl, x, y, r, rfl, hx, hy, e⟩
  refine ⟨_, rfl, rfl, _, rfl, ?_⟩
  by_cases h0 : y = 0
  ·subst h0
   refine iteNS rfl ?_
   refine ⟨_, rfl, ?_⟩
   have e1 : x = ((Nat.gcd a.toNat b.toNat : Nat) : Int) := by
    rw [← e]
    simp
    omega
   rw [e1]
   exact k
  ·have hne : decide (V.int y = V.int 0) = false := decide_eq_false fun q => h0 (by injection q)
   rw [hne]
   refine iteT ?_
   refine ⟨_, rfl, _, rfl, _, _, rfl, rfl, (by show 0 < y; omega), ?_⟩
   refine ⟨_, rfl, ?_⟩
   refine ⟨_, rfl, ?_⟩
   refine ⟨⟨rfl, y, x % y, _, rfl, hy, Int.emod_nonneg _ h0, ?_⟩, ?_⟩
   ·rw [gcd_step hx (by omega), e]
   ·show (x % y).toNat < y.toNat
    have := Int.emod_lt_of_pos x (show 0 < y by omega)
    have := Int.emod_nonneg x h0
    omega
end
end Kv
namespace Kv
open PySem PySem.Spec PyProof.Rows L2
open PySem.W (Codec)
section
variable {P : Program} {w : World} {K : PySem.W.Frag} {mg : Str → Option Value} {base : Heap}
def spInv : Sp := fun vs H Q _ => ∃ a m : Int, vs = [.int a, .int m] ∧ 0 ≤ a ∧ 0 < m ∧ m < 1073741824 ∧ Nat.gcd a.toNat m.toNat = 1 ∧ ∀ v : Int, 0 ≤ v → v < m → m ∣ a * v - 1 → Q (.int v) H
theorem inv_turn {m a A B x y : Int} (h1 : m ∣ A - a * x) (h2 : m ∣ B - a * y) (q : Int) : m ∣ (A - q * B) - a * (x - q * y) := by
 have e : (A - q * B) - a * (x - q * y) = (A - a * x) - q * (B - a * y) := by
  rw [Int.mul_sub, Int.mul_sub, ← Int.mul_assoc q a y, Int.mul_comm q a, Int.mul_assoc a q y]
  omega
 rw [e]
 exact Int.dvd_sub h1 (Int.dvd_mul_of_dvd_right h2)
theorem ok_inv {f : Addr} {fd : FuncData} (F : Fun K "inverse" "inverse" s_inverse f fd) : FnOk P w K mg base CX0 1 f fd ["number", "modulus"] spInv := by
 refine F.ok sc_inverse (fun vs H Q E h => ?_) (fun cdv A outer s H vs Q E hr h => ?_)
 ·obtain ⟨a, b, rfl, _⟩ := h
  rfl
 ·obtain ⟨a, m, rfl, ha, hm, hmb, hg, k⟩ := h
  refine ⟨_, pss_cons (ps_set (i := 2) sc_inverse.nd rfl (Or.inl rfl) (pv 1)) (pss_cons (ps_set (i := 3) sc_inverse.nd rfl (Or.inl rfl) (pe_op op_mod (pv 0) (pv 1)))
   (pss_cons (ps_set (i := 4) sc_inverse.nd rfl (Or.inl rfl) pe_int) (pss_cons (ps_set (i := 5) sc_inverse.nd rfl (Or.inl rfl) pe_int)
   (pss_cons (ps_while PassesOwn.never (pt_cmpR op_ne (pv 3) pe_int (nomark _))
    (pss_cons (ps_set (i := 6) sc_inverse.nd rfl (Or.inl rfl) (pe_op op_fdiv (pv 2) (pv 3)))
    (pss_cons (ps_set (i := 7) sc_inverse.nd rfl (Or.inl rfl) (pe_op op_sub (pv 2) (pe_op op_mul (pv 6) (pv 3))))
    (pss_cons (ps_set (i := 8) sc_inverse.nd rfl (Or.inl rfl) (pe_op op_sub (pv 4) (pe_op op_mul (pv 6) (pv 5))))
    (pss_cons (ps_set (i := 2) sc_inverse.nd rfl (Or.inl rfl) (pv 3))
    (pss_cons (ps_set (i := 4) sc_inverse.nd rfl (Or.inl rfl) (pv 5))
    (pss_cons (ps_set (i := 3) sc_inverse.nd rfl (Or.inl rfl) (pv 7))
    (pss_one (ps_set (i := 5) sc_inverse.nd rfl (Or.inl rfl) (pv 8))))))))))
   (pss_one (ps_ret (pe_op op_mod (pv 4) (pv 1)))))))), ?_⟩
  refine ⟨_, rfl, ?_⟩
  refine ⟨_, rfl, _, rfl, _, _, rfl, rfl, (show 0 < m from hm), ?_⟩
  have b0 : 0 ≤ a % m := Int.emod_nonneg _ (by omega)
  have b1 : a % m < m := Int.emod_lt_of_pos _ hm
  refine while_by (fun σ H' => H' = H ∧ ∃ (A B x y : Int) (r1 r2 r3 : Option V), σ = [some (.int a), some (.int m), some (.int A), some (.int B), some (.int x), some (.int y), r1, r2, r3] ∧ 0 ≤ A ∧ A ≤ m ∧ 0 ≤ B ∧ B < m ∧ Nat.gcd A.toNat B.toNat = 1 ∧ m ∣ A - a * x ∧ m ∣ B - a * y)
   (fun σ _ => match σ with
    | [_, _, _, some (.int y), _, _, _, _, _] => y.toNat
    | _ => 0) ⟨rfl, m, a % m, 0, 1, none, none, none, rfl, by omega, by omega, b0, b1, ?_, ⟨1, by omega⟩, ⟨-(a / m), ?_⟩⟩ ?_ (fun σ H Q Q' h ⟨v, e, s, k, e2, q⟩ => ⟨v, e, s, k, e2, h _ _ q⟩)
  ·have := gcd_step ha hm
   rw [this]
   exact hg
  ·have := Int.emod_add_mul_ediv a m
   rw [Int.mul_neg]
   omega
  rintro σ H' ⟨rfl, A, B, x, y, r1, r2, r3, rfl, hA, hAm, hB, hBm, e, d1, d2⟩
  refine ⟨_, rfl, rfl, _, rfl, ?_⟩
  by_cases h0 : B = 0
  ·subst h0
   refine iteNS rfl ?_
   refine ⟨_, rfl, _, rfl, _, _, rfl, rfl, (show 0 < m from hm), ?_⟩
   have eA : A = 1 := by
    rw [show (0 : Int).toNat = 0 from rfl, Nat.gcd_zero_right] at e
    omega
   subst eA
   refine k _ (Int.emod_nonneg _ (by omega)) (Int.emod_lt_of_pos _ hm) ?_
   obtain ⟨c, hc⟩ := d1
   refine ⟨-c - a * (x / m), ?_⟩
   have e2 := Int.emod_add_mul_ediv x m
   have e3 : a * (x % m) = a * x - m * (a * (x / m)) := by
    have : x % m = x - m * (x / m) := by omega
    rw [this, Int.mul_sub, ← Int.mul_assoc a m, Int.mul_comm a m, Int.mul_assoc m a]
   rw [e3, Int.mul_sub, Int.mul_neg]
   omega
  ·have hne : decide (V.int B = V.int 0) = false := decide_eq_false fun q => h0 (by injection q)
   rw [hne]
   refine iteT ?_
   have hBp : 0 < B := by omega
   have hq0 : 0 ≤ A / B := Int.ediv_nonneg hA hB
   have hq1 : A / B ≤ A := Int.ediv_le_self _ hA
   have hb64 : -(2 ^ 64) < A / B ∧ A / B < 2 ^ 64 := ⟨by omega, by omega⟩
   refine ⟨_, rfl, _, rfl, _, _, rfl, rfl, ⟨hBp, by omega⟩, ?_⟩
   refine ⟨_, rfl, _, rfl, _, rfl, _, _, rfl, rfl, .inl hb64, _, _, rfl, rfl, ?_⟩
   refine ⟨_, rfl, _, rfl, _, rfl, _, _, rfl, rfl, .inl hb64, _, _, rfl, rfl, ?_⟩
   refine ⟨_, rfl, ?_⟩
   refine ⟨_, rfl, ?_⟩
   refine ⟨_, rfl, ?_⟩
   refine ⟨_, rfl, ?_⟩
   have em : A - A / B * B = A % B := by
    have := Int.emod_add_mul_ediv A B
    rw [Int.mul_comm]
    omega
   have n0 : 0 ≤ A % B := Int.emod_nonneg _ h0
   have n1 : A % B < B := Int.emod_lt_of_pos _ hBp
   refine ⟨⟨rfl, B, A - A / B * B, y, x - A / B * y, _, _, _, rfl, hB, by omega, by omega, by omega, ?_, d2, inv_turn d1 d2 _⟩, ?_⟩
   ·rw [em, gcd_step hA hBp, e]
   ·show (A - A / B * B).toNat < B.toNat
    omega
def spShared : Sp := fun vs H Q _ => ∃ r m s n : Int, vs = [.int r, .int m, .int s, .int n] ∧ 0 < m ∧ m < 1073741824 ∧ 0 < n ∧ n < 1073741824 ∧ (¬ (s - r) % (Nat.gcd m.toNat n.toNat : Nat) = 0 → Q .non H) ∧
 ((s - r) % (Nat.gcd m.toNat n.toNat : Nat) = 0 → ∀ x : Int, m ∣ x - r → n ∣ x - s → Q (.int x) H)
theorem ok_shared {f fG fI : Addr} {fd fdG fdI : FuncData} (F : Fun K "shared_number" "shared_number" s_shared_number f fd) (FG : Fun K "greatest_divisor" "greatest_divisor" s_greatest_divisor fG fdG) (bG : Binds K fdG ["one", "other"] []) (mG : mg "greatest_divisor" = some (.ref fG))
  (FI : Fun K "inverse" "inverse" s_inverse fI fdI) (bI : Binds K fdI ["number", "modulus"] []) (mI : mg "inverse" = some (.ref fI)) : FnOk P w K mg base CX0 2 f fd ["remainder", "modulus", "other_remainder", "other_modulus"] spShared := by
 have GG : FnOk P w K mg base CX0 1 fG fdG ["one", "other"] spGcd := ok_gcd FG
 have GI : FnOk P w K mg base CX0 1 fI fdI ["number", "modulus"] spInv := ok_inv FI
 refine F.ok sc_shared_number (fun vs H Q E h => ?_) (fun cdv A outer s H vs Q E hr h => ?_)
 ·obtain ⟨r, m, s, n, rfl, _⟩ := h
  rfl
 ·obtain ⟨r, m, s, n, rfl, hm, hmb, hn, hnb, k1, k2⟩ := h
  refine ⟨_, pss_cons (ps_set (i := 4) sc_shared_number.nd rfl (Or.inl rfl) (pe_call GG hr rfl mG FG.kp bG .nil pass0 (pa_cons (pv 1) (pa_cons (pv 3) pa_nil))))
   (pss_cons (ps_set (i := 5) sc_shared_number.nd rfl (Or.inl rfl) (pe_op op_sub (pv 2) (pv 0)))
   (pss_cons (ps_if (pt_cmpR op_ne (pe_op op_mod (pv 5) (pv 4)) pe_int (nomark _)) (pss_one (ps_ret pe_non)) pss_nil)
   (pss_cons (ps_set (i := 6) sc_shared_number.nd rfl (Or.inl rfl) (pe_op op_fdiv (pv 3) (pv 4)))
   (pss_cons (ps_set (i := 7) sc_shared_number.nd rfl (Or.inl rfl) (pe_op op_mod (pe_op op_mul (pe_op op_fdiv (pv 5) (pv 4)) (pe_call GI hr rfl mI FI.kp bI .nil pass0 (pa_cons (pe_op op_fdiv (pv 1) (pv 4)) (pa_cons (pv 6) pa_nil)))) (pv 6)))
   (pss_one (ps_ret (pe_op op_add (pv 0) (pe_op op_mul (pv 7) (pv 1))))))))), ?_⟩
  obtain ⟨M, rfl⟩ := Int.eq_ofNat_of_zero_le (Int.le_of_lt hm)
  obtain ⟨N, rfl⟩ := Int.eq_ofNat_of_zero_le (Int.le_of_lt hn)
  simp only [Int.toNat_natCast] at k1 k2
  have gp : 0 < Nat.gcd M N := Nat.gcd_pos_of_pos_left _ (by omega)
  have gle : Nat.gcd M N ≤ M := Nat.gcd_le_left _ (by omega)
  have gle2 : Nat.gcd M N ≤ N := Nat.gcd_le_right _ (by omega)
  refine ⟨_, rfl, _, rfl, _, _, rfl, by omega, by omega, ?_⟩
  simp only [Int.toNat_natCast]
  refine ⟨_, rfl, _, rfl, _, _, rfl, rfl, ?_⟩
  refine ⟨_, rfl, _, rfl, _, _, rfl, rfl, (show (0 : Int) < (Nat.gcd M N : Nat) by omega), rfl, _, rfl, ?_⟩
  refine ifNe (fun h0 => k1 h0) (fun h0 => ?_)
  ·refine ⟨_, rfl, _, rfl, _, _, rfl, rfl, ⟨by show (0 : Int) < (Nat.gcd M N : Nat); omega, by show ((Nat.gcd M N : Nat) : Int) < 1073741824; omega⟩, ?_⟩
   have hc : ((N : Int) / (Nat.gcd M N : Nat)) = ((N / Nat.gcd M N : Nat) : Int) := (Int.natCast_ediv ..).symm
   have hc1 : ((M : Int) / (Nat.gcd M N : Nat)) = ((M / Nat.gcd M N : Nat) : Int) := (Int.natCast_ediv ..).symm
   have cp : 0 < N / Nat.gcd M N := Nat.div_pos gle2 gp
   have cle : N / Nat.gcd M N ≤ N := Nat.div_le_self _ _
   have cop : Nat.gcd (M / Nat.gcd M N) (N / Nat.gcd M N) = 1 := Nat.coprime_div_gcd_div_gcd gp
   have eN : N / Nat.gcd M N * Nat.gcd M N = N := Nat.div_mul_cancel (Nat.gcd_dvd_right _ _)
   have eM : M / Nat.gcd M N * Nat.gcd M N = M := Nat.div_mul_cancel (Nat.gcd_dvd_left _ _)
   refine ⟨_, rfl, _, rfl, _, _, rfl, rfl, ⟨by show (0 : Int) < (Nat.gcd M N : Nat); omega, by show ((Nat.gcd M N : Nat) : Int) < 1073741824; omega⟩, ?_⟩
   refine ⟨_, rfl, _, rfl, _, _, rfl, rfl, ⟨by show (0 : Int) < (Nat.gcd M N : Nat); omega, by show ((Nat.gcd M N : Nat) : Int) < 1073741824; omega⟩, ?_⟩
   refine ⟨_, rfl, _, _, rfl, (by rw [hc1]; exact Int.natCast_nonneg _), (by rw [hc]; omega), (by rw [hc]; omega), (by rw [hc, hc1]; simp only [Int.toNat_natCast]; exact cop), fun v v0 v1 vd => ?_⟩
   rw [hc] at v1 vd
   rw [hc1] at vd
   refine ⟨_, _, rfl, rfl, .inr ⟨by omega, by omega⟩, ?_⟩
   refine ⟨_, rfl, _, _, rfl, rfl, (show (0 : Int) < (N : Int) / (Nat.gcd M N : Nat) by rw [hc]; omega), ?_⟩
   have s0 : 0 ≤ ((s - r) / (Nat.gcd M N : Nat) * v) % ((N / Nat.gcd M N : Nat) : Int) := Int.emod_nonneg _ (by omega)
   have s1 : ((s - r) / (Nat.gcd M N : Nat) * v) % ((N / Nat.gcd M N : Nat) : Int) < ((N / Nat.gcd M N : Nat) : Int) := Int.emod_lt_of_pos _ (by omega)
   refine ⟨_, rfl, _, rfl, _, rfl, _, _, rfl, rfl, .inl ⟨by rw [hc]; omega, by rw [hc]; omega⟩, _, _, rfl, rfl, ?_⟩
   refine k2 h0 _ ⟨((s - r) / (Nat.gcd M N : Nat) * v) % ((N : Int) / (Nat.gcd M N : Nat)), by rw [Int.mul_comm]; omega⟩ ?_
   rw [hc]
   have ed : (s - r) / (Nat.gcd M N : Nat) * (Nat.gcd M N : Nat) = s - r := Int.ediv_mul_cancel (Int.dvd_of_emod_eq_zero h0)
   generalize Nat.gcd M N = g at *
   generalize (s - r) / (g : Int) = d at *
   generalize N / g = n' at *
   generalize M / g = m' at *
   have em := Int.emod_add_mul_ediv (d * v) (n' : Int)
   obtain ⟨c, hc⟩ := vd
   refine ⟨d * c - (d * v / (n' : Int)) * m', ?_⟩
   generalize d * v / (n' : Int) = q at *
   generalize (d * v) % (n' : Int) = t at *
   have eN' : (N : Int) = (n' : Int) * (g : Int) := by rw [← eN]; exact Int.natCast_mul ..
   have eM' : (M : Int) = (m' : Int) * (g : Int) := by rw [← eM]; exact Int.natCast_mul ..
   have e1 : t = d * v - (n' : Int) * q := by omega
   rw [eN', eM', e1]
   have e2 : r - s = -(d * (g : Int)) := by omega
   have e3 : (d * v - (n' : Int) * q) * ((m' : Int) * (g : Int)) = (d * ((m' : Int) * v) - (n' : Int) * (q * (m' : Int))) * (g : Int) := by
    rw [← Int.mul_assoc, Int.sub_mul, Int.mul_assoc d v, Int.mul_comm v, Int.mul_assoc (n' : Int)]
   have e4 : (m' : Int) * v = 1 + (n' : Int) * c := by omega
   rw [e3, e4, Int.mul_add, Int.mul_one]
   have e5 : r + (d + d * ((n' : Int) * c) - (n' : Int) * (q * (m' : Int))) * (g : Int) - s = -(d * (g : Int)) + (d + d * ((n' : Int) * c) - (n' : Int) * (q * (m' : Int))) * (g : Int) := by omega
   rw [e5]
   have e6 : (n' : Int) * (g : Int) * (d * c - q * (m' : Int)) = (d * ((n' : Int) * c) - (n' : Int) * (q * (m' : Int))) * (g : Int) := by
    rw [Int.mul_right_comm, Int.mul_sub, ← Int.mul_assoc (n' : Int) d c, Int.mul_comm (n' : Int) d, Int.mul_assoc d]
   rw [e6, Int.sub_mul, Int.sub_mul, Int.add_mul]
   omega
end
end Kv
namespace Kv
open PySem PySem.Spec PyProof.Rows L2
open PySem.W (Codec)
section
variable {P : Program} {w : World} {K : PySem.W.Frag} {mg : Str → Option Value} {base : Heap}
def spInit (C : Addr) : Sp := fun vs H Q _ => ∃ (p dx q : Addr) (a b c d e f : Int), vs = [.ref p, .int a, .int b, .int c, .int d, .int e, .int f, .ref q] ∧ H p = some (.ins C dx []) ∧
 ∀ H' : Hp, (∀ l, H' p = some (.ins C dx (flds ⟨a, b, c, d, e, f, l⟩ q))) → (∀ b o, H b = some o → b ≠ p → H' b = some o) → Q .non H'
theorem scInit : FnScope ["self", "size", "least", "greatest", "modulus", "remainder", "zero", "numbers"] ["self", "size", "least", "greatest", "modulus", "remainder", "zero", "numbers"] (defScope s_Value_init) := ⟨rfl, rfl, rfl, by decide +kernel, rfl, by decide +kernel, by decide +kernel⟩
theorem ok_init {f C : Addr} {fd : FuncData} (F : Fun K "__init__" "Value.__init__" s_Value_init f fd) (T : Txt K mg C) : FnOk P w K mg base CX0 1 f fd ["self", "size", "least", "greatest", "modulus", "remainder", "zero", "numbers"] (spInit C) := by
 refine F.ok scInit (fun vs H Q E h => ?_) (fun cdv A outer s H vs Q E hr h => ?_)
 ·obtain ⟨p, dx, q, a, b, c, d, e, f, rfl, _⟩ := h
  rfl
 ·obtain ⟨p, dx, q, a, b, c, d, e, f, rfl, hp, k⟩ := h
  refine ⟨_, pss_cons (ps_fld (pv 0) (pv 1) rfl) (pss_cons (ps_fld (pv 0) (pv 2) rfl) (pss_cons (ps_fld (pv 0) (pv 3) rfl) (pss_cons (ps_fld (pv 0) (pv 4) rfl) (pss_cons (ps_fld (pv 0) (pv 5) rfl) (pss_cons (ps_fld (pv 0) (pv 6) rfl) (pss_one (ps_fld (pv 0) (pv 7) rfl))))))), ?_⟩
  refine ⟨_, rfl, _, rfl, p, C, dx, [], rfl, hp, T.cl, T.nS, (by show 0 < 1000; decide), ?_⟩
  refine ⟨_, rfl, _, rfl, p, C, dx, _, rfl, upd_same, T.cl, T.nL, (by show 1 < 1000; decide), ?_⟩
  refine ⟨_, rfl, _, rfl, p, C, dx, _, rfl, upd_same, T.cl, T.nG, (by show 2 < 1000; decide), ?_⟩
  refine ⟨_, rfl, _, rfl, p, C, dx, _, rfl, upd_same, T.cl, T.nM, (by show 3 < 1000; decide), ?_⟩
  refine ⟨_, rfl, _, rfl, p, C, dx, _, rfl, upd_same, T.cl, T.nR, (by show 4 < 1000; decide), ?_⟩
  refine ⟨_, rfl, _, rfl, p, C, dx, _, rfl, upd_same, T.cl, T.nZ, (by show 5 < 1000; decide), ?_⟩
  refine ⟨_, rfl, _, rfl, p, C, dx, _, rfl, upd_same, T.cl, T.nN, (by show 6 < 1000; decide), ?_⟩
  refine k _ (fun l => upd_same) fun b o e hb => ?_
  rw [upd_ne hb, upd_ne hb, upd_ne hb, upd_ne hb, upd_ne hb, upd_ne hb, upd_ne hb]
  exact e
theorem made {C : Addr} {H1 : Hp} {Q : VK} {a b c d e f : Int} {q : Addr} {l : List Int} (hq : H1 q = some (.lst (l.map V.int))) (k : ∀ (H' : Hp) (p : Addr), Same H1 H' → VAt C H' p ⟨a, b, c, d, e, f, l⟩ → Q (.ref p) H') :
  ∀ x dx, H1 x = none → H1 dx = none → dx ≠ x → spInit C (.ref x :: ([.int a, .int b, .int c, .int d, .int e, .int f, .ref q] ++ [])) (upd (upd H1 dx (.own x)) x (.ins C dx [])) (fun v H2 => v = .non ∧ Q (.ref x) H2) E0 := fun x dx n1 n2 ne =>
 ⟨x, dx, q, a, b, c, d, e, f, rfl, upd_same, fun H' h1 h2 => ⟨rfl, k H' x (Same.made n1 n2 h2) ⟨dx, q, h1 l, Same.made n1 n2 h2 _ _ hq⟩⟩⟩
def spBeyond : Sp := fun vs H Q _ => ∃ n : Int, vs = [.int n] ∧ Q (.bl (!Vadomb.inBound n)) H
theorem ok_beyond {f C : Addr} {fd : FuncData} (F : Df K mg "is_beyond" s_is_beyond ["number"] f fd) (T : Txt K mg C) : FnOk P w K mg base CX0 1 f fd ["number"] spBeyond := by
 obtain ⟨t, hB⟩ := T.h_BOUND
 refine F.fn.ok sc_is_beyond (fun vs H Q E h => ?_) (fun cdv A outer s H vs Q E hr h => ?_)
 ·obtain ⟨n, rfl, _⟩ := h
  rfl
 ·obtain ⟨n, rfl, k⟩ := h
  refine ⟨_, pss_one (ps_ret (pe_or (pe_cmpR op_lt (pv 0) (pe_un un_neg (pe_glob (v := .int 1000000) rfl hB ⟨t, rfl⟩)) (nomark _)) (pe_one (pe_cmpR op_gt (pv 0) (pe_glob (v := .int 1000000) rfl hB ⟨t, rfl⟩) (nomark _))))), ?_⟩
  refine ⟨_, rfl, _, rfl, _, _, rfl, rfl, _, rfl, ?_⟩
  have key : Vadomb.inBound n = (decide (-1000000 ≤ n) && decide (n ≤ 1000000)) := rfl
  rw [key] at k
  refine ifB (fun h => ?_) (fun h => ⟨_, rfl, _, _, rfl, rfl, ?_⟩)
  ·rw [decide_eq_false (show ¬ (-1000000 ≤ n) by omega)] at k
   exact k
  ·rw [decide_eq_true (show (-1000000 : Int) ≤ n by omega), Bool.true_and] at k
   have e : decide ((1000000 : Int) < n) = !decide (n ≤ 1000000) := by
    by_cases h2 : n ≤ 1000000
    ·rw [decide_eq_true h2, decide_eq_false (by omega)]; rfl
    ·rw [decide_eq_false h2, decide_eq_true (by omega)]; rfl
   rw [← e] at k
   exact k
def spIsFew (C : Addr) : Sp := fun vs H Q _ => ∃ (p : Addr) (x : PV), vs = [.ref p] ∧ VAt C H p x ∧ Q (.bl (decide (x.size ≤ 6))) H
theorem ok_isFew {f C : Addr} {fd : FuncData} (F : Df K mg "is_few" s_is_few ["value"] f fd) (T : Txt K mg C) : FnOk P w K mg base CX0 1 f fd ["value"] (spIsFew C) := by
 obtain ⟨t, hB⟩ := T.h_FEW
 refine F.fn.ok sc_is_few (fun vs H Q E h => ?_) (fun cdv A outer s H vs Q E hr h => ?_)
 ·obtain ⟨p, x, rfl, _⟩ := h
  rfl
 ·obtain ⟨p, x, rfl, ⟨dx, q, h1, h2⟩, k⟩ := h
  refine ⟨_, pss_one (ps_ret (pe_cmpR op_le (pe_fld (pv 0) rfl) (pe_glob (v := .int 6) rfl hB ⟨t, rfl⟩) (nomark _))), ?_⟩
  exact ⟨_, rfl, p, C, dx, _, _, rfl, h1, T.cl, T.nS, fl_size x q, _, _, rfl, rfl, k⟩
end
end Kv
namespace Kv
open PySem PySem.Spec PyProof.Rows L2
open PySem.W (Codec)
def pyV : Vadomb.Fact → PV
 | none => ⟨0, 0, 0, 0, 0, 0, []⟩
 | some v => ⟨(Vadomb.count v : Int), v.lo, v.hi, (v.mod : Int), v.rem, Vadomb.bool v.zero, v.few.getD []⟩
theorem inV_ints (z : Int) : ∀ l : List Int, inV (.int z) (l.map V.int) = l.contains z
 | [] => rfl
 | a :: l => by
  show (eqV (.int a) (.int z) || inV (.int z) (l.map V.int)) = _
  rw [inV_ints z l, List.contains_cons]
  show (a == z || _) = (z == a || _)
  rw [Bool.beq_comm]
theorem flat_ints : ∀ l : List Int, (l.map V.int).all flatV = true
 | [] => rfl
 | a :: l => flat_ints l
theorem ix_first {a : Int} {l : List Int} : atI ((a :: l).map V.int) 0 = some (.int a) := atI_nat (j := 0) rfl
theorem ix_last : ∀ {a : Int} {l : List Int}, atI ((a :: l).map V.int) (-1) = some (.int ((a :: l).getLastD a)) := fun {a l} => by
 have e : (a :: l) = (a :: l).dropLast ++ [(a :: l).getLast (by simp)] := (List.dropLast_concat_getLast _).symm
 have e2 : (a :: l).getLastD a = (a :: l).getLast (by simp) := by simp [List.getLastD_eq_getLast?, List.getLast?_eq_getLast]
 rw [e2]
 conv => lhs; rw [e]
 rw [List.map_append]
 exact atI_last _ _
theorem of_map {l : List Int} {i : Nat} {y : V} (h : (l.map V.int)[i]? = some y) : ∃ z, l[i]? = some z ∧ y = V.int z := by
 rw [List.getElem?_map] at h
 cases e : l[i]? with
 | none =>
  rw [e] at h
  cases h
 | some z =>
  rw [e] at h
  exact ⟨z, rfl, (Option.some.inj h).symm⟩
theorem take_snoc {α : Type} {l : List α} {i : Nat} {x : α} (h : l[i]? = some x) : l.take (i + 1) = l.take i ++ [x] := by
 rw [List.take_add_one, h]
 rfl
section
variable {P : Program} {w : World} {K : PySem.W.Frag} {mg : Str → Option Value} {base : Heap}
def spDist : Sp := fun vs H Q _ => ∃ (a : Addr) (l : List Int), vs = [.ref a] ∧ H a = some (.lst (l.map V.int)) ∧ KM.Up l ∧ Q (.int (Vadomb.gcdOf l : Nat)) H
theorem ok_dist {f fG : Addr} {fd fdG : FuncData} (F : Df K mg "common_distance" s_common_distance ["rising"] f fd) (FG : Df K mg "greatest_divisor" s_greatest_divisor ["one", "other"] fG fdG) : FnOk P w K mg base CX0 2 f fd ["rising"] spDist := by
 have GG : FnOk P w K mg base CX0 1 fG fdG ["one", "other"] spGcd := ok_gcd FG.fn
 refine F.fn.ok sc_common_distance (fun vs H Q E h => ?_) (fun cdv A outer s H vs Q E hr h => ?_)
 ·obtain ⟨a, l, rfl, _⟩ := h
  rfl
 ·obtain ⟨a, l, rfl, ha, hup, k⟩ := h
  refine ⟨_, pss_cons (ps_set (i := 1) sc_common_distance.nd rfl (Or.inl rfl) pe_int) (pss_cons (ps_for PassesOwn.never rfl (pi_list (pv 0)) (pg_name (i := 2) sc_common_distance.nd rfl (Or.inl rfl))
   (pss_one (ps_set (i := 1) sc_common_distance.nd rfl (Or.inl rfl) (pe_call GG hr rfl FG.at_ FG.fn.kp FG.bd .nil pass0 (pa_cons (pv 1) (pa_cons (pe_op op_sub (pv 2) (pe_ix ix_list (pv 0) pe_int (fun _ _ => rfl))) pa_nil))))))
   (pss_one (ps_ret (pv 1)))), ?_⟩
  refine ⟨_, rfl, a, rfl, ⟨_, SqL.of ha⟩, for_list (K := K) (a := a) (xs := l.map V.int) (fun i σ H' => H' = H ∧ ∃ (v : Option V), σ = [some (.ref a), some (.int (((l.take i).foldl (fun g n => Nat.gcd g (n - l.headD 0).natAbs) 0 : Nat) : Int)), v])
   ⟨rfl, none, rfl⟩ (fun i σ H' _ h => by rw [h.1]; exact SqL.of ha) ?_ ?_⟩
  ·rintro i y σ H' hi ⟨rfl, v, rfl⟩
   obtain ⟨z, hz, rfl⟩ := of_map hi
   cases hl : l with
   | nil => rw [hl] at hz; simp at hz
   | cons b r =>
    have hge : 0 ≤ z - b := by
     rw [hl] at hz hup
     obtain ⟨h1, h2⟩ := List.pairwise_cons.mp hup
     rcases List.mem_cons.mp (List.mem_of_getElem? hz) with e | m
     ·omega
     ·have := h1 z m
      omega
    rw [hl] at ha
    refine ⟨_, rfl, _, rfl, _, rfl, a, _, _, _, rfl, rfl, SqL.of ha, ix_first, _, _, rfl, rfl, _, _, rfl, Int.natCast_nonneg _, hge, ?_⟩
    refine ⟨rfl, some (.int z), ?_⟩
    rw [← hl, take_snoc hz, List.foldl_append]
    show [_, some (V.int ((Nat.gcd _ (z - b).toNat : Nat) : Int)), _] = _
    have e : (z - b).toNat = (z - l.headD 0).natAbs := by
     rw [hl]
     show _ = (z - b).natAbs
     omega
    rw [e, Int.toNat_natCast]
    rfl
  ·rintro σ H' ⟨rfl, v, rfl⟩
   refine ⟨_, rfl, ?_⟩
   rw [List.length_map, List.take_length]
   cases l with
   | nil => exact k
   | cons b r =>
    rw [← KM.fold_first] at k
    exact k
def spFewOf (C : Addr) : Sp := fun vs H Q _ => ∃ (a : Addr) (l : List Int), vs = [.ref a] ∧ H a = some (.lst (l.map V.int)) ∧ KM.Up l ∧ ∀ (H' : Hp) (p : Addr), Same H H' → VAt C H' p (pyV (Vadomb.ofFew l)) → Q (.ref p) H'
theorem ok_few_of {x : Fs} (D : Ds K mg x) : FnOk P w K mg base CX0 3 x.a_few_of x.f_few_of ["rising"] (spFewOf x.C) := by
 have G_common_distance : FnOk P w K mg base CX0 2 _ _ ["rising"] spDist := ok_dist D.d_common_distance D.d_greatest_divisor
 have GI : FnOk P w K mg base CX0 1 x.fI x.fdI ["self", "size", "least", "greatest", "modulus", "remainder", "zero", "numbers"] (spInit x.C) := ok_init D.cl.ini D.cl.txt
 refine D.d_few_of.fn.ok sc_few_of (fun vs H Q E h => ?_) (fun cdv A outer s H vs Q E hr h => ?_)
 ·obtain ⟨a, l, rfl, _⟩ := h
  rfl
 ·obtain ⟨a, l, rfl, ha, hup, k⟩ := h
  refine ⟨_, (pss_cons (ps_if (pt_cmpR op_eq (pe_callB call_len_seq (by rfl) D.cl.txt.len PySem.boot_len (pa_cons (pv 0) pa_nil)) pe_int (nomark _)) (pss_one (ps_ret (pe_make D.cl.mak GI hr rfl D.cl.txt.mgC D.cl.bd .nil pass0 (pa_cons pe_int (pa_cons pe_int (pa_cons pe_int (pa_cons pe_int (pa_cons pe_int (pa_cons pe_int (pa_cons (pe_lst pa_nil) pa_nil)))))))))) pss_nil)
 (pss_cons (ps_set (i := 1) sc_few_of.nd rfl (Or.inl rfl) (pe_ix ix_list (pv 0) pe_int (fun _ _ => rfl)))
 (pss_cons (ps_set (i := 2) sc_few_of.nd rfl (Or.inl rfl) (pe_cD G_common_distance hr D.d_common_distance (pa_cons (pv 0) pa_nil)))
 (pss_cons (ps_set (i := 3) sc_few_of.nd rfl (Or.inl rfl) (pe_ifExp (pt_cmpR op_eq (pv 2) pe_int (nomark _)) (pv 1) (pe_op op_mod (pv 1) (pv 2))))
 (pss_cons (ps_set (i := 4) sc_few_of.nd rfl (Or.inl rfl) (pe_ifExp (pt_cmpR op_in_seq pe_int (pv 0) (by with_unfolding_all rfl)) pe_int pe_int))
 (pss_one (ps_ret (pe_make D.cl.mak GI hr rfl D.cl.txt.mgC D.cl.bd .nil pass0 (pa_cons (pe_callB call_len_seq (by rfl) D.cl.txt.len PySem.boot_len (pa_cons (pv 0) pa_nil)) (pa_cons (pv 1) (pa_cons (pe_ix ix_list (pv 0) (pe_un un_neg pe_int) (fun _ _ => rfl)) (pa_cons (pv 2) (pa_cons (pv 3) (pa_cons (pv 4) (pa_cons (pv 0) pa_nil))))))))))))))), ?_⟩
  refine ⟨_, rfl, a, _, rfl, .inl (SqL.of ha), rfl, _, rfl, ?_⟩
  refine ifEq (fun h => ?_) (fun h => ?_)
  ·have e : l = [] := by
    rw [List.length_map] at h
    exact List.length_eq_zero_iff.mp (by omega)
   subst e
   refine ⟨Nat.zero_le _, fun q hq => ?_⟩
   refine made (l := []) upd_same fun H' p hs hv => ?_
   exact k H' p ((Same.new hq).trans hs) hv
  ·cases l with
   | nil => exact absurd rfl h
   | cons b r =>
    refine ⟨_, rfl, a, _, _, _, rfl, rfl, SqL.of ha, ix_first, ?_⟩
    refine ⟨_, rfl, a, _, rfl, ha, hup, ?_⟩
    refine ⟨_, rfl, rfl, _, rfl, ?_⟩
    refine ifJoin (v := .int (Vadomb.remBy (Vadomb.gcdOf (b :: r)) b)) (fun e Q' k' => ?_) (fun e Q' k' => ?_) ?_
    ·have e0 := of_eqI e
     refine ⟨_, rfl, ?_⟩
     unfold Vadomb.remBy at k'
     rw [if_pos (by omega)] at k'
     exact k'
    ·have e0 := of_neI e
     refine ⟨_, rfl, _, rfl, _, _, rfl, rfl, (by show (0 : Int) < ((Vadomb.gcdOf (b :: r) : Nat) : Int); omega), ?_⟩
     unfold Vadomb.remBy at k'
     rw [if_neg (by omega)] at k'
     exact k'
    refine ⟨_, rfl, a, _, rfl, .inl (SqL.of ha), rfl, flat_ints _, _, rfl, ?_⟩
    refine ifJoin (v := .int (Vadomb.bool ((b :: r).contains 0))) (fun e Q' k' => ?_) (fun e Q' k' => ?_) ?_
    ·have e' : inV (.int 0) ((b :: r).map V.int) = true := e
     rw [inV_ints] at e'
     rw [e'] at k'
     exact k'
    ·have e' : inV (.int 0) ((b :: r).map V.int) = false := e
     rw [inV_ints] at e'
     rw [e'] at k'
     exact k'
    refine ⟨_, rfl, a, _, rfl, .inl (SqL.of ha), _, rfl, _, rfl, _, rfl, a, _, _, _, rfl, rfl, SqL.of ha, ix_last, _, rfl, _, rfl, _, rfl, _, rfl, ?_⟩
    refine made ha fun H' p hs hv => ?_
    refine k H' p hs ?_
    rw [List.length_map] at hv
    exact hv
end
end Kv
namespace Kv
open PySem PySem.Spec PyProof.Rows L2
open PySem.W (Codec)
def rowL (u : Int) (m : Nat) (n : Nat) (z : Bool) : List Int := ((List.range n).map fun (i : Nat) => u + (i : Int) * (m : Int)).filter fun x => x != 0 || z
theorem up_row (u : Int) {m : Nat} (hm : 0 < m) (n : Nat) (z : Bool) : KM.Up (rowL u m n z) := by
 unfold rowL
 refine List.Pairwise.filter _ ?_
 rw [List.pairwise_map]
 refine List.Pairwise.imp ?_ List.pairwise_lt_range
 intro a b h
 have : (a : Int) * (m : Int) < (b : Int) * (m : Int) := Int.mul_lt_mul_of_pos_right (by omega) (by omega)
 omega
theorem rowL_snoc (u : Int) (m n : Nat) (z : Bool) : rowL u m (n + 1) z = rowL u m n z ++ (if (u + (n : Int) * (m : Int) != 0 || z) = true then [u + (n : Int) * (m : Int)] else []) := by
 unfold rowL
 rw [List.range_succ, List.map_append, List.filter_append]
 congr 1
 show List.filter _ [u + (n : Int) * (m : Int)] = _
 rw [List.filter_cons, List.filter_nil]
theorem rowL_len (u : Int) (m n : Nat) (z : Bool) : (rowL u m n z).length ≤ n := by
 unfold rowL
 refine Nat.le_trans (List.length_filter_le _ _) ?_
 rw [List.length_map, List.length_range]
 exact Nat.le_refl _
def zI (z : Bool) : Int := if z then 1 else 0
section
variable {P : Program} {w : World} {K : PySem.W.Frag} {mg : Str → Option Value} {base : Heap}
def spRow (C : Addr) : Sp := fun vs H Q _ => ∃ (u d : Int) (m : Nat) (z : Bool), vs = [.int u, .int d, .int m, .int (zI z)] ∧ 0 < m ∧ (m : Int) < 2 ^ 61 ∧ -(2 ^ 61) ≤ u ∧ u ≤ 2 ^ 61 ∧ -(2 ^ 61) ≤ d ∧ d < 2 ^ 61 ∧ (z = false → u ≠ 0 ∧ d ≠ 0) ∧
 ∀ (H' : Hp) (p : Addr), Same H H' → VAt C H' p (pyV (KM.rowF u d m z)) → Q (.ref p) H'
theorem zI_ne (z : Bool) : decide (V.int (zI z) = V.int 1) = z := by
 rw [dec_eqI]
 cases z <;> decide
theorem count_row {u d : Int} {m : Nat} {z : Bool} (hm : 0 < m) (hud : ¬ u > d) (hz : z = false → u ≠ 0 ∧ d ≠ 0) :
  ((Vadomb.count ⟨u, d, m, u % (m : Int), KM.crosses u d m && z, none⟩ : Nat) : Int) = (d - u) / (m : Int) + 1 - (if KM.crosses u d m = true ∧ z = false then 1 else 0) := by
 have hD : 0 ≤ (d - u) / (m : Int) := Int.ediv_nonneg (by omega) (by omega)
 have ec : KM.crosses u d m = true ↔ u ≤ 0 ∧ 0 ≤ d ∧ u % (m : Int) = 0 := by
  unfold KM.crosses
  simp
 show ((((d - u) / (m : Int)).toNat + 1 - (if (KM.crosses u d m && z) = false ∧ u % (m : Int) = 0 ∧ u < 0 ∧ 0 < d then 1 else 0) : Nat) : Int) = _
 by_cases hc : KM.crosses u d m = true ∧ z = false
 ·obtain ⟨h1, h2⟩ := hc
  have h3 := ec.mp h1
  have h4 := hz h2
  have c1 : (KM.crosses u d m && z) = false ∧ u % (m : Int) = 0 ∧ u < 0 ∧ 0 < d := ⟨by rw [h2, Bool.and_false], h3.2.2, by omega, by omega⟩
  have c2 : KM.crosses u d m = true ∧ z = false := ⟨h1, h2⟩
  rw [if_pos c1, if_pos c2]
  omega
 ·have c1 : ¬ ((KM.crosses u d m && z) = false ∧ u % (m : Int) = 0 ∧ u < 0 ∧ 0 < d) := by
   rintro ⟨q1, q2, q3, q4⟩
   have h1 := ec.mpr ⟨by omega, by omega, q2⟩
   rw [h1, Bool.true_and] at q1
   exact hc ⟨h1, q1⟩
  rw [if_neg c1, if_neg hc]
  omega
theorem ok_row_of {x : Fs} (D : Ds K mg x) : FnOk P w K mg base CX0 4 x.a_row_of x.f_row_of ["least", "greatest", "modulus", "zero"] (spRow x.C) := by
 have G_few_of : FnOk P w K mg base CX0 3 _ _ ["rising"] (spFewOf x.C) := ok_few_of D
 have GI : FnOk P w K mg base CX0 2 x.fI x.fdI ["self", "size", "least", "greatest", "modulus", "remainder", "zero", "numbers"] (spInit x.C) := (ok_init D.cl.ini D.cl.txt).mono (by decide)
 obtain ⟨tF, h_FEW⟩ := D.cl.txt.h_FEW
 refine D.d_row_of.fn.ok sc_row_of (fun vs H Q E h => ?_) (fun cdv A outer s H vs Q E hr h => ?_)
 ·obtain ⟨u, d, m, z, rfl, _⟩ := h
  rfl
 ·obtain ⟨u, d, m, z, rfl, hm, hmb, hu1, hu2, hd1, hd2, hz, k⟩ := h
  have hm' : (0 : Int) < (m : Int) := by omega
  refine ⟨_, (pss_cons (ps_set (i := 4) sc_row_of.nd rfl (Or.inl rfl) (pe_and (pe_cmpR op_le (pv 0) pe_int (nomark _)) (pe_and (pe_cmpR op_ge (pv 1) pe_int (nomark _)) (pe_one (pe_cmpR op_eq (pe_op op_mod (pv 0) (pv 2)) pe_int (nomark _))))))
 (pss_cons (ps_set (i := 5) sc_row_of.nd rfl (Or.inl rfl) (pe_op op_add (pe_op op_fdivB (pe_op op_sub (pv 1) (pv 0)) (pv 2)) pe_int))
 (pss_cons (ps_if (PW.pt (pw_and (pt_val (pv 4)) (pw_and1 (pt_cmpR op_ne (pv 3) pe_int (nomark _))))) (pss_one (ps_aug (i := 5) sc_row_of.nd rfl (Or.inl rfl) pe_int ip_sub)) pss_nil)
 (pss_cons (ps_if (pt_cmpR op_le (pv 5) (pe_glob (v := .int 6) rfl h_FEW ⟨_, rfl⟩) (nomark _)) (pss_one (ps_ret (pe_cD G_few_of hr D.d_few_of (pa_cons (pe_lc rfl sc_row_of.nd (pi_rangeB rfl D.cl.txt.range (pa_cons (pv 0) (pa_cons (pe_op op_add (pv 1) pe_int) (pa_cons (pv 2) pa_nil)))) (own := [("number", 6)]) (blkOk_by (by rfl)) (fun _ _ _ _ _ => pg_name (i := 6) sc_row_of.nd rfl (Or.inl rfl)) (fun _ _ _ _ _ => (pts_one (PW.pt (pw_or (pt_cmpR op_ne (pv 6) pe_int (nomark _)) (pw_or1 (pt_cmpR op_eq (pv 3) pe_int (nomark _))))))) (fun _ _ _ _ _ => (pv 6))) pa_nil)))) pss_nil)
 (pss_cons (ps_set (i := 7) sc_row_of.nd rfl (Or.inl rfl) (pe_ifExp (PW.pt (pw_and (pt_val (pv 4)) (pw_and1 (pt_cmpR op_eq (pv 3) pe_int (nomark _))))) pe_int pe_int))
 (pss_one (ps_ret (pe_make D.cl.mak GI hr rfl D.cl.txt.mgC D.cl.bd .nil pass0 (pa_cons (pv 5) (pa_cons (pv 0) (pa_cons (pv 1) (pa_cons (pv 2) (pa_cons (pe_op op_mod (pv 0) (pv 2)) (pa_cons (pv 7) (pa_cons (pe_lst pa_nil) pa_nil))))))))))))))), ?_⟩
  refine ⟨_, rfl, _, _, rfl, rfl, _, rfl, ?_⟩
  refine ifAnd (decide (d ≥ 0) && decide (u % (m : Int) = 0)) (fun e Q' k' => ?_) ?_
  ·refine ⟨_, rfl, _, _, rfl, rfl, _, rfl, ?_⟩
   refine ifAnd (decide (u % (m : Int) = 0)) (fun e Q' k' => ?_) k'
   refine ⟨_, rfl, _, rfl, _, _, rfl, rfl, hm', rfl, ?_⟩
   rw [← dec_eqI] at k'
   exact k'
  have hcr : (decide (u ≤ 0) && (decide (d ≥ 0) && decide (u % (m : Int) = 0))) = KM.crosses u d m := rfl
  rw [hcr]
  refine ⟨_, rfl, _, rfl, _, _, rfl, rfl, _, rfl, _, _, rfl, rfl, ⟨hm', by omega⟩, _, _, rfl, rfl, ?_⟩
  refine ⟨_, rfl, _, rfl, ?_⟩
  refine ifAndT (!z) (fun e Q' k' => ?_) ?_
  ·refine ⟨_, rfl, rfl, _, rfl, ?_⟩
   rw [zI_ne]
   exact k'
  have hS : ∀ σ : L2.St, σ = [some (.int u), some (.int d), some (.int m), some (.int (zI z)), some (.bl (KM.crosses u d m)), some (.int ((d - u) / (m : Int) + 1 - (if KM.crosses u d m = true ∧ z = false then 1 else 0))), none, none] → True := fun _ _ => trivial
  refine ifJoinS [some (.int u), some (.int d), some (.int m), some (.int (zI z)), some (.bl (KM.crosses u d m)), some (.int ((d - u) / (m : Int) + 1 - (if KM.crosses u d m = true ∧ z = false then 1 else 0))), none, none] H (fun e D' k' => ?_) (fun e D' k' => ?_) ?_
  ·rw [Bool.and_eq_true, Bool.not_eq_true'] at e
   rw [if_pos e] at k'
   exact ⟨_, rfl, _, _, rfl, rfl, k'⟩
  ·have ne : ¬ (KM.crosses u d m = true ∧ z = false) := fun q => by
    rw [q.1, q.2] at e
    cases e
   rw [if_neg ne, Int.sub_zero] at k'
   exact k'
  generalize hsz : (d - u) / (m : Int) + 1 - (if KM.crosses u d m = true ∧ z = false then 1 else 0) = size
  have hneg : u > d → (d - u) / (m : Int) ≤ -1 := fun h => by
   have := Int.ediv_neg_of_neg_of_pos (show d - u < 0 by omega) hm'
   omega
  refine ⟨_, rfl, _, _, rfl, rfl, _, rfl, ?_⟩
  refine ifB (fun hle => ?_) (fun hle => ?_)
  ·have eN : Builtin.Range.rangeSize u (d + 1) m = (((d - u) / (m : Int) + 1).toNat : Int) := by
    unfold Builtin.Range.rangeSize
    rw [if_pos (show (m : Int) > 0 from hm')]
    by_cases hgt : u > d
    ·rw [if_neg (by omega)]
     have := hneg hgt
     omega
    ·have hD : 0 ≤ (d - u) / (m : Int) := Int.ediv_nonneg (by omega) (by omega)
     rw [if_pos (by omega)]
     have : d + 1 - u - 1 = d - u := by omega
     rw [this]
     omega
   have hle7 : ((d - u) / (m : Int) + 1).toNat ≤ 7 := by
    have : (if KM.crosses u d m = true ∧ z = false then (1 : Int) else 0) ≤ 1 := by split <;> omega
    omega
   refine ⟨_, rfl, _, rfl, _, _, rfl, rfl, _, rfl, _, _, _, _, rfl, ⟨hm', by omega, by omega, by omega, by omega, by omega, eN⟩, fun Dd hDd => ?_⟩
   refine lc_rangeC (fun i H' => Same H H' ∧ H' Dd = some (.lst ((rowL u m i z).map V.int))) ⟨Same.new hDd, upd_same⟩ (fun i H' hi ⟨hs, hl⟩ => ?_) (fun H' ⟨hs, hl⟩ => ?_)
   ·refine ⟨rfl, ?_⟩
    have key : ∀ b : Bool, b = (u + (i : Int) * (m : Int) != 0 || z) → (if b = true then ∃ acc, H' Dd = some (.lst acc) ∧ acc.length < sizeLine ∧ (Same H (upd H' Dd (.lst (acc ++ [V.int (u + (i : Int) * (m : Int))]))) ∧ upd H' Dd (.lst (acc ++ [V.int (u + (i : Int) * (m : Int))])) Dd = some (.lst ((rowL u m (i + 1) z).map V.int)))
      else (Same H H' ∧ H' Dd = some (.lst ((rowL u m (i + 1) z).map V.int)))) := fun b hb => by
     cases b with
     | true =>
      refine iteT ⟨_, hl, ?_, fun a o e => ?_, ?_⟩
      ·rw [List.length_map]
       have := rowL_len u m i z
       exact Nat.lt_of_le_of_lt this (by rw [sizeLine_eq]; omega)
      ·rw [upd_ne (ne_of_none e hDd)]
       exact hs a o e
      ·rw [upd_same, rowL_snoc, if_pos hb.symm, List.map_append]
       rfl
     | false =>
      refine iteF ⟨hs, ?_⟩
      rw [rowL_snoc, if_neg (by rw [← hb]; exact Bool.false_ne_true), List.append_nil]
      exact hl
    refine ⟨_, rfl, rfl, _, rfl, ?_⟩
    refine ifOrT z (fun e Q' k' => ?_) ?_
    ·refine ⟨_, rfl, rfl, _, rfl, ?_⟩
     rw [zI_ne]
     exact k'
    have hb : (!decide (V.int (u + (i : Int) * (m : Int)) = V.int 0) || z) = (u + (i : Int) * (m : Int) != 0 || z) := by
     rw [dec_eqI]
     congr 1
    have kk := key _ hb
    revert kk
    generalize (!decide (V.int (u + (i : Int) * (m : Int)) = V.int 0) || z) = b
    intro kk
    cases b with
    | true =>
     rw [if_pos rfl] at kk
     exact iteT ⟨_, rfl, kk⟩
    | false =>
     rw [if_neg Bool.false_ne_true] at kk
     exact iteF kk
   ·refine ⟨Dd, _, rfl, hl, up_row u hm _ z, fun H2 p hs2 hv => ?_⟩
    refine k H2 p (hs.trans hs2) ?_
    unfold KM.rowF
    by_cases hgt : u > d
    ·rw [if_pos hgt]
     have e0 : ((d - u) / (m : Int) + 1).toNat = 0 := by
      have := hneg hgt
      omega
     rw [e0] at hv
     exact hv
    ·rw [if_neg hgt]
     dsimp only
     rw [hsz, if_pos hle]
     exact hv
  ·-- many
   have hgt : ¬ u > d := fun h => by
    have := hneg h
    have : (if KM.crosses u d m = true ∧ z = false then (1 : Int) else 0) ≥ 0 := by split <;> omega
    omega
   refine ⟨_, rfl, _, rfl, ?_⟩
   refine ifAndT z (fun e Q' k' => ?_) ?_
   ·refine ⟨_, rfl, rfl, _, rfl, ?_⟩
    rw [zI_ne]
    exact k'
   refine ifJoin (v := .int (Vadomb.bool (KM.crosses u d m && z))) (fun e Q' k' => ?_) (fun e Q' k' => ?_) ?_
   ·rw [e] at k'
    exact k'
   ·rw [e] at k'
    exact k'
   refine ⟨_, rfl, _, rfl, _, rfl, _, rfl, _, rfl, _, rfl, _, _, rfl, rfl, hm', _, rfl, Nat.zero_le _, fun q hq => ?_⟩
   refine made (l := []) upd_same fun H' p hs hv => ?_
   refine k H' p ((Same.new hq).trans hs) ?_
   unfold KM.rowF
   rw [if_neg hgt]
   dsimp only
   rw [hsz, if_neg hle]
   show VAt x.C H' p ⟨((Vadomb.count ⟨u, d, m, u % (m : Int), KM.crosses u d m && z, none⟩ : Nat) : Int), u, d, m, u % (m : Int), Vadomb.bool (KM.crosses u d m && z), []⟩
   rw [count_row hm hgt hz, hsz]
   exact hv
end
end Kv
namespace Kv
open PySem PySem.Spec PyProof.Rows L2
open PySem.W (Codec)
section
variable {P : Program} {w : World} {K : PySem.W.Frag} {mg : Str → Option Value} {base : Heap}
def spMade (C : Addr) : Sp := fun vs H Q _ => ∃ (lo hi : Int) (m : Nat) (r : Int) (z : Bool), vs = [.int lo, .int hi, .int m, .int r, .int (zI z)] ∧ (m : Int) < 2 ^ 60 ∧ -(2 ^ 60) ≤ lo ∧ lo ≤ 2 ^ 60 ∧ -(2 ^ 60) ≤ hi ∧ hi ≤ 2 ^ 60 ∧
 ∀ (H' : Hp) (p : Addr), Same H H' → VAt C H' p (pyV (Vadomb.tidy lo hi m r z)) → Q (.ref p) H'
theorem ok_made_of {x : Fs} (D : Ds K mg x) : FnOk P w K mg base CX0 5 x.a_made_of x.f_made_of ["lo", "hi", "modulus", "remainder", "zero"] (spMade x.C) := by
 have G_few_of : FnOk P w K mg base CX0 4 _ _ ["rising"] (spFewOf x.C) := (ok_few_of D).mono (by decide)
 have G_row_of : FnOk P w K mg base CX0 4 _ _ ["least", "greatest", "modulus", "zero"] (spRow x.C) := ok_row_of D
 obtain ⟨tB, h_BOUND⟩ := D.cl.txt.h_BOUND
 refine D.d_made_of.fn.ok sc_made_of (fun vs H Q E h => ?_) (fun cdv A outer s H vs Q E hr h => ?_)
 ·obtain ⟨lo, hi, m, r, z, rfl, _⟩ := h
  rfl
 ·obtain ⟨lo, hi, m, r, z, rfl, hmb, hl1, hl2, hh1, hh2, k⟩ := h
  refine ⟨_, (pss_cons (ps_set (i := 5) sc_made_of.nd rfl (Or.inl rfl) (pe_callB (call_max2 rfl) (by rfl) D.cl.txt.mgMax boot_max (pa_cons (pv 0) (pa_cons (pe_un un_neg (pe_glob (v := .int 1000000) rfl h_BOUND ⟨_, rfl⟩)) pa_nil))))
 (pss_cons (ps_set (i := 6) sc_made_of.nd rfl (Or.inl rfl) (pe_callB (call_min2 rfl) (by rfl) D.cl.txt.mgMin boot_min (pa_cons (pv 1) (pa_cons (pe_glob (v := .int 1000000) rfl h_BOUND ⟨_, rfl⟩) pa_nil))))
 (pss_cons (ps_if (pt_cmpR op_eq (pv 2) pe_int (nomark _)) (pss_one (ps_ret (pe_cD G_few_of hr D.d_few_of (pa_cons (pe_ifExp (PW.pt (pw_and (pt_chain op_le op_le (pv 5) (pv 3) (pv 6)) (pw_and1 (PW.pt (pw_or (pt_cmpR op_ne (pv 3) pe_int (nomark _)) (pw_or1 (pt_cmpR op_eq (pv 4) pe_int (nomark _)))))))) (pe_lst (pa_cons (pv 3) pa_nil)) (pe_lst pa_nil)) pa_nil)))) pss_nil)
 (pss_cons (ps_set (i := 7) sc_made_of.nd rfl (Or.inl rfl) (pe_op op_add (pv 5) (pe_op op_mod (pe_op op_sub (pv 3) (pv 5)) (pv 2))))
 (pss_cons (ps_set (i := 8) sc_made_of.nd rfl (Or.inl rfl) (pe_op op_sub (pv 6) (pe_op op_mod (pe_op op_sub (pv 6) (pv 3)) (pv 2))))
 (pss_cons (ps_if (PW.pt (pw_and (pt_cmpR op_eq (pv 7) pe_int (nomark _)) (pw_and1 (pt_cmpR op_ne (pv 4) pe_int (nomark _))))) (pss_one (ps_set (i := 7) sc_made_of.nd rfl (Or.inl rfl) (pv 2))) pss_nil)
 (pss_cons (ps_if (PW.pt (pw_and (pt_cmpR op_eq (pv 8) pe_int (nomark _)) (pw_and1 (pt_cmpR op_ne (pv 4) pe_int (nomark _))))) (pss_one (ps_set (i := 8) sc_made_of.nd rfl (Or.inl rfl) (pe_un un_neg (pv 2)))) pss_nil)
 (pss_one (ps_ret (pe_cD G_row_of hr D.d_row_of (pa_cons (pv 7) (pa_cons (pv 8) (pa_cons (pv 2) (pa_cons (pv 4) pa_nil)))))))))))))), ?_⟩
  have eB : Vadomb.BOUND = 1000000 := rfl
  have elo : (if (-1000000 : Int) > lo then (-1000000 : Int) else lo) = max lo (-Vadomb.BOUND) := by rw [eB]; split <;> omega
  have ehi : (if (1000000 : Int) < hi then (1000000 : Int) else hi) = min hi Vadomb.BOUND := by rw [eB]; split <;> omega
  have cont : ∀ a b : Int, a = max lo (-Vadomb.BOUND) → b = min hi Vadomb.BOUND → -(2 ^ 60) ≤ a → a ≤ 2 ^ 60 → -(2 ^ 60) ≤ b → b ≤ 2 ^ 60 → True := fun _ _ _ _ _ _ _ _ => trivial
  refine ⟨_, rfl, _, rfl, _, _, rfl, ?_⟩
  refine ⟨_, rfl, _, _, rfl, ?_⟩
  show tSeq _ _ _ [some (.int lo), some (.int hi), some (.int m), some (.int r), some (.int (zI z)), some (.int (if (-1000000 : Int) > lo then (-1000000 : Int) else lo)), some (.int (if (1000000 : Int) < hi then (1000000 : Int) else hi)), none, none] H
  rw [elo, ehi]
  have ba1 : -(2 ^ 60) ≤ max lo (-Vadomb.BOUND) := by rw [eB]; omega
  have ba2 : max lo (-Vadomb.BOUND) ≤ 2 ^ 60 := by rw [eB]; omega
  have bb1 : -(2 ^ 60) ≤ min hi Vadomb.BOUND := by rw [eB]; omega
  have bb2 : min hi Vadomb.BOUND ≤ 2 ^ 60 := by rw [eB]; omega
  have tz : ∀ (h0 : m = 0), Vadomb.tidy lo hi m r z = if max lo (-Vadomb.BOUND) ≤ r ∧ r ≤ min hi Vadomb.BOUND ∧ (z = true ∨ r ≠ 0) then Vadomb.ofFew [r] else none := fun h0 => by
   unfold Vadomb.tidy
   rw [KM.clamp_lo, KM.clamp_hi]
   dsimp only
   rw [if_pos h0]
  have tp : ∀ (h0 : 0 < m), Vadomb.tidy lo hi m r z = KM.rowF (KM.lowEnd (max lo (-Vadomb.BOUND)) m r z) (KM.highEnd (min hi Vadomb.BOUND) m r z) m z := fun h0 => KM.tidy_row lo hi h0 r z
  generalize max lo (-Vadomb.BOUND) = a at *
  generalize min hi Vadomb.BOUND = b at *
  refine ⟨_, rfl, rfl, _, rfl, ?_⟩
  refine ifEq (fun h0 => ?_) (fun h0 => ?_)
  ·have hm0 : m = 0 := by omega
   refine ⟨_, rfl, _, rfl, _, _, rfl, rfl, _, rfl, ?_⟩
   have fin : ∀ l : List Int, (l = if a ≤ r ∧ r ≤ b ∧ (z = true ∨ r ≠ 0) then [r] else []) → ∀ (H' : Hp) (p : Addr), Same H H' → VAt x.C H' p (pyV (Vadomb.ofFew l)) → Q (.ref p) H' := fun l hl H' p hs hv => by
    refine k H' p hs ?_
    rw [tz hm0]
    by_cases hc : a ≤ r ∧ r ≤ b ∧ (z = true ∨ r ≠ 0)
    ·rw [if_pos hc] at hl ⊢
     rw [hl] at hv
     exact hv
    ·rw [if_neg hc] at hl ⊢
     rw [hl] at hv
     exact hv
   have test : ∀ (Q' : Bool → Hp → Prop), Q' (decide (a ≤ r ∧ r ≤ b ∧ (z = true ∨ r ≠ 0))) H → (if decide (a ≤ r) = true then tVar 6 [some (.int lo), some (.int hi), some (.int m), some (.int r), some (.int (zI z)), some (.int a), some (.int b), none, none] H fun w' H4 => (rI0 fun i j => .bl (decide (i ≤ j))) (.int r) w' H4 fun x' H' => ∃ k', x' = .bl k' ∧ (if k' = true then tOr (tTest (tOp rNe (tVar 3) (tC (.int 0)))) (tTest (tOp rEq (tVar 4) (tC (.int 1)))) [some (.int lo), some (.int hi), some (.int m), some (.int r), some (.int (zI z)), some (.int a), some (.int b), none, none] H' Q' else Q' false H')
     else ∃ k', V.bl false = .bl k' ∧ (if k' = true then tOr (tTest (tOp rNe (tVar 3) (tC (.int 0)))) (tTest (tOp rEq (tVar 4) (tC (.int 1)))) [some (.int lo), some (.int hi), some (.int m), some (.int r), some (.int (zI z)), some (.int a), some (.int b), none, none] H Q' else Q' false H)) := fun Q' k' => by
    refine ifB (fun h1 => ?_) (fun h1 => ⟨_, rfl, iteF ?_⟩)
    ·refine ⟨_, rfl, _, _, rfl, rfl, _, rfl, ?_⟩
     refine ifB (fun h2 => ?_) (fun h2 => ?_)
     ·refine ⟨_, rfl, rfl, _, rfl, ?_⟩
      refine ifOrT z (fun e Q2 k2 => ⟨_, rfl, rfl, _, rfl, by rw [zI_ne]; exact k2⟩) ?_
      have e : (!decide (V.int r = V.int 0) || z) = decide (a ≤ r ∧ r ≤ b ∧ (z = true ∨ r ≠ 0)) := by
       rw [dec_eqI]
       by_cases hr0 : r = 0
       ·rw [decide_eq_true hr0]
        cases z with
        | true => rw [decide_eq_true ⟨h1, h2, .inl rfl⟩]; rfl
        | false => rw [decide_eq_false (fun q => q.2.2.elim (fun z => by cases z) (fun z => z hr0))]; rfl
       ·rw [decide_eq_false hr0, decide_eq_true ⟨h1, h2, .inr hr0⟩]; rfl
      rw [e]
      exact k'
     ·rw [decide_eq_false (fun q => h2 q.2.1)] at k'
      exact k'
    ·rw [decide_eq_false (fun q => h1 q.1)] at k'
     exact k'
   refine test _ ?_
   refine ifB (fun hc => ?_) (fun hc => ?_)
   ·refine ⟨_, rfl, (by show 1 ≤ sizeLine; decide), fun q hq => ?_⟩
    refine ⟨q, [r], rfl, upd_same, List.pairwise_singleton _ _, fun H' p hs hv => ?_⟩
    exact fin [r] (by rw [if_pos hc]) H' p ((Same.new hq).trans hs) hv
   ·refine ⟨Nat.zero_le _, fun q hq => ?_⟩
    refine ⟨q, [], rfl, upd_same, List.Pairwise.nil, fun H' p hs hv => ?_⟩
    exact fin [] (by rw [if_neg hc]) H' p ((Same.new hq).trans hs) hv
  have hm : 0 < m := by omega
  have hm' : (0 : Int) < (m : Int) := by omega
  rw [tp hm] at k
  have u0 : 0 ≤ (r - a) % (m : Int) := Int.emod_nonneg _ (by omega)
  have u1 : (r - a) % (m : Int) < (m : Int) := Int.emod_lt_of_pos _ hm'
  have d0 : 0 ≤ (b - r) % (m : Int) := Int.emod_nonneg _ (by omega)
  have d1 : (b - r) % (m : Int) < (m : Int) := Int.emod_lt_of_pos _ hm'
  refine ⟨_, rfl, _, rfl, _, rfl, _, _, rfl, rfl, _, rfl, _, _, rfl, rfl, hm', _, _, rfl, rfl, ?_⟩
  refine ⟨_, rfl, _, rfl, _, rfl, _, _, rfl, rfl, _, rfl, _, _, rfl, rfl, hm', _, _, rfl, rfl, ?_⟩
  refine ⟨_, rfl, rfl, _, rfl, ?_⟩
  refine ifAndT (!z) (fun e Q' k' => ⟨_, rfl, rfl, _, rfl, by rw [zI_ne]; exact k'⟩) ?_
  refine ifJoinS [some (.int lo), some (.int hi), some (.int m), some (.int r), some (.int (zI z)), some (.int a), some (.int b), some (.int (KM.lowEnd a m r z)), some (.int (b - (b - r) % (m : Int)))] H (fun e D' k' => ?_) (fun e D' k' => ?_) ?_
  ·rw [Bool.and_eq_true, Bool.not_eq_true', dec_eqI, decide_eq_true_eq] at e
   unfold KM.lowEnd at k'
   rw [if_pos e] at k'
   exact ⟨_, rfl, k'⟩
  ·have ne : ¬ (a + (r - a) % (m : Int) = 0 ∧ z = false) := fun q => by
    rw [dec_eqI, decide_eq_true q.1, q.2] at e
    cases e
   unfold KM.lowEnd at k'
   rw [if_neg ne] at k'
   exact k'
  refine ⟨_, rfl, rfl, _, rfl, ?_⟩
  refine ifAndT (!z) (fun e Q' k' => ⟨_, rfl, rfl, _, rfl, by rw [zI_ne]; exact k'⟩) ?_
  refine ifJoinS [some (.int lo), some (.int hi), some (.int m), some (.int r), some (.int (zI z)), some (.int a), some (.int b), some (.int (KM.lowEnd a m r z)), some (.int (KM.highEnd b m r z))] H (fun e D' k' => ?_) (fun e D' k' => ?_) ?_
  ·rw [Bool.and_eq_true, Bool.not_eq_true', dec_eqI, decide_eq_true_eq] at e
   unfold KM.highEnd at k'
   rw [if_pos e] at k'
   exact ⟨_, rfl, _, rfl, k'⟩
  ·have ne : ¬ (b - (b - r) % (m : Int) = 0 ∧ z = false) := fun q => by
    rw [dec_eqI, decide_eq_true q.1, q.2] at e
    cases e
   unfold KM.highEnd at k'
   rw [if_neg ne] at k'
   exact k'
  have uB : -(2 ^ 61) ≤ KM.lowEnd a m r z ∧ KM.lowEnd a m r z ≤ 2 ^ 61 := by
   unfold KM.lowEnd
   split <;> omega
  have dB : -(2 ^ 61) ≤ KM.highEnd b m r z ∧ KM.highEnd b m r z < 2 ^ 61 := by
   unfold KM.highEnd
   split <;> omega
  have hz : z = false → KM.lowEnd a m r z ≠ 0 ∧ KM.highEnd b m r z ≠ 0 := fun hz => by
   unfold KM.lowEnd KM.highEnd
   constructor
   ·split
    ·omega
    ·rename_i h
     exact fun q => h ⟨q, hz⟩
   ·split
    ·omega
    ·rename_i h
     exact fun q => h ⟨q, hz⟩
  refine ⟨_, rfl, _, rfl, _, rfl, _, rfl, ?_⟩
  exact ⟨_, _, m, z, rfl, hm, by omega, uB.1, uB.2, dB.1, dB.2, hz, k⟩
def spHull (C : Addr) : Sp := fun vs H Q _ => ∃ (a : Addr) (l : List Int), vs = [.ref a] ∧ H a = some (.lst (l.map V.int)) ∧ l.length < 4000 ∧ (∀ z ∈ l, Vadomb.inBound z = true) ∧
 ∀ (H' : Hp) (p : Addr), Same H H' → VAt C H' p (pyV (Vadomb.ofList l)) → Q (.ref p) H'
theorem tidy_rem (lo hi : Int) {m : Nat} (hm : 0 < m) (r : Int) (z : Bool) : Vadomb.tidy lo hi m (Vadomb.remBy m r) z = Vadomb.tidy lo hi m r z := by
 have e : Vadomb.remBy m r = r % (m : Int) := by unfold Vadomb.remBy; rw [if_neg (by omega)]
 rw [e, KM.tidy_row _ _ hm, KM.tidy_row _ _ hm]
 have h1 : ∀ a : Int, (r % (m : Int) - a) % (m : Int) = (r - a) % (m : Int) := fun a => by rw [Int.sub_emod, Int.emod_emod, ← Int.sub_emod]
 have h2 : ∀ b : Int, (b - r % (m : Int)) % (m : Int) = (b - r) % (m : Int) := fun b => by rw [Int.sub_emod, Int.emod_emod, ← Int.sub_emod]
 unfold KM.lowEnd KM.highEnd
 rw [h1, h2]
theorem gcd_le {a : Int} {l : List Int} {b : Int} (h : b ∈ l) (hab : a < b) : ((Vadomb.gcdOf (a :: l) : Nat) : Int) ≤ b - a := by
 have h1 := KM.gcdOf_dvd (a := a) (l := l) (List.mem_cons_of_mem _ h)
 exact Int.le_of_dvd (by omega) h1
theorem ok_hull {x : Fs} (D : Ds K mg x) : FnOk P w K mg base CX0 6 x.a_hull x.f_hull ["numbers"] (spHull x.C) := by
 have G_few_of : FnOk P w K mg base CX0 5 _ _ ["rising"] (spFewOf x.C) := (ok_few_of D).mono (by decide)
 have G_made_of : FnOk P w K mg base CX0 5 _ _ ["lo", "hi", "modulus", "remainder", "zero"] (spMade x.C) := ok_made_of D
 have G_common_distance : FnOk P w K mg base CX0 5 _ _ ["rising"] spDist := (ok_dist D.d_common_distance D.d_greatest_divisor).mono (by decide)
 obtain ⟨tF, h_FEW⟩ := D.cl.txt.h_FEW
 refine D.d_hull.fn.ok sc_hull (fun vs H Q E h => ?_) (fun cdv A outer s H vs Q E hr h => ?_)
 ·obtain ⟨a, l, rfl, _⟩ := h
  rfl
 ·obtain ⟨a, l, rfl, ha, hlen, hin, k⟩ := h
  refine ⟨_, (pss_cons (ps_set (i := 1) sc_hull.nd rfl (Or.inl rfl) (pe_callB (cr_sortedSet2 rfl) (by rfl) D.cl.txt.sorted boot_sorted (pa_cons (pe_callTy (cr_setOf2 rfl) (by rfl) D.cl.txt.set boot_set (pa_cons (pv 0) pa_nil)) pa_nil)))
 (pss_cons (ps_if (pt_cmpR op_le (pe_callB call_len_seq (by rfl) D.cl.txt.len PySem.boot_len (pa_cons (pv 1) pa_nil)) (pe_glob (v := .int 6) rfl h_FEW ⟨_, rfl⟩) (nomark _)) (pss_one (ps_ret (pe_cD G_few_of hr D.d_few_of (pa_cons (pv 1) pa_nil)))) pss_nil)
 (pss_one (ps_ret (pe_cD G_made_of hr D.d_made_of (pa_cons (pe_ix ix_list (pv 1) pe_int (fun _ _ => rfl)) (pa_cons (pe_ix ix_list (pv 1) (pe_un un_neg pe_int) (fun _ _ => rfl)) (pa_cons (pe_cD G_common_distance hr D.d_common_distance (pa_cons (pv 1) pa_nil)) (pa_cons (pe_ix ix_list (pv 1) pe_int (fun _ _ => rfl)) (pa_cons (pe_ifExp (pt_cmpR op_in_seq pe_int (pv 1) (by with_unfolding_all rfl)) pe_int pe_int) pa_nil)))))))))), ?_⟩
  refine ⟨_, rfl, a, l, rfl, SqL.of ha, by omega, fun ks q0 H0 hks hs0 hq0 => ?_⟩
  refine ⟨q0, ks, rfl, hq0, fun ns q HH hns hup hs1 hqq => ?_⟩
  have s1 : Same H HH := hs0.trans hs1
  have hmem : ∀ z, z ∈ ns ↔ z ∈ l := fun z => (hns z).trans (hks z)
  have er : Vadomb.rising (l.filter Vadomb.inBound) = ns := by
   rw [KM.filter_in hin]
   exact KM.rising_of_up hup hmem
  have eo : Vadomb.ofList l = if ns.length ≤ 6 then Vadomb.ofFew ns else Vadomb.tidy (ns.headD 0) (ns.getLastD 0) (Vadomb.gcdOf ns) (Vadomb.remBy (Vadomb.gcdOf ns) (ns.headD 0)) (ns.contains 0) := by
   unfold Vadomb.ofList
   rw [er]
   rfl
  rw [eo] at k
  refine ⟨_, rfl, q, _, rfl, .inl (SqL.of hqq), _, _, rfl, rfl, _, rfl, ?_⟩
  rw [List.length_map]
  refine ifB (fun hle => ?_) (fun hle => ?_)
  ·rw [if_pos (by omega)] at k
   exact ⟨_, rfl, q, ns, rfl, hqq, hup, fun H' p hs hv => k H' p (s1.trans hs) hv⟩
  ·rw [if_neg (by omega)] at k
   cases ns with
   | nil => exact absurd (by show ((0 : Nat) : Int) ≤ 6; omega) hle
   | cons b r =>
    obtain ⟨hb1, hb2⟩ := List.pairwise_cons.mp hup
    obtain ⟨c, hc⟩ : ∃ c, c ∈ r := by
     cases r with
     | nil => exact absurd (by show ((1 : Nat) : Int) ≤ 6; omega) hle
     | cons c r => exact ⟨c, List.mem_cons_self ..⟩
    have hbc := hb1 c hc
    have gp : 0 < Vadomb.gcdOf (b :: r) := KM.gcdOf_pos hc (by omega)
    have gl := gcd_le hc hbc
    have inb : ∀ z, z ∈ b :: r → -1000000 ≤ z ∧ z ≤ 1000000 := fun z hz => by
     have := hin z ((hmem z).mp hz)
     have e : Vadomb.inBound z = (decide (-1000000 ≤ z) && decide (z ≤ 1000000)) := rfl
     rw [e, Bool.and_eq_true, decide_eq_true_eq, decide_eq_true_eq] at this
     exact this
    have ib := inb b (List.mem_cons_self ..)
    have ic := inb c (List.mem_cons_of_mem _ hc)
    have il : -1000000 ≤ (b :: r).getLastD b ∧ (b :: r).getLastD b ≤ 1000000 := by
     refine inb _ ?_
     have e2 : (b :: r).getLastD b = (b :: r).getLast (by simp) := by simp [List.getLastD_eq_getLast?, List.getLast?_eq_getLast]
     rw [e2]
     exact List.getLast_mem _
    refine ⟨_, rfl, q, _, _, _, rfl, rfl, SqL.of hqq, ix_first, ?_⟩
    refine ⟨_, rfl, _, rfl, q, _, _, _, rfl, rfl, SqL.of hqq, ix_last, ?_⟩
    refine ⟨_, rfl, q, _, rfl, hqq, hup, ?_⟩
    refine ⟨_, rfl, q, _, _, _, rfl, rfl, SqL.of hqq, ix_first, ?_⟩
    refine ⟨_, rfl, q, _, rfl, .inl (SqL.of hqq), rfl, flat_ints _, _, rfl, ?_⟩
    refine ifJoin (v := .int (zI ((b :: r).contains 0))) (fun e Q' k' => ?_) (fun e Q' k' => ?_) ?_
    ·have e' : inV (.int 0) ((b :: r).map V.int) = true := e
     rw [inV_ints] at e'
     rw [e'] at k'
     exact k'
    ·have e' : inV (.int 0) ((b :: r).map V.int) = false := e
     rw [inV_ints] at e'
     rw [e'] at k'
     exact k'
    refine ⟨_, _, _, _, _, rfl, by omega, by omega, by omega, by omega, by omega, fun H' p hs hv => k H' p (s1.trans hs) ?_⟩
    rw [tidy_rem _ _ gp]
    exact hv
end
end Kv
namespace Kv
open PySem PySem.Spec PyProof.Rows L2
open PySem.W (Codec)
def FAt (C : Addr) (H : Hp) (p : Addr) (f : Vadomb.Fact) : Prop := VAt C H p (pyV f) ∧ KM.Wf f
theorem FAt.mono {C : Addr} {H H' : Hp} {p : Addr} {f : Vadomb.Fact} (h : FAt C H p f) (s : Same H H') : FAt C H' p f := ⟨h.1.mono s, h.2⟩
theorem size_few {v : Vadomb.Value} {l : List Int} (h : KM.Few v l) : (pyV (some v)).size = l.length := by
 show ((Vadomb.count v : Nat) : Int) = _
 unfold Vadomb.count
 rw [h.few]
theorem few_ne {v : Vadomb.Value} {l : List Int} (h : KM.Few v l) : l ≠ [] := fun e => by
 have := h.eq
 rw [e] at this
 cases this
theorem size_pos {v : Vadomb.Value} (h : KM.Wf (some v)) : 0 < (pyV (some v)).size := by
 rcases KM.wf_cases h with ⟨l, hl⟩ | hm
 ·rw [size_few hl]
  cases l with
  | nil => exact absurd rfl (few_ne hl)
  | cons a r => exact Int.natCast_pos.mpr (Nat.succ_pos _)
 ·have := hm.cnt
  show 0 < ((Vadomb.count v : Nat) : Int)
  omega
theorem nums_few {v : Vadomb.Value} {l : List Int} (h : KM.Few v l) : (pyV (some v)).nums = l := by
 show v.few.getD [] = l
 rw [h.few]
 rfl
theorem nums_many {v : Vadomb.Value} (h : KM.Many v) : (pyV (some v)).nums = [] := by
 show v.few.getD [] = []
 rw [h.nf]
 rfl
theorem size_many {v : Vadomb.Value} (h : KM.Many v) : ¬ (pyV (some v)).size ≤ 6 := by
 have := h.cnt
 show ¬ ((Vadomb.count v : Nat) : Int) ≤ 6
 omega
theorem size_few6 {v : Vadomb.Value} {l : List Int} (h : KM.Few v l) : (pyV (some v)).size ≤ 6 := by
 rw [size_few h]
 have := h.len
 omega
theorem fact_cases (f : Vadomb.Fact) (h : KM.Wf f) : (f = none) ∨ (∃ v l, f = some v ∧ KM.Few v l) ∨ ∃ v, f = some v ∧ KM.Many v := by
 cases f with
 | none => exact .inl rfl
 | some v =>
  rcases KM.wf_cases h with ⟨l, hl⟩ | hm
  ·exact .inr (.inl ⟨v, l, rfl, hl⟩)
  ·exact .inr (.inr ⟨v, rfl, hm⟩)
theorem few_or (f : Vadomb.Fact) (h : KM.Wf f) : ((pyV f).size ≤ 6 ∧ (∀ n, Vadomb.hasIn f n = (pyV f).nums.contains n) ∧ KM.Up (pyV f).nums ∧ KM.InB (pyV f).nums ∧ (pyV f).nums.length ≤ 6 ∧ f = Vadomb.ofFew (pyV f).nums) ∨ ∃ v, f = some v ∧ KM.Many v := by
 rcases fact_cases f h with rfl | ⟨v, l, rfl, hl⟩ | ⟨v, rfl, hm⟩
 ·exact .inl ⟨(by show (0 : Int) ≤ 6; omega), fun n => rfl, List.Pairwise.nil, (fun z hz => (by cases hz)), (by show 0 ≤ 6; omega), rfl⟩
 ·refine .inl ⟨size_few6 hl, fun n => ?_, ?_, ?_, ?_, ?_⟩
  ·rw [nums_few hl]
   show Vadomb.has v n = _
   unfold Vadomb.has
   rw [hl.few]
  ·rw [nums_few hl]; exact hl.up
  ·rw [nums_few hl]; exact hl.inb
  ·rw [nums_few hl]; exact hl.len
  ·rw [nums_few hl]; exact hl.eq.symm
 ·exact .inr ⟨v, rfl, hm⟩
section
variable {P : Program} {w : World} {K : PySem.W.Frag} {mg : Str → Option Value} {base : Heap}
def spTold (C : Addr) : Sp := fun vs H Q _ => ∃ (p : Addr) (f : Vadomb.Fact), vs = [.ref p] ∧ FAt C H p f ∧ ∀ (H' : Hp) (q : Addr), Same H H' → H q = none → H' q = some (.lst ((Vadomb.factTold f).map V.int)) → Q (.ref q) H'
theorem ok_told {x : Fs} (D : Ds K mg x) : FnOk P w K mg base CX0 1 x.a_told x.f_told ["value"] (spTold x.C) := by
 refine D.d_told.fn.ok sc_told (fun vs H Q E h => ?_) (fun cdv A outer s H vs Q E hr h => ?_)
 ·obtain ⟨p, f, rfl, _⟩ := h
  rfl
 ·obtain ⟨p, f, rfl, ⟨⟨dx, q, h1, h2⟩, hwf⟩, k⟩ := h
  refine ⟨_, (pss_cons (ps_if (pt_cmpR op_eq (pe_fld (pv 0) rfl) pe_int (nomark _)) (pss_one (ps_ret (pe_lst (pa_cons pe_int pa_nil)))) pss_nil)
 (pss_cons (ps_set (i := 1) sc_told.nd rfl (Or.inl rfl) (pe_lst (pa_cons pe_int (pa_cons (pe_fld (pv 0) rfl) (pa_cons (pe_fld (pv 0) rfl) (pa_cons (pe_fld (pv 0) rfl) (pa_cons (pe_fld (pv 0) rfl) (pa_cons (pe_fld (pv 0) rfl) (pa_cons (pe_callB call_len_seq (by rfl) D.cl.txt.len PySem.boot_len (pa_cons (pe_fld (pv 0) rfl) pa_nil)) pa_nil)))))))))
 (pss_one (ps_ret (pe_op op_cat (pv 1) (pe_fld (pv 0) rfl)))))), ?_⟩
  refine ⟨_, rfl, p, x.C, dx, _, _, rfl, h1, D.cl.txt.cl, D.cl.txt.nS, fl_size _ q, rfl, _, rfl, ?_⟩
  refine ifEq (fun e => ?_) (fun e => ?_)
  ·cases f with
   | none =>
    refine ⟨by show 1 ≤ sizeLine; decide, fun l hl => ?_⟩
    exact k _ l (Same.new hl) hl upd_same
   | some v => exact absurd e (by have := size_pos hwf; omega)
  ·cases f with
   | none => exact absurd rfl e
   | some v =>
    refine ⟨_, rfl, p, x.C, dx, _, _, rfl, h1, D.cl.txt.cl, D.cl.txt.nL, fl_least _ q, _, rfl, p, x.C, dx, _, _, rfl, h1, D.cl.txt.cl, D.cl.txt.nG, fl_greatest _ q, _, rfl, p, x.C, dx, _, _, rfl, h1, D.cl.txt.cl, D.cl.txt.nM, fl_modulus _ q, _, rfl, p, x.C, dx, _, _, rfl, h1, D.cl.txt.cl, D.cl.txt.nR, fl_remainder _ q, _, rfl, p, x.C, dx, _, _, rfl, h1, D.cl.txt.cl, D.cl.txt.nZ, fl_zero _ q, _, rfl, p, x.C, dx, _, _, rfl, h1, D.cl.txt.cl, D.cl.txt.nN, fl_numbers _ q, q, _, rfl, .inl (SqL.of h2), by show 7 ≤ sizeLine; decide, fun l hl => ?_⟩
    have hlq : q ≠ l := ne_of_none h2 hl
    have hlp : p ≠ l := ne_of_none h1 hl
    have hn6 : (pyV (some v)).nums.length ≤ 6 := by
     rcases KM.wf_cases hwf with ⟨l', hl'⟩ | hm
     ·rw [nums_few hl']; exact hl'.len
     ·rw [nums_many hm]; show 0 ≤ 6; omega
    refine ⟨_, rfl, _, rfl, p, x.C, dx, _, _, rfl, (by rw [upd_ne hlp]; exact h1), D.cl.txt.cl, D.cl.txt.nN, fl_numbers _ q, l, q, _, _, rfl, rfl, upd_same, (by rw [upd_ne hlq]; exact h2), ?_, fun r hr' => ?_⟩
    ·rw [List.length_map, sizeLine_eq]
     show 7 + _ ≤ _
     omega
    ·have hrl : r ≠ l := fun e => by rw [e, upd_same] at hr'; cases hr'
     have hrn : H r = none := by rw [upd_ne hrl] at hr'; exact hr'
     refine k _ r ((Same.new hl).trans (Same.new hr')) hrn ?_
     rw [upd_same]
     congr 2
     rcases KM.wf_cases hwf with ⟨l', hl'⟩ | hm
     ·rw [nums_few hl']
      show _ = List.map V.int ([1, v.lo, v.hi, (v.mod : Int), v.rem, Vadomb.bool v.zero] ++ (match v.few with | none => [0] | some l => Vadomb.listed l))
      rw [hl'.few, List.length_map]
      rfl
     ·rw [nums_many hm]
      show _ = List.map V.int ([1, v.lo, v.hi, (v.mod : Int), v.rem, Vadomb.bool v.zero] ++ (match v.few with | none => [0] | some l => Vadomb.listed l))
      rw [hm.nf]
      rfl
def spHas (C : Addr) : Sp := fun vs H Q _ => ∃ (p : Addr) (f : Vadomb.Fact) (n : Int), vs = [.ref p, .int n] ∧ FAt C H p f ∧ Q (.bl (Vadomb.hasIn f n)) H
theorem has_many {v : Vadomb.Value} (h : KM.Many v) (n : Int) : Vadomb.has v n = (decide (v.lo ≤ n) && (decide (n ≤ v.hi) && ((n - v.rem) % (v.mod : Int) == 0 && (v.zero || n != 0)))) := by
 unfold Vadomb.has
 rw [h.nf]
theorem rem_iff {n r m : Int} (h0 : 0 ≤ r) (h1 : r < m) : (n - r) % m = 0 ↔ n % m = r := by
 constructor
 ·intro h
  have : n = r + m * ((n - r) / m) := by
   have := Int.emod_add_mul_ediv (n - r) m
   omega
  rw [this, Int.add_mul_emod_self_left]
  exact Int.emod_eq_of_lt h0 h1
 ·intro h
  rw [Int.sub_emod, h, Int.emod_eq_of_lt h0 h1, Int.sub_self, Int.zero_emod]
theorem ok_has {x : Fs} (D : Ds K mg x) : FnOk P w K mg base CX0 2 x.a_has x.f_has ["value", "number"] (spHas x.C) := by
 have G_is_few : FnOk P w K mg base CX0 1 _ _ ["value"] (spIsFew x.C) := ok_isFew D.d_is_few D.cl.txt
 refine D.d_has.fn.ok sc_has (fun vs H Q E h => ?_) (fun cdv A outer s H vs Q E hr h => ?_)
 ·obtain ⟨p, f, n, rfl, _⟩ := h
  rfl
 ·obtain ⟨p, f, n, rfl, ⟨hv, hwf⟩, k⟩ := h
  obtain ⟨dx, q, h1, h2⟩ := id hv
  refine ⟨_, (pss_cons (ps_if (pt_val (pe_cD G_is_few hr D.d_is_few (pa_cons (pv 0) pa_nil))) (pss_one (ps_ret (pe_cmpR op_in_seq (pv 1) (pe_fld (pv 0) rfl) (by with_unfolding_all rfl)))) pss_nil)
 (pss_cons (ps_if (pt_cmpR op_eq (pv 1) pe_int (nomark _)) (pss_one (ps_ret (pe_cmpR op_eq (pe_fld (pv 0) rfl) pe_int (nomark _)))) pss_nil)
 (pss_one (ps_ret (pe_and (pe_chain op_le op_le (pe_fld (pv 0) rfl) (pv 1) (pe_fld (pv 0) rfl)) (pe_one (pe_cmpR op_eq (pe_op op_mod (pv 1) (pe_fld (pv 0) rfl)) (pe_fld (pv 0) rfl) (nomark _)))))))), ?_⟩
  refine ⟨_, rfl, p, _, rfl, hv, _, rfl, ?_⟩
  rcases few_or f hwf with ⟨hs, hh, _, _, _, _⟩ | ⟨v, rfl, hm⟩
  ·rw [decide_eq_true hs]
   refine iteT ⟨_, rfl, _, rfl, p, x.C, dx, _, _, rfl, h1, D.cl.txt.cl, D.cl.txt.nN, fl_numbers _ q, q, _, rfl, .inl (SqL.of h2), rfl, flat_ints _, ?_⟩
   rw [hh n, ← inV_ints] at k
   exact k
  ·rw [decide_eq_false (size_many hm)]
   refine iteF ?_
   have hr0 := hm.rem0
   have k' : Q (.bl (Vadomb.has v n)) H := k
   rw [has_many hm] at k'
   refine ⟨_, rfl, rfl, _, rfl, ?_⟩
   refine ifEq (fun e => ?_) (fun e => ?_)
   ·subst e
    refine ⟨_, rfl, p, x.C, dx, _, _, rfl, h1, D.cl.txt.cl, D.cl.txt.nZ, fl_zero _ q, rfl, ?_⟩
    have e1 : decide (V.int (Vadomb.bool v.zero) = V.int 1) = v.zero := by
     rw [dec_eqI]
     cases v.zero <;> decide
    show Q (.bl (decide (V.int (Vadomb.bool v.zero) = V.int 1))) H
    rw [e1]
    cases hz : v.zero with
    | true =>
     obtain ⟨a1, a2, a3⟩ := hm.z1 hz
     rw [hz, a1, decide_eq_true a2, decide_eq_true a3] at k'
     simpa using k'
    | false =>
     rw [hz] at k'
     simpa using k'
   ·refine ⟨_, rfl, p, x.C, dx, _, _, rfl, h1, D.cl.txt.cl, D.cl.txt.nL, fl_least _ q, _, rfl, _, _, rfl, rfl, _, rfl, ?_⟩
    have hm' : (0 : Int) < (v.mod : Int) := by have := hm.m0; omega
    have en : (v.zero || n != 0) = true := by
     have : (n != 0) = true := by simpa using e
     rw [this, Bool.or_true]
    have er : ((n - v.rem) % (v.mod : Int) == 0) = decide (n % (v.mod : Int) = v.rem) := by
     by_cases hq : n % (v.mod : Int) = v.rem
     ·rw [decide_eq_true hq, (rem_iff hr0.1 hr0.2).mpr hq]
      rfl
     ·rw [decide_eq_false hq]
      exact beq_false_of_ne fun z => hq ((rem_iff hr0.1 hr0.2).mp z)
    rw [en, Bool.and_true, er] at k'
    refine ifB (c := v.lo ≤ n) (fun e1 => ?_) (fun e1 => ⟨_, rfl, iteF ?_⟩)
    ·rw [decide_eq_true e1, Bool.true_and] at k'
     refine ⟨_, rfl, p, x.C, dx, _, _, rfl, h1, D.cl.txt.cl, D.cl.txt.nG, fl_greatest _ q, _, _, rfl, rfl, _, rfl, ?_⟩
     refine ifAnd (decide (n % (v.mod : Int) = v.rem)) (fun e2 Q' k2 => ?_) k'
     refine ⟨_, rfl, _, rfl, p, x.C, dx, _, _, rfl, h1, D.cl.txt.cl, D.cl.txt.nM, fl_modulus _ q, _, _, rfl, rfl, hm', _, rfl, p, x.C, dx, _, _, rfl, h1, D.cl.txt.cl, D.cl.txt.nR, fl_remainder _ q, rfl, ?_⟩
     rw [← dec_eqI] at k2
     exact k2
    ·rw [decide_eq_false e1, Bool.false_and] at k'
     exact k'
end
end Kv
namespace Kv
open PySem PySem.Spec PyProof.Rows L2
open PySem.W (Codec)
theorem while_in {c : TT} {tb : TS} {D : Ends} {σ : L2.St} {H : Hp} (Pv : L2.St → Hp → Prop) (μ : L2.St → Hp → Nat) (h0 : Pv σ H)
  (hs : ∀ σ H, Pv σ H → c σ H fun b H1 => if b = true then ∃ N : L2.St → Hp → Prop, (∀ σ' H', N σ' H' → ∃ m', m' < μ σ H ∧ m' = μ σ' H' ∧ Pv σ' H') ∧ tb { D with nx := N, ct := N, bk := D.nx } σ H1 else D.nx σ H1) : tWhile c tb D σ H :=
 ⟨fun m σ H => m = μ σ H ∧ Pv σ H, ⟨_, rfl, h0⟩, fun m σ H ⟨e, p⟩ => by
  subst e
  exact hs σ H p⟩
theorem cut_take (xs : List V) (n : Int) (h : 0 ≤ n) : cutV xs none (some n) = xs.take n.toNat := by
 unfold cutV
 have e1 : HT.sIx xs.length 0 none = 0 := rfl
 have e2 : HT.sIx xs.length xs.length (some n) = min n.toNat xs.length := by
  show (if n < 0 then (n + (xs.length : Int)).toNat else min n.toNat xs.length) = _
  rw [if_neg (by omega)]
 rw [e1, e2, List.drop_zero, Nat.sub_zero]
 rcases Nat.le_total n.toNat xs.length with h | h
 ·rw [Nat.min_eq_left h]
 ·rw [Nat.min_eq_right h, List.take_of_length_le (Nat.le_refl _), List.take_of_length_le h]
section
variable {P : Program} {w : World} {K : PySem.W.Frag} {mg : Str → Option Value} {base : Heap}
def firstF (f : Vadomb.Fact) (n : Nat) : List Int := (f.map fun v => Vadomb.firstOf v n).getD []
def spFirst (C : Addr) : Sp := fun vs H Q _ => ∃ (p : Addr) (f : Vadomb.Fact) (n : Nat), vs = [.ref p, .int n] ∧ FAt C H p f ∧ n ≤ 99 ∧ ∀ (H' : Hp) (q : Addr), Same H H' → H q = none → H' q = some (.lst ((firstF f n).map V.int)) → (firstF f n).length ≤ 99 → Q (.ref q) H'
theorem ok_first_numbers {x : Fs} (D : Ds K mg x) : FnOk P w K mg base CX0 2 x.a_first_numbers x.f_first_numbers ["value", "limit"] (spFirst x.C) := by
 have G_is_few : FnOk P w K mg base CX0 1 _ _ ["value"] (spIsFew x.C) := ok_isFew D.d_is_few D.cl.txt
 refine D.d_first_numbers.fn.ok sc_first_numbers (fun vs H Q E h => ?_) (fun cdv A outer s H vs Q E hr h => ?_)
 ·obtain ⟨p, f, n, rfl, _⟩ := h
  rfl
 ·obtain ⟨p, f, n, rfl, ⟨hv, hwf⟩, hn, k⟩ := h
  obtain ⟨dx, q, h1, h2⟩ := id hv
  refine ⟨_, (pss_cons (ps_if (pt_val (pe_cD G_is_few hr D.d_is_few (pa_cons (pv 0) pa_nil))) (pss_one (ps_ret (pe_slice sl_list (pe_fld (pv 0) rfl) po_none (po_some (pv 1))))) pss_nil)
 (pss_cons (ps_set (i := 2) sc_first_numbers.nd rfl (Or.inl rfl) (pe_lst pa_nil))
 (pss_cons (ps_set (i := 3) sc_first_numbers.nd rfl (Or.inl rfl) (pe_fld (pv 0) rfl))
 (pss_cons (ps_while PassesOwn.never (PW.pt (pw_and (pt_cmpR op_le (pv 3) (pe_fld (pv 0) rfl) (nomark _)) (pw_and1 (pt_cmpR op_lt (pe_callB call_len_seq (by rfl) D.cl.txt.len PySem.boot_len (pa_cons (pv 2) pa_nil)) (pv 1) (nomark _))))) (pss_cons (ps_if (PW.pt (pw_or (pt_cmpR op_ne (pv 3) pe_int (nomark _)) (pw_or1 (pt_cmpR op_eq (pe_fld (pv 0) rfl) pe_int (nomark _))))) (pss_one (ps_expr (pe_bm PySem.F.plainAttrs_list PySem.F.slot_list_append PySem.F.type_list_append mt_append (pv 2) (pa_cons (pv 3) pa_nil)))) pss_nil)
 (pss_one (ps_aug (i := 3) sc_first_numbers.nd rfl (Or.inl rfl) (pe_fld (pv 0) rfl) ip_add))))
 (pss_one (ps_ret (pv 2))))))), ?_⟩
  refine ⟨_, rfl, p, _, rfl, hv, _, rfl, ?_⟩
  rcases few_or f hwf with ⟨hs, _, _, _, hl6, hf⟩ | ⟨v, rfl, hm⟩
  ·rw [decide_eq_true hs]
   refine iteT ⟨_, rfl, p, x.C, dx, _, _, rfl, h1, D.cl.txt.cl, D.cl.txt.nN, fl_numbers _ q, _, rfl, _, rfl, q, _, rfl, SqL.of h2, fun r hr' => ?_⟩
   have e : firstF f n = (pyV f).nums.take n := by
    rcases fact_cases f hwf with rfl | ⟨v, l, rfl, hl⟩ | ⟨v, rfl, hm⟩
    ·simp [firstF, pyV]
    ·rw [nums_few hl]
     show Vadomb.firstOf v n = _
     unfold Vadomb.firstOf
     rw [hl.few]
    ·exact absurd hs (size_many hm)
   refine k _ r (Same.new hr') hr' ?_ ?_
   ·rw [upd_same, cut_take _ _ (by omega), e, List.map_take]
    rfl
   ·rw [e, List.length_take]
    omega
  ·rw [decide_eq_false (size_many hm)]
   refine iteF ?_
   refine ⟨Nat.zero_le _, fun l hl => ?_⟩
   have hlp : p ≠ l := ne_of_none h1 hl
   have s0 : Same H (upd H l (.lst [])) := Same.new hl
   have m0 := hm.m0
   refine ⟨_, rfl, p, x.C, dx, _, _, rfl, s0 _ _ h1, D.cl.txt.cl, D.cl.txt.nL, fl_least _ q, ?_⟩
   refine while_in (fun σ H' => ∃ i : Nat, σ = [some (.ref p), some (.int n), some (.ref l), some (.int (v.lo + (v.mod : Int) * (i : Int)))] ∧ Same H H' ∧ H' l = some (.lst ((Vadomb.stepsFrom v.lo v.mod v.zero i).map V.int)) ∧
     (∀ j : Nat, j < i → v.lo + (v.mod : Int) * (j : Int) ≤ v.hi) ∧ (Vadomb.stepsFrom v.lo v.mod v.zero i).length ≤ n ∧ i ≤ n + 1)
    (fun σ _ => match σ with
     | [_, _, _, some (.int y)] => (v.hi + 1 - y).toNat
     | _ => 0) ⟨0, by simp; rfl, s0, upd_same, fun j hj => by omega, Nat.zero_le _, Nat.zero_le _⟩ ?_
   rintro σ H' ⟨i, rfl, sH, hl', hb, hlen, hi⟩
   have h1b := sH _ _ h1
   refine ⟨_, rfl, _, rfl, p, x.C, dx, _, _, rfl, h1b, D.cl.txt.cl, D.cl.txt.nG, fl_greatest _ q, _, _, rfl, rfl, _, rfl, ?_⟩
   refine ifAndT (decide (((Vadomb.stepsFrom v.lo v.mod v.zero i).map V.int).length < (n : Int))) (fun e Q' k' => ⟨_, rfl, l, _, rfl, .inl (SqL.of hl'), _, rfl, _, _, rfl, rfl, _, rfl, k'⟩) ?_
   have fin : v.hi < v.lo + (v.mod : Int) * (i : Int) ∨ n ≤ (Vadomb.stepsFrom v.lo v.mod v.zero i).length → Q (.ref l) H' := fun hst => by
    have e := KM.first_done hm hb hlen hi hst
    have e2 : firstF (some v) n = Vadomb.stepsFrom v.lo v.mod v.zero i := e
    refine k H' l sH hl ?_ ?_
    ·rw [e2]; exact hl'
    ·rw [e2]; omega
   rw [List.length_map]
   by_cases hgo : v.lo + (v.mod : Int) * (i : Int) ≤ v.hi ∧ (Vadomb.stepsFrom v.lo v.mod v.zero i).length < n
   ·have hd : (decide (v.lo + (v.mod : Int) * (i : Int) ≤ (pyV (some v)).greatest) && decide (((Vadomb.stepsFrom v.lo v.mod v.zero i).length : Int) < (n : Int))) = true := by
     rw [Bool.and_eq_true]
     exact ⟨decide_eq_true hgo.1, decide_eq_true (by omega)⟩
    rw [hd]
    refine iteT ⟨fun σ' H2 => (∃ i : Nat, σ' = [some (.ref p), some (.int n), some (.ref l), some (.int (v.lo + (v.mod : Int) * (i : Int)))] ∧ Same H H2 ∧ H2 l = some (.lst ((Vadomb.stepsFrom v.lo v.mod v.zero i).map V.int)) ∧
     (∀ j : Nat, j < i → v.lo + (v.mod : Int) * (j : Int) ≤ v.hi) ∧ (Vadomb.stepsFrom v.lo v.mod v.zero i).length ≤ n ∧ i ≤ n + 1) ∧ _, fun σ' H2 ⟨a, b⟩ => ⟨_, b, rfl, a⟩, ?_⟩
    have hbb : ∀ j : Nat, j < i + 1 → v.lo + (v.mod : Int) * (j : Int) ≤ v.hi := fun j hj => by
     by_cases hji : j = i
     ·rw [hji]; exact hgo.1
     ·exact hb j (by omega)
    have hslen := KM.steps_len (a := v.lo) m0 v.zero i
    have enx : v.lo + (v.mod : Int) * ((i : Nat) : Int) + (v.mod : Int) = v.lo + (v.mod : Int) * ((i + 1 : Nat) : Int) := by
     rw [Int.natCast_add, Int.mul_add]
     show _ = v.lo + ((v.mod : Int) * (i : Int) + (v.mod : Int) * ((1 : Nat) : Int))
     rw [show ((1 : Nat) : Int) = 1 from rfl, Int.mul_one]
     omega
    refine ⟨_, rfl, rfl, _, rfl, ?_⟩
    refine ifOrT v.zero (fun e Q' k' => ⟨_, rfl, p, x.C, dx, _, _, rfl, h1b, D.cl.txt.cl, D.cl.txt.nZ, fl_zero _ q, rfl, _, rfl, ?_⟩) ?_
    ·have e1 : decide (V.int (Vadomb.bool v.zero) = V.int 1) = v.zero := by
      rw [dec_eqI]
      cases v.zero <;> decide
     show Q' (decide (V.int (Vadomb.bool v.zero) = V.int 1)) H'
     rw [e1]
     exact k'
    have eb : (!decide (V.int (v.lo + (v.mod : Int) * (i : Int)) = V.int 0) || v.zero) = (v.zero || v.lo + (v.mod : Int) * (i : Int) != 0) := by
     rw [dec_eqI, Bool.or_comm]
     congr 1
    rw [eb]
    have ess := KM.steps_snoc v.lo v.mod v.zero i
    by_cases hc : (v.zero || v.lo + (v.mod : Int) * (i : Int) != 0) = true
    ·rw [if_pos hc] at ess
     rw [hc]
     refine iteT ⟨_, rfl, .inl ⟨rfl, _, SqL.of hl'⟩, _, rfl, l, _, _, rfl, rfl, hl', by rw [List.length_map, sizeLine_eq]; omega, ?_⟩
     have hsu : Same H (upd H' l (.lst ((Vadomb.stepsFrom v.lo v.mod v.zero i).map V.int ++ [V.int (v.lo + (v.mod : Int) * (i : Int))]))) := fun a o e => by
      rw [upd_ne (ne_of_none e hl)]
      exact sH a o e
     have h1u := hsu _ _ h1
     refine ⟨_, rfl, _, rfl, p, x.C, dx, _, _, rfl, h1u, D.cl.txt.cl, D.cl.txt.nM, fl_modulus _ q, _, _, rfl, rfl, ?_⟩
     refine ⟨⟨i + 1, ?_, hsu, ?_, hbb, ?_, ?_⟩, ?_⟩
     ·show [_, _, _, some (V.int (v.lo + (v.mod : Int) * ((i : Nat) : Int) + (v.mod : Int)))] = _
      rw [enx]
     ·rw [upd_same, ess, List.map_append]
      rfl
     ·rw [ess, List.length_append, List.length_singleton]
      omega
     ·omega
     ·show (v.hi + 1 - (v.lo + (v.mod : Int) * ((i : Nat) : Int) + (v.mod : Int))).toNat < (v.hi + 1 - (v.lo + (v.mod : Int) * ((i : Nat) : Int))).toNat
      omega
    ·rw [if_neg hc, List.append_nil] at ess
     rw [Bool.not_eq_true] at hc
     rw [hc]
     refine iteF ?_
     refine ⟨_, rfl, _, rfl, p, x.C, dx, _, _, rfl, h1b, D.cl.txt.cl, D.cl.txt.nM, fl_modulus _ q, _, _, rfl, rfl, ?_⟩
     refine ⟨⟨i + 1, ?_, sH, ?_, hbb, ?_, ?_⟩, ?_⟩
     ·show [_, _, _, some (V.int (v.lo + (v.mod : Int) * ((i : Nat) : Int) + (v.mod : Int)))] = _
      rw [enx]
     ·rw [ess]
      exact hl'
     ·rw [ess]
      exact hlen
     ·omega
     ·show (v.hi + 1 - (v.lo + (v.mod : Int) * ((i : Nat) : Int) + (v.mod : Int))).toNat < (v.hi + 1 - (v.lo + (v.mod : Int) * ((i : Nat) : Int))).toNat
      omega
   ·have hd : (decide (v.lo + (v.mod : Int) * (i : Int) ≤ (pyV (some v)).greatest) && decide (((Vadomb.stepsFrom v.lo v.mod v.zero i).length : Int) < (n : Int))) = false := by
     rw [Bool.and_eq_false_iff]
     by_cases h : v.lo + (v.mod : Int) * (i : Int) ≤ v.hi
     ·exact .inr (decide_eq_false (by have := fun q => hgo ⟨h, q⟩; omega))
     ·exact .inl (decide_eq_false h)
    rw [hd]
    refine iteF ⟨_, rfl, fin ?_⟩
    omega
end
end Kv
namespace Kv
open PySem PySem.Spec PyProof.Rows L2
open PySem.W (Codec)
def spBin (C : Addr) (F : Vadomb.Fact → Vadomb.Fact → Vadomb.Fact) : Sp := fun vs H Q _ => ∃ (p q : Addr) (f g : Vadomb.Fact), vs = [.ref p, .ref q] ∧ FAt C H p f ∧ FAt C H q g ∧ ∀ (H' : Hp) (r : Addr), Same H H' → FAt C H' r (F f g) → Q (.ref r) H'
theorem bool_zI (z : Bool) : Vadomb.bool z = zI z := by cases z <;> rfl
theorem max_bool (a b : Bool) : (if Vadomb.bool b > Vadomb.bool a then Vadomb.bool b else Vadomb.bool a) = zI (a || b) := by cases a <;> cases b <;> decide
theorem min_bool (a b : Bool) : (if Vadomb.bool b < Vadomb.bool a then Vadomb.bool b else Vadomb.bool a) = zI (a && b) := by cases a <;> cases b <;> decide
theorem lo_b {v : Vadomb.Value} (h : KM.Wf (some v)) : (-1000000 ≤ v.lo ∧ v.lo ≤ 1000000) ∧ -1000000 ≤ v.hi ∧ v.hi ≤ 1000000 := by
 rcases KM.wf_cases h with ⟨l, hl⟩ | hm
 ·have e := hl.eq
  cases l with
  | nil => cases e
  | cons a r =>
   have e' := Option.some.inj e
   subst e'
   refine ⟨hl.inb a (List.mem_cons_self ..), hl.inb _ ?_⟩
   show (a :: r).getLastD a ∈ a :: r
   have e2 : (a :: r).getLastD a = (a :: r).getLast (by simp) := by simp [List.getLastD_eq_getLast?, List.getLast?_eq_getLast]
   rw [e2]
   exact List.getLast_mem _
 ·have h1 := hm.lb
  have h2 := hm.hb
  have h3 := hm.le
  exact ⟨⟨h1, by omega⟩, by omega, h2⟩
theorem mod_b {v : Vadomb.Value} (h : KM.Wf (some v)) : (v.mod : Int) ≤ 2000000 := by
 rcases KM.wf_cases h with ⟨l, hl⟩ | hm
 ·have e := hl.eq
  cases l with
  | nil => cases e
  | cons a r =>
   have e' := Option.some.inj e
   subst e'
   show ((Vadomb.gcdOf (a :: r) : Nat) : Int) ≤ 2000000
   cases r with
   | nil => show ((0 : Nat) : Int) ≤ 2000000; omega
   | cons b r =>
    have hb := hl.inb b (List.mem_cons_of_mem _ (List.mem_cons_self ..))
    have ha := hl.inb a (List.mem_cons_self ..)
    have hab := (List.pairwise_cons.mp hl.up).1 b (List.mem_cons_self ..)
    have := gcd_le (a := a) (l := b :: r) (List.mem_cons_self ..) hab
    omega
 ·have := hm.mb
  omega
theorem size_zero {f : Vadomb.Fact} (h : KM.Wf f) : (pyV f).size = 0 ↔ f = none := by
 cases f with
 | none => exact ⟨fun _ => rfl, fun _ => rfl⟩
 | some v => exact ⟨fun e => absurd e (by have := size_pos h; omega), fun e => by cases e⟩
theorem few_dec (f : Vadomb.Fact) (h : KM.Wf f) : ((pyV f).size ≤ 6) ↔ ∀ v, f = some v → v.few ≠ none := by
 rcases fact_cases f h with rfl | ⟨v, l, rfl, hl⟩ | ⟨v, rfl, hm⟩
 ·exact ⟨fun _ v e => (by cases e), fun _ => (by show (0 : Int) ≤ 6; omega)⟩
 ·exact ⟨fun _ v' e => (by cases e; rw [hl.few]; simp), fun _ => size_few6 hl⟩
 ·exact ⟨fun h => absurd h (size_many hm), fun h => absurd hm.nf (h v rfl)⟩
section
variable {P : Program} {w : World} {K : PySem.W.Frag} {mg : Str → Option Value} {base : Heap}
theorem ok_join {x : Fs} (D : Ds K mg x) : FnOk P w K mg base CX0 7 x.a_join x.f_join ["one", "other"] (spBin x.C Vadomb.joinF) := by
 have G_is_few : FnOk P w K mg base CX0 6 _ _ ["value"] (spIsFew x.C) := (ok_isFew D.d_is_few D.cl.txt).mono (by decide)
 have G_hull : FnOk P w K mg base CX0 6 _ _ ["numbers"] (spHull x.C) := ok_hull D
 have G_made_of : FnOk P w K mg base CX0 6 _ _ ["lo", "hi", "modulus", "remainder", "zero"] (spMade x.C) := (ok_made_of D).mono (by decide)
 have G_greatest_divisor : FnOk P w K mg base CX0 6 _ _ ["one", "other"] spGcd := (ok_gcd D.d_greatest_divisor.fn).mono (by decide)
 refine D.d_join.fn.ok sc_join (fun vs H Q E h => ?_) (fun cdv A outer s H vs Q E hr h => ?_)
 ·obtain ⟨p, q, f, g, rfl, _⟩ := h
  rfl
 ·obtain ⟨p, q, f, g, rfl, hf, hg, k⟩ := h
  obtain ⟨hv, hwf⟩ := id hf
  obtain ⟨hw, hwg⟩ := id hg
  obtain ⟨d1, q1, h1, h2⟩ := id hv
  obtain ⟨d2, q2, h3, h4⟩ := id hw
  refine ⟨_, (pss_cons (ps_if (pt_cmpR op_eq (pe_fld (pv 0) rfl) pe_int (nomark _)) (pss_one (ps_ret (pv 1))) pss_nil)
 (pss_cons (ps_if (pt_cmpR op_eq (pe_fld (pv 1) rfl) pe_int (nomark _)) (pss_one (ps_ret (pv 0))) pss_nil)
 (pss_cons (ps_if (PW.pt (pw_and (pt_val (pe_cD G_is_few hr D.d_is_few (pa_cons (pv 0) pa_nil))) (pw_and1 (pt_val (pe_cD G_is_few hr D.d_is_few (pa_cons (pv 1) pa_nil)))))) (pss_one (ps_ret (pe_cD G_hull hr D.d_hull (pa_cons (pe_op op_cat (pe_fld (pv 0) rfl) (pe_fld (pv 1) rfl)) pa_nil)))) pss_nil)
 (pss_cons (ps_set (i := 2) sc_join.nd rfl (Or.inl rfl) (pe_cD G_greatest_divisor hr D.d_greatest_divisor (pa_cons (pe_fld (pv 0) rfl) (pa_cons (pe_fld (pv 1) rfl) pa_nil))))
 (pss_cons (ps_set (i := 2) sc_join.nd rfl (Or.inl rfl) (pe_cD G_greatest_divisor hr D.d_greatest_divisor (pa_cons (pv 2) (pa_cons (pe_callB call_abs (by rfl) D.cl.txt.abs boot_abs (pa_cons (pe_op op_sub (pe_fld (pv 0) rfl) (pe_fld (pv 1) rfl)) pa_nil)) pa_nil))))
 (pss_cons (ps_set (i := 3) sc_join.nd rfl (Or.inl rfl) (pe_callB (call_min2 rfl) (by rfl) D.cl.txt.mgMin boot_min (pa_cons (pe_fld (pv 0) rfl) (pa_cons (pe_fld (pv 1) rfl) pa_nil))))
 (pss_cons (ps_set (i := 4) sc_join.nd rfl (Or.inl rfl) (pe_callB (call_max2 rfl) (by rfl) D.cl.txt.mgMax boot_max (pa_cons (pe_fld (pv 0) rfl) (pa_cons (pe_fld (pv 1) rfl) pa_nil))))
 (pss_one (ps_ret (pe_cD G_made_of hr D.d_made_of (pa_cons (pv 3) (pa_cons (pv 4) (pa_cons (pv 2) (pa_cons (pv 3) (pa_cons (pe_callB (call_max2 rfl) (by rfl) D.cl.txt.mgMax boot_max (pa_cons (pe_fld (pv 0) rfl) (pa_cons (pe_fld (pv 1) rfl) pa_nil))) pa_nil))))))))))))))), ?_⟩
  refine ⟨_, rfl, p, x.C, d1, _, _, rfl, h1, D.cl.txt.cl, D.cl.txt.nS, fl_size _ q1, rfl, _, rfl, ?_⟩
  refine ifEq (fun e => ?_) (fun e => ?_)
  ·have ef := (size_zero hwf).mp e
   subst ef
   exact ⟨_, rfl, k H q (Same.refl H) hg⟩
  refine ⟨_, rfl, q, x.C, d2, _, _, rfl, h3, D.cl.txt.cl, D.cl.txt.nS, fl_size _ q2, rfl, _, rfl, ?_⟩
  refine ifEq (fun e2 => ?_) (fun e2 => ?_)
  ·have eg := (size_zero hwg).mp e2
   subst eg
   refine ⟨_, rfl, k H p (Same.refl H) ?_⟩
   cases f with
   | none => exact absurd rfl e
   | some v => exact hf
  cases f with
  | none => exact absurd rfl e
  | some v =>
  cases g with
  | none => exact absurd rfl e2
  | some u =>
  refine ⟨_, rfl, p, _, rfl, hv, _, rfl, ?_⟩
  refine ifAndT (decide ((pyV (some u)).size ≤ 6)) (fun e Q' k' => ⟨_, rfl, q, _, rfl, hw, _, rfl, k'⟩) ?_
  have lv := lo_b hwf
  have lu := lo_b hwg
  have mv := mod_b hwf
  have mu := mod_b hwg
  have cs : (∃ lf, KM.Few v lf ∧ ∃ lg, KM.Few u lg) ∨ ((v.few = none ∨ u.few = none) ∧ (decide ((pyV (some v)).size ≤ 6) && decide ((pyV (some u)).size ≤ 6)) = false ∧ Nat.gcd (Nat.gcd v.mod u.mod) (v.lo - u.lo).natAbs ≤ 1000000) := by
   rcases KM.wf_cases hwf with ⟨lf, hlf⟩ | hmf
   ·rcases KM.wf_cases hwg with ⟨lg, hlg⟩ | hmg
    ·exact .inl ⟨lf, hlf, lg, hlg⟩
    ·refine .inr ⟨.inr hmg.nf, by rw [decide_eq_false (size_many hmg), Bool.and_false], ?_⟩
     have := hmg.mb
     have := Nat.le_trans (Nat.gcd_le_left (v.lo - u.lo).natAbs (Nat.gcd_pos_of_pos_right v.mod hmg.m0)) (Nat.gcd_le_right v.mod hmg.m0)
     omega
   ·refine .inr ⟨.inl hmf.nf, by rw [decide_eq_false (size_many hmf), Bool.false_and], ?_⟩
    have := hmf.mb
    have := Nat.le_trans (Nat.gcd_le_left (v.lo - u.lo).natAbs (Nat.gcd_pos_of_pos_left u.mod hmf.m0)) (Nat.gcd_le_left u.mod hmf.m0)
    omega
  rcases cs with both | ⟨hn, hb, gle⟩
  ·obtain ⟨lf, hlf, lg, hlg⟩ := both
   rw [decide_eq_true (size_few6 hlf), decide_eq_true (size_few6 hlg)]
   refine iteT ⟨_, rfl, p, x.C, d1, _, _, rfl, h1, D.cl.txt.cl, D.cl.txt.nN, fl_numbers _ q1, _, rfl, q, x.C, d2, _, _, rfl, h3, D.cl.txt.cl, D.cl.txt.nN, fl_numbers _ q2, q1, q2, _, _, rfl, rfl, h2, h4, ?_, fun r hr' => ?_⟩
   ·rw [List.length_map, List.length_map, nums_few hlf, nums_few hlg, sizeLine_eq]
    have := hlf.len
    have := hlg.len
    omega
   ·refine ⟨r, lf ++ lg, rfl, ?_, ?_, fun z hz => ?_, fun H' p' hs hv' => ?_⟩
    ·rw [upd_same, nums_few hlf, nums_few hlg, List.map_append]
    ·rw [List.length_append]
     have := hlf.len
     have := hlg.len
     omega
    ·rcases List.mem_append.mp hz with m | m
     ·exact KM.inB_iff.mpr (hlf.inb z m)
     ·exact KM.inB_iff.mpr (hlg.inb z m)
    ·have ej : Vadomb.joinF (some v) (some u) = Vadomb.ofList (lf ++ lg) := by
      show Vadomb.join v u = _
      unfold Vadomb.join
      rw [hlf.few, hlg.few]
     refine k H' p' ((Same.new hr').trans hs) ⟨?_, ?_⟩
     ·rw [ej]; exact hv'
     ·rw [ej]; exact KM.wf_ofList _
  ·rw [hb]
   refine iteF ?_
   obtain ⟨ej, hmp⟩ := KM.join_mixed hwf hwg hn
   refine ⟨_, rfl, p, x.C, d1, _, _, rfl, h1, D.cl.txt.cl, D.cl.txt.nM, fl_modulus _ q1, _, rfl, q, x.C, d2, _, _, rfl, h3, D.cl.txt.cl, D.cl.txt.nM, fl_modulus _ q2, _, _, rfl, Int.natCast_nonneg _, Int.natCast_nonneg _, ?_⟩
   refine ⟨_, rfl, _, rfl, p, x.C, d1, _, _, rfl, h1, D.cl.txt.cl, D.cl.txt.nL, fl_least _ q1, _, rfl, q, x.C, d2, _, _, rfl, h3, D.cl.txt.cl, D.cl.txt.nL, fl_least _ q2, _, _, rfl, rfl, _, rfl, _, _, rfl, Int.natCast_nonneg _, (by show 0 ≤ (if v.lo - u.lo < 0 then -(v.lo - u.lo) else v.lo - u.lo); split <;> omega), ?_⟩
   refine ⟨_, rfl, p, x.C, d1, _, _, rfl, h1, D.cl.txt.cl, D.cl.txt.nL, fl_least _ q1, _, rfl, q, x.C, d2, _, _, rfl, h3, D.cl.txt.cl, D.cl.txt.nL, fl_least _ q2, _, _, rfl, ?_⟩
   refine ⟨_, rfl, p, x.C, d1, _, _, rfl, h1, D.cl.txt.cl, D.cl.txt.nG, fl_greatest _ q1, _, rfl, q, x.C, d2, _, _, rfl, h3, D.cl.txt.cl, D.cl.txt.nG, fl_greatest _ q2, _, _, rfl, ?_⟩
   refine ⟨_, rfl, _, rfl, _, rfl, _, rfl, _, rfl, p, x.C, d1, _, _, rfl, h1, D.cl.txt.cl, D.cl.txt.nZ, fl_zero _ q1, _, rfl, q, x.C, d2, _, _, rfl, h3, D.cl.txt.cl, D.cl.txt.nZ, fl_zero _ q2, _, _, rfl, ?_⟩
   have ea : (if v.lo - u.lo < 0 then -(v.lo - u.lo) else v.lo - u.lo).toNat = (v.lo - u.lo).natAbs := by split <;> omega
   have ez := max_bool v.zero u.zero
   have b1 : -1000000 ≤ (if u.lo < v.lo then u.lo else v.lo) ∧ (if u.lo < v.lo then u.lo else v.lo) ≤ 1000000 := by split <;> omega
   have b2 : -1000000 ≤ (if u.hi > v.hi then u.hi else v.hi) ∧ (if u.hi > v.hi then u.hi else v.hi) ≤ 1000000 := by split <;> omega
   refine ⟨if u.lo < v.lo then u.lo else v.lo, if u.hi > v.hi then u.hi else v.hi, Nat.gcd (Nat.gcd v.mod u.mod) (v.lo - u.lo).natAbs, if u.lo < v.lo then u.lo else v.lo, (v.zero || u.zero), ?_, by omega, by omega, by omega, by omega, by omega, fun H' p' hs hv' => ?_⟩
   ·show [V.int _, V.int _, V.int ((Nat.gcd ((Nat.gcd (v.mod : Int).toNat (u.mod : Int).toNat : Nat) : Int).toNat (if v.lo - u.lo < 0 then -(v.lo - u.lo) else v.lo - u.lo).toNat : Nat) : Int), V.int _, V.int (if Vadomb.bool u.zero > Vadomb.bool v.zero then Vadomb.bool u.zero else Vadomb.bool v.zero)] = _
    rw [ea, ez, Int.toNat_natCast, Int.toNat_natCast, Int.toNat_natCast]
    rfl
   refine k H' p' hs ⟨?_, ?_⟩
   ·show VAt x.C H' p' (pyV (Vadomb.join v u))
    rw [ej]
    exact hv'
   ·exact KM.wf_join
end
end Kv
namespace Kv
open PySem PySem.Spec PyProof.Rows L2
open PySem.W (Codec)
theorem meet_few_l {v : Vadomb.Value} {l : List Int} (h : KM.Few v l) (g : Vadomb.Fact) (f : Vadomb.Fact) (hf : f = some v) : Vadomb.meetF f g = Vadomb.ofFew (l.filter (Vadomb.hasIn g)) := by
 subst hf
 cases g with
 | none =>
  have : l.filter (Vadomb.hasIn none) = [] := List.filter_eq_nil_iff.mpr fun z _ => by simp [Vadomb.hasIn]
  rw [this]
  rfl
 | some w =>
  show Vadomb.meet v w = _
  unfold Vadomb.meet
  rw [h.few]
  refine KM.ofList_few (List.Pairwise.filter _ h.up) (fun z hz => h.inb z (List.mem_filter.mp hz).1) (Nat.le_trans (List.length_filter_le _ _) h.len)
theorem meet_few (f g : Vadomb.Fact) (hf : KM.Wf f) (h6 : (pyV f).size ≤ 6) : Vadomb.meetF f g = Vadomb.ofFew ((pyV f).nums.filter (Vadomb.hasIn g)) := by
 rcases fact_cases f hf with rfl | ⟨v, l, rfl, hl⟩ | ⟨v, rfl, hm⟩
 ·rfl
 ·rw [nums_few hl]
  exact meet_few_l hl g _ rfl
 ·exact absurd h6 (size_many hm)
theorem meet_few_r {v : Vadomb.Value} (hv : KM.Many v) (g : Vadomb.Fact) (hg : KM.Wf g) (h6 : (pyV g).size ≤ 6) : Vadomb.meetF (some v) g = Vadomb.ofFew ((pyV g).nums.filter (Vadomb.hasIn (some v))) := by
 rcases fact_cases g hg with rfl | ⟨w, l, rfl, hl⟩ | ⟨w, rfl, hm⟩
 ·rfl
 ·rw [nums_few hl]
  show Vadomb.meet v w = _
  unfold Vadomb.meet
  rw [hv.nf, hl.few]
  refine KM.ofList_few (List.Pairwise.filter _ hl.up) (fun z hz => hl.inb z (List.mem_filter.mp hz).1) (Nat.le_trans (List.length_filter_le _ _) hl.len)
 ·exact absurd h6 (size_many hm)
section
variable {P : Program} {w : World} {K : PySem.W.Frag} {mg : Str → Option Value} {base : Heap}
theorem ok_meet {x : Fs} (D : Ds K mg x) : FnOk P w K mg base CX0 6 x.a_meet x.f_meet ["one", "other"] (spBin x.C Vadomb.meetF) := by
 have G_is_few : FnOk P w K mg base CX0 5 _ _ ["value"] (spIsFew x.C) := (ok_isFew D.d_is_few D.cl.txt).mono (by decide)
 have G_few_of : FnOk P w K mg base CX0 5 _ _ ["rising"] (spFewOf x.C) := (ok_few_of D).mono (by decide)
 have G_has : FnOk P w K mg base CX0 5 _ _ ["value", "number"] (spHas x.C) := (ok_has D).mono (by decide)
 have G_made_of : FnOk P w K mg base CX0 5 _ _ ["lo", "hi", "modulus", "remainder", "zero"] (spMade x.C) := ok_made_of D
 have G_greatest_divisor : FnOk P w K mg base CX0 5 _ _ ["one", "other"] spGcd := (ok_gcd D.d_greatest_divisor.fn).mono (by decide)
 have G_shared_number : FnOk P w K mg base CX0 5 _ _ ["remainder", "modulus", "other_remainder", "other_modulus"] spShared := (ok_shared D.d_shared_number.fn D.d_greatest_divisor.fn D.d_greatest_divisor.bd D.d_greatest_divisor.at_ D.d_inverse.fn D.d_inverse.bd D.d_inverse.at_).mono (by decide)
 refine D.d_meet.fn.ok sc_meet (fun vs H Q E h => ?_) (fun cdv A outer s H vs Q E hr h => ?_)
 ·obtain ⟨p, q, f, g, rfl, _⟩ := h
  rfl
 ·obtain ⟨p, q, f, g, rfl, hf, hg, k⟩ := h
  obtain ⟨hv, hwf⟩ := id hf
  obtain ⟨hw, hwg⟩ := id hg
  obtain ⟨d1, q1, h1, h2⟩ := id hv
  obtain ⟨d2, q2, h3, h4⟩ := id hw
  refine ⟨_, (pss_cons (ps_if (pt_val (pe_cD G_is_few hr D.d_is_few (pa_cons (pv 0) pa_nil))) (pss_one (ps_ret (pe_cD G_few_of hr D.d_few_of (pa_cons (pe_lc rfl sc_meet.nd (pi_list (pe_fld (pv 0) rfl)) (own := [("number", 2)]) (blkOk_by (by rfl)) (fun _ _ _ _ _ => pg_name (i := 2) sc_meet.nd rfl (Or.inl rfl)) (fun _ _ _ _ _ => (pts_one (pt_val (pe_cD G_has hr D.d_has (pa_cons (pv 1) (pa_cons (pv 2) pa_nil)))))) (fun _ _ _ _ _ => (pv 2))) pa_nil)))) pss_nil)
 (pss_cons (ps_if (pt_val (pe_cD G_is_few hr D.d_is_few (pa_cons (pv 1) pa_nil))) (pss_one (ps_ret (pe_cD G_few_of hr D.d_few_of (pa_cons (pe_lc rfl sc_meet.nd (pi_list (pe_fld (pv 1) rfl)) (own := [("number", 2)]) (blkOk_by (by rfl)) (fun _ _ _ _ _ => pg_name (i := 2) sc_meet.nd rfl (Or.inl rfl)) (fun _ _ _ _ _ => (pts_one (pt_val (pe_cD G_has hr D.d_has (pa_cons (pv 0) (pa_cons (pv 2) pa_nil)))))) (fun _ _ _ _ _ => (pv 2))) pa_nil)))) pss_nil)
 (pss_cons (ps_set (i := 3) sc_meet.nd rfl (Or.inl rfl) (pe_cD G_shared_number hr D.d_shared_number (pa_cons (pe_fld (pv 0) rfl) (pa_cons (pe_fld (pv 0) rfl) (pa_cons (pe_fld (pv 1) rfl) (pa_cons (pe_fld (pv 1) rfl) pa_nil))))))
 (pss_cons (ps_if (pt_cmpR op_isN (pv 3) pe_non (nomark _)) (pss_one (ps_ret (pe_cD G_few_of hr D.d_few_of (pa_cons (pe_lst pa_nil) pa_nil)))) pss_nil)
 (pss_cons (ps_set (i := 4) sc_meet.nd rfl (Or.inl rfl) (pe_op op_mul (pe_op op_fdivB (pe_fld (pv 0) rfl) (pe_cD G_greatest_divisor hr D.d_greatest_divisor (pa_cons (pe_fld (pv 0) rfl) (pa_cons (pe_fld (pv 1) rfl) pa_nil)))) (pe_fld (pv 1) rfl)))
 (pss_cons (ps_set (i := 5) sc_meet.nd rfl (Or.inl rfl) (pe_callB (call_max2 rfl) (by rfl) D.cl.txt.mgMax boot_max (pa_cons (pe_fld (pv 0) rfl) (pa_cons (pe_fld (pv 1) rfl) pa_nil))))
 (pss_cons (ps_set (i := 6) sc_meet.nd rfl (Or.inl rfl) (pe_callB (call_min2 rfl) (by rfl) D.cl.txt.mgMin boot_min (pa_cons (pe_fld (pv 0) rfl) (pa_cons (pe_fld (pv 1) rfl) pa_nil))))
 (pss_one (ps_ret (pe_cD G_made_of hr D.d_made_of (pa_cons (pv 5) (pa_cons (pv 6) (pa_cons (pv 4) (pa_cons (pv 3) (pa_cons (pe_callB (call_min2 rfl) (by rfl) D.cl.txt.mgMin boot_min (pa_cons (pe_fld (pv 0) rfl) (pa_cons (pe_fld (pv 1) rfl) pa_nil))) pa_nil))))))))))))))), ?_⟩
  refine ⟨_, rfl, p, _, rfl, hv, _, rfl, ?_⟩
  have turn : ∀ (F : Vadomb.Fact) (l : List Int) (i : Nat) (z : Int) (Dd : Addr) (H' : Hp), l.length ≤ 6 → l[i]? = some z → H Dd = none → Same H H' → H' Dd = some (.lst (((l.take i).filter (Vadomb.hasIn F)).map V.int)) →
    (if Vadomb.hasIn F z = true then ∃ acc, H' Dd = some (.lst acc) ∧ acc.length < sizeLine ∧ (Same H (upd H' Dd (.lst (acc ++ [V.int z]))) ∧ upd H' Dd (.lst (acc ++ [V.int z])) Dd = some (.lst (((l.take (i + 1)).filter (Vadomb.hasIn F)).map V.int)))
     else (Same H H' ∧ H' Dd = some (.lst (((l.take (i + 1)).filter (Vadomb.hasIn F)).map V.int)))) := fun F l i z Dd H' h6 hz hDd hs hl => by
   rw [take_snoc hz, List.filter_append]
   cases hb : Vadomb.hasIn F z with
   | true =>
    refine iteT ⟨_, hl, ?_, fun a o e => ?_, ?_⟩
    ·rw [List.length_map, sizeLine_eq]
     have := List.length_filter_le (Vadomb.hasIn F) (l.take i)
     rw [List.length_take] at this
     omega
    ·rw [upd_ne (ne_of_none e hDd)]
     exact hs a o e
    ·rw [upd_same, List.filter_cons, if_pos hb, List.filter_nil, List.map_append]
     rfl
   | false =>
    refine iteF ⟨hs, ?_⟩
    rw [List.filter_cons, if_neg (by rw [hb]; exact Bool.false_ne_true), List.filter_nil, List.append_nil]
    exact hl
  rcases few_or f hwf with ⟨hs6, _, hup, _, hl6, _⟩ | ⟨v, rfl, hmf⟩
  ·rw [decide_eq_true hs6]
   refine iteT ⟨_, rfl, p, x.C, d1, _, _, rfl, h1, D.cl.txt.cl, D.cl.txt.nN, fl_numbers _ q1, q1, rfl, ⟨_, SqL.of h2⟩, fun Dd hDd => ?_⟩
   refine lc_list (xs := (pyV f).nums.map V.int) (fun i H' => Same H H' ∧ H' Dd = some (.lst ((((pyV f).nums.take i).filter (Vadomb.hasIn g)).map V.int))) ⟨Same.new hDd, by rw [upd_same]; rfl⟩ (fun i H' _ h => SqL.of (h.1 _ _ h2)) (fun i y H' hi ⟨hs, hl⟩ => ?_) (fun H' ⟨hs, hl⟩ => ?_)
   ·obtain ⟨z, hz, rfl⟩ := of_map hi
    refine ⟨rfl, _, rfl, _, rfl, q, g, z, rfl, hg.mono hs, _, rfl, ?_⟩
    have tt := turn g _ i z Dd H' hl6 hz hDd hs hl
    revert tt
    generalize Vadomb.hasIn g z = b
    intro tt
    cases b with
    | true =>
     rw [if_pos rfl] at tt
     exact iteT ⟨_, rfl, tt⟩
    | false =>
     rw [if_neg Bool.false_ne_true] at tt
     exact iteF tt
   ·rw [List.length_map, List.take_length] at hl
    refine ⟨Dd, _, rfl, hl, List.Pairwise.filter _ hup, fun H2 r hs2 hv2 => ?_⟩
    refine k H2 r (hs.trans hs2) ⟨?_, KM.wf_meetF _ _⟩
    rw [meet_few f g hwf hs6]
    exact hv2
  rw [decide_eq_false (size_many hmf)]
  refine iteF ?_
  refine ⟨_, rfl, q, _, rfl, hw, _, rfl, ?_⟩
  rcases few_or g hwg with ⟨hs6, _, hup, _, hl6, _⟩ | ⟨u, rfl, hmg⟩
  ·rw [decide_eq_true hs6]
   refine iteT ⟨_, rfl, q, x.C, d2, _, _, rfl, h3, D.cl.txt.cl, D.cl.txt.nN, fl_numbers _ q2, q2, rfl, ⟨_, SqL.of h4⟩, fun Dd hDd => ?_⟩
   refine lc_list (xs := (pyV g).nums.map V.int) (fun i H' => Same H H' ∧ H' Dd = some (.lst ((((pyV g).nums.take i).filter (Vadomb.hasIn (some v))).map V.int))) ⟨Same.new hDd, by rw [upd_same]; rfl⟩ (fun i H' _ h => SqL.of (h.1 _ _ h4)) (fun i y H' hi ⟨hs, hl⟩ => ?_) (fun H' ⟨hs, hl⟩ => ?_)
   ·obtain ⟨z, hz, rfl⟩ := of_map hi
    refine ⟨rfl, _, rfl, _, rfl, p, some v, z, rfl, hf.mono hs, _, rfl, ?_⟩
    have tt := turn (some v) _ i z Dd H' hl6 hz hDd hs hl
    revert tt
    generalize Vadomb.hasIn (some v) z = b
    intro tt
    cases b with
    | true =>
     rw [if_pos rfl] at tt
     exact iteT ⟨_, rfl, tt⟩
    | false =>
     rw [if_neg Bool.false_ne_true] at tt
     exact iteF tt
   ·rw [List.length_map, List.take_length] at hl
    refine ⟨Dd, _, rfl, hl, List.Pairwise.filter _ hup, fun H2 r hs2 hv2 => ?_⟩
    refine k H2 r (hs.trans hs2) ⟨?_, KM.wf_meetF _ _⟩
    rw [meet_few_r hmf g hwg hs6]
    exact hv2
  rw [decide_eq_false (size_many hmg)]
  refine iteF ?_
  have mv := hmf.mb
  have mu := hmg.mb
  have mv0 := hmf.m0
  have mu0 := hmg.m0
  have lv := lo_b hwf
  have lu := lo_b hwg
  have ek : ∀ (H' : Hp) (r : Addr), Same H H' → FAt x.C H' r (Vadomb.meet v u) → Q (.ref r) H' := k
  have em : Vadomb.meet v u = (Vadomb.bothRem v.mod v.rem u.mod u.rem).bind fun x => Vadomb.tidy (if v.lo ≤ u.lo then u.lo else v.lo) (if v.hi ≤ u.hi then v.hi else u.hi) x.1 x.2 (v.zero && u.zero) := by
   unfold Vadomb.meet
   rw [hmf.nf, hmg.nf]
  refine ⟨_, rfl, p, x.C, d1, _, _, rfl, h1, D.cl.txt.cl, D.cl.txt.nR, fl_remainder _ q1, _, rfl, p, x.C, d1, _, _, rfl, h1, D.cl.txt.cl, D.cl.txt.nM, fl_modulus _ q1, _, rfl, q, x.C, d2, _, _, rfl, h3, D.cl.txt.cl, D.cl.txt.nR, fl_remainder _ q2, _, rfl, q, x.C, d2, _, _, rfl, h3, D.cl.txt.cl, D.cl.txt.nM, fl_modulus _ q2, _, _, _, _, rfl, (show (0 : Int) < (v.mod : Int) by omega), (show (v.mod : Int) < 1073741824 by omega), (show (0 : Int) < (u.mod : Int) by omega), (show (u.mod : Int) < 1073741824 by omega), fun hne => ?_, fun he y hy1 hy2 => ?_⟩
  ·have hne' : ¬ (u.rem - v.rem) % ((Nat.gcd v.mod u.mod : Nat) : Int) = 0 := hne
   refine ⟨_, rfl, rfl, _, rfl, ?_⟩
   refine iteT ⟨Nat.zero_le _, fun l hl => ?_⟩
   refine ⟨l, [], rfl, upd_same, List.Pairwise.nil, fun H' r hs hv2 => ?_⟩
   refine ek H' r ((Same.new hl).trans hs) ⟨?_, KM.wf_meet⟩
   rw [em, KM.bothRem_none hne']
   exact hv2
  ·have he' : (u.rem - v.rem) % ((Nat.gcd v.mod u.mod : Nat) : Int) = 0 := he
   obtain ⟨y0, eb, hy⟩ := KM.bothRem_some mv0 mu0 (by omega) he'
   refine ⟨_, rfl, rfl, _, rfl, ?_⟩
   refine iteF ?_
   have gp : 0 < Nat.gcd v.mod u.mod := Nat.gcd_pos_of_pos_left _ mv0
   have gl : Nat.gcd v.mod u.mod ≤ v.mod := Nat.gcd_le_left _ mv0
   have ed : ((v.mod : Int) / ((Nat.gcd v.mod u.mod : Nat) : Int)) = ((v.mod / Nat.gcd v.mod u.mod : Nat) : Int) := (Int.natCast_ediv ..).symm
   have dl : v.mod / Nat.gcd v.mod u.mod ≤ v.mod := Nat.div_le_self _ _
   have dp : 0 < v.mod / Nat.gcd v.mod u.mod := Nat.div_pos gl gp
   refine ⟨_, rfl, p, x.C, d1, _, _, rfl, h1, D.cl.txt.cl, D.cl.txt.nM, fl_modulus _ q1, _, rfl, p, x.C, d1, _, _, rfl, h1, D.cl.txt.cl, D.cl.txt.nM, fl_modulus _ q1, _, rfl, q, x.C, d2, _, _, rfl, h3, D.cl.txt.cl, D.cl.txt.nM, fl_modulus _ q2, _, _, rfl, Int.natCast_nonneg _, Int.natCast_nonneg _, _, _, rfl, rfl, ⟨?_, ?_⟩, _, rfl, q, x.C, d2, _, _, rfl, h3, D.cl.txt.cl, D.cl.txt.nM, fl_modulus _ q2, _, _, rfl, rfl, .inl ⟨?_, ?_⟩, ?_⟩
   ·show (0 : Int) < ((Nat.gcd v.mod u.mod : Nat) : Int)
    omega
   ·show ((Nat.gcd v.mod u.mod : Nat) : Int) < 2 ^ 64
    omega
   ·show -(2 ^ 64) < (v.mod : Int) / ((Nat.gcd v.mod u.mod : Nat) : Int)
    rw [ed]
    omega
   ·show (v.mod : Int) / ((Nat.gcd v.mod u.mod : Nat) : Int) < 2 ^ 64
    rw [ed]
    omega
   refine ⟨_, rfl, p, x.C, d1, _, _, rfl, h1, D.cl.txt.cl, D.cl.txt.nL, fl_least _ q1, _, rfl, q, x.C, d2, _, _, rfl, h3, D.cl.txt.cl, D.cl.txt.nL, fl_least _ q2, _, _, rfl, ?_⟩
   refine ⟨_, rfl, p, x.C, d1, _, _, rfl, h1, D.cl.txt.cl, D.cl.txt.nG, fl_greatest _ q1, _, rfl, q, x.C, d2, _, _, rfl, h3, D.cl.txt.cl, D.cl.txt.nG, fl_greatest _ q2, _, _, rfl, ?_⟩
   refine ⟨_, rfl, _, rfl, _, rfl, _, rfl, _, rfl, p, x.C, d1, _, _, rfl, h1, D.cl.txt.cl, D.cl.txt.nZ, fl_zero _ q1, _, rfl, q, x.C, d2, _, _, rfl, h3, D.cl.txt.cl, D.cl.txt.nZ, fl_zero _ q2, _, _, rfl, ?_⟩
   have e1 : (if u.lo > v.lo then u.lo else v.lo) = if v.lo ≤ u.lo then u.lo else v.lo := by split <;> split <;> omega
   have e2 : (if u.hi < v.hi then u.hi else v.hi) = if v.hi ≤ u.hi then v.hi else u.hi := by split <;> split <;> omega
   have ez := min_bool v.zero u.zero
   have b1 : -1000000 ≤ (if v.lo ≤ u.lo then u.lo else v.lo) ∧ (if v.lo ≤ u.lo then u.lo else v.lo) ≤ 1000000 := by split <;> omega
   have b2 : -1000000 ≤ (if v.hi ≤ u.hi then v.hi else u.hi) ∧ (if v.hi ≤ u.hi then v.hi else u.hi) ≤ 1000000 := by split <;> omega
   have lpos : 0 < v.mod / Nat.gcd v.mod u.mod * u.mod := Nat.mul_pos dp mu0
   have lb : v.mod / Nat.gcd v.mod u.mod * u.mod ≤ 1000000 * 1000000 := Nat.mul_le_mul (by omega) (by omega)
   refine ⟨if v.lo ≤ u.lo then u.lo else v.lo, if v.hi ≤ u.hi then v.hi else u.hi, v.mod / Nat.gcd v.mod u.mod * u.mod, y, (v.zero && u.zero), ?_, by omega, by omega, by omega, by omega, by omega, fun H' r hs hv2 => ?_⟩
   ·show [V.int (if u.lo > v.lo then u.lo else v.lo), V.int (if u.hi < v.hi then u.hi else v.hi), V.int ((v.mod : Int) / ((Nat.gcd v.mod u.mod : Nat) : Int) * (u.mod : Int)), V.int y, V.int (if Vadomb.bool u.zero < Vadomb.bool v.zero then Vadomb.bool u.zero else Vadomb.bool v.zero)] = _
    rw [e1, e2, ez, ed, Int.natCast_mul]
   ·refine ek H' r hs ⟨?_, KM.wf_meet⟩
    rw [em, eb]
    show VAt x.C H' r (pyV (Vadomb.tidy _ _ (v.mod / Nat.gcd v.mod u.mod * u.mod) y0 (v.zero && u.zero)))
    rw [← KM.tidy_congr _ _ lpos (hy y hy1 hy2)]
    exact hv2
end
end Kv
namespace Kv
open PySem PySem.Spec PyProof.Rows L2
open PySem.W (Codec)
structure SlotsAt (C : Addr) (H : Hp) (sl : Addr) (s : Vadomb.State) : Prop where
 at_ : ∃ ps : List Addr, H sl = some (.lst (ps.map V.ref)) ∧ ps.length = 6 ∧ ∀ (i : Nat) (p : Addr), ps[i]? = some p → FAt C H p (Vadomb.factAt s i)
 wf : KM.WfS s
def Kept (sl : Addr) (H H' : Hp) : Prop := ∀ b o, H b = some o → b ≠ sl → H' b = some o
theorem _root_.L2.Same.kept {H H' : Hp} (h : Same H H') (sl : Addr) : Kept sl H H' := fun b o e _ => h b o e
theorem Kept.trans {sl : Addr} {H H1 H2 : Hp} (a : Kept sl H H1) (b : Kept sl H1 H2) : Kept sl H H2 := fun c o e n => b c o (a c o e n) n
theorem Kept.upd {sl : Addr} {H : Hp} {o : HO} : Kept sl H (upd H sl o) := fun b u e n => by rw [upd_ne n]; exact e
theorem SlotsAt.same {C : Addr} {H H' : Hp} {sl : Addr} {s : Vadomb.State} (h : SlotsAt C H sl s) (sm : Same H H') : SlotsAt C H' sl s := by
 obtain ⟨⟨ps, h1, h2, h3⟩, wf⟩ := h
 exact ⟨⟨ps, sm _ _ h1, h2, fun i p e => (h3 i p e).mono sm⟩, wf⟩
theorem ref_ne_int {ps : List Addr} {l : List Int} (h : ps.length = 6) : HO.lst (l.map V.int) ≠ HO.lst (ps.map V.ref) := by
 intro e
 injection e with e
 cases ps with
 | nil => cases h
 | cons p ps =>
  cases l with
  | nil => cases e
  | cons z l =>
   injection e with e _
   cases e
theorem FAt.kept {C : Addr} {H H' : Hp} {sl p : Addr} {ps : List Addr} {f : Vadomb.Fact} (h : FAt C H p f) (hs : H sl = some (.lst (ps.map V.ref))) (h6 : ps.length = 6) (k : Kept sl H H') : FAt C H' p f := by
 obtain ⟨⟨dx, q, h1, h2⟩, wf⟩ := h
 exact ⟨⟨dx, q, k _ _ h1 (ne_of h1 hs (by intro z; cases z)), k _ _ h2 (ne_of h2 hs (ref_ne_int h6))⟩, wf⟩
theorem fact_set {s : Vadomb.State} {f : Vadomb.Fact} {i : Nat} (hi : i < s.slots.length) (j : Nat) : Vadomb.factAt { s with slots := s.slots.set i f } j = if j = i then f else Vadomb.factAt s j := by
 unfold Vadomb.factAt
 show ((s.slots.set i f)[j]?).bind (fun f => f) = _
 by_cases h : j = i
 ·subst h
  rw [List.getElem?_set_self hi, if_pos rfl]
  rfl
 ·rw [List.getElem?_set_ne (fun q => h q.symm), if_neg h]
theorem SlotsAt.get {C : Addr} {H : Hp} {sl : Addr} {s : Vadomb.State} (h : SlotsAt C H sl s) {i : Int} (h0 : 0 ≤ i) (h5 : i ≤ 5) : ∃ (ps : List Addr) (p : Addr), H sl = some (.lst (ps.map V.ref)) ∧ atI (ps.map V.ref) i = some (.ref p) ∧ FAt C H p (Vadomb.factAt s i.toNat) := by
 obtain ⟨⟨ps, h1, h2, h3⟩, wf⟩ := h
 have hlt : i.toNat < ps.length := by omega
 have e : ps[i.toNat]? = some (ps[i.toNat]) := List.getElem?_eq_getElem hlt
 refine ⟨ps, ps[i.toNat], h1, at_of (j := i.toNat) (by omega) ?_, h3 _ _ e⟩
 rw [List.getElem?_map, e]
 rfl
theorem slot_ok {i : Int} (h0 : 0 ≤ i) (h5 : i ≤ 5) : Vadomb.slotOf i = some i.toNat := by
 unfold Vadomb.slotOf Vadomb.placeOf
 rw [if_pos ⟨h0, h5⟩]
theorem keep_ok {s : Vadomb.State} {i : Int} (h0 : 0 ≤ i) (h5 : i ≤ 5) (f : Vadomb.Fact) : Vadomb.keep s i f = ({ s with slots := s.slots.set i.toNat f }, Vadomb.factTold f) := by
 unfold Vadomb.keep
 rw [slot_ok h0 h5]
theorem one_ok {s : Vadomb.State} {i : Int} (h0 : 0 ≤ i) (h5 : i ≤ 5) (F : Vadomb.Fact → Vadomb.State × Vadomb.Answer) : Vadomb.onOne s i F = F (Vadomb.factAt s i.toNat) := by
 unfold Vadomb.onOne
 rw [slot_ok h0 h5]
theorem two_ok {s : Vadomb.State} {i j : Int} (h0 : 0 ≤ i) (h5 : i ≤ 5) (j0 : 0 ≤ j) (j5 : j ≤ 5) (F : Vadomb.Fact → Vadomb.Fact → Vadomb.State × Vadomb.Answer) : Vadomb.onTwo s i j F = F (Vadomb.factAt s i.toNat) (Vadomb.factAt s j.toNat) := by
 unfold Vadomb.onTwo
 rw [one_ok h0 h5, one_ok j0 j5]
def hand (k : Vadomb.Call) : List Int := KM.argsOf k ++ (KM.rowOf k).getD []
def Ans (C : Addr) (H : Hp) (sl : Addr) (r : Vadomb.State × Vadomb.Answer) (Q : VK) : Prop := ∀ (H' : Hp) (q : Addr), Kept sl H H' → SlotsAt C H' sl r.1 → H q = none → H' q = some (.lst (r.2.map V.int)) → Q (.ref q) H'
def spAnswer (C : Addr) (ok : Vadomb.Call → Prop) : Sp := fun vs H Q _ => ∃ (sl hd : Addr) (s : Vadomb.State) (k : Vadomb.Call), vs = [.ref sl, .ref hd] ∧ SlotsAt C H sl s ∧ H hd = some (.lst ((hand k).map V.int)) ∧ ok k ∧ KM.OkC k ∧ Ans C H sl (Vadomb.step s k) Q
theorem Ans.new {C : Addr} {H : Hp} {sl : Addr} {s : Vadomb.State} {l : List Int} {Q : VK} (h : Ans C H sl (s, l) Q) (hs : SlotsAt C H sl s) {q : Addr} (hq : H q = none) : Q (.ref q) (upd H q (.lst (l.map V.int))) :=
 h _ q ((Same.new hq).kept sl) (hs.same (Same.new hq)) hq upd_same
theorem ix_hand {k : Vadomb.Call} {j : Nat} {z : Int} (h : (hand k)[j]? = some z) : atI ((hand k).map V.int) (j : Int) = some (.int z) := atI_nat (by rw [List.getElem?_map, h]; rfl)
section
variable {P : Program} {w : World} {K : PySem.W.Frag} {mg : Str → Option Value} {base : Heap}
def spKeep (C : Addr) : Sp := fun vs H Q _ => ∃ (sl p : Addr) (i : Int) (s : Vadomb.State) (f : Vadomb.Fact), vs = [.ref sl, .int i, .ref p] ∧ SlotsAt C H sl s ∧ 0 ≤ i ∧ i ≤ 5 ∧ FAt C H p f ∧ Ans C H sl ({ s with slots := s.slots.set i.toNat f }, Vadomb.factTold f) Q
theorem ok_keep {x : Fs} (D : Ds K mg x) : FnOk P w K mg base CX0 2 x.a_keep x.f_keep ["slots", "new", "value"] (spKeep x.C) := by
 have G_told : FnOk P w K mg base CX0 1 _ _ ["value"] (spTold x.C) := ok_told D
 refine D.d_keep.fn.ok sc_keep (fun vs H Q E h => ?_) (fun cdv A outer s H vs Q E hr h => ?_)
 ·obtain ⟨sl, p, i, s, f, rfl, _⟩ := h
  rfl
 ·obtain ⟨sl, p, i, st, f, rfl, hS, h0, h5, hf, k⟩ := h
  obtain ⟨⟨ps, h1, h2, h3⟩, wf⟩ := id hS
  refine ⟨_, (pss_cons (ps_asg (pv 2) (pg_sub (pv 0) (pv 1) set_list))
 (pss_one (ps_ret (pe_cD G_told hr D.d_told (pa_cons (pv 2) pa_nil))))), ?_⟩
  have hlt : i.toNat < ps.length := by omega
  refine ⟨_, rfl, _, rfl, _, rfl, sl, _, i, i.toNat, rfl, rfl, h1, ?_, ?_⟩
  ·unfold ixN
   rw [if_pos h0, List.length_map]
   rw [if_pos (by omega)]
  ·have hf1 : FAt x.C (upd H sl (.lst ((ps.map V.ref).set i.toNat (.ref p)))) p f := hf.kept h1 h2 Kept.upd
   refine ⟨_, rfl, p, f, rfl, hf1, fun H' q hs hq hl => ?_⟩
   have hqs : q ≠ sl := fun e => by rw [e, upd_same] at hq; cases hq
   have hqn : H q = none := by rw [upd_ne hqs] at hq; exact hq
   have kp : Kept sl H H' := Kept.upd.trans (hs.kept sl)
   refine k H' q kp ⟨⟨ps.set i.toNat p, ?_, ?_, fun j p' e => ?_⟩, KM.wf_set wf hf.2 _⟩ hqn hl
   ·rw [List.map_set]
    exact hs _ _ upd_same
   ·rw [List.length_set]
    exact h2
   ·rw [fact_set (by rw [wf.len]; omega)]
    by_cases hj : j = i.toNat
    ·subst hj
     rw [List.getElem?_set_self hlt] at e
     have e' := Option.some.inj e
     subst e'
     rw [if_pos rfl]
     exact hf.kept h1 h2 kp
    ·rw [List.getElem?_set_ne (fun q => hj q.symm)] at e
     rw [if_neg hj]
     exact (h3 j p' e).kept h1 h2 kp
theorem ok_answer_told {x : Fs} (D : Ds K mg x) : FnOk P w K mg base CX0 9 x.a_answer_told x.f_answer_told ["slots", "handed"] (spAnswer x.C fun k => ∃ a, k = .told a ∧ 0 ≤ a ∧ a ≤ 5) := by
 have G_told : FnOk P w K mg base CX0 8 _ _ ["value"] (spTold x.C) := (ok_told D).mono (by decide)
 refine D.d_answer_told.fn.ok sc_answer_told (fun vs H Q E h => ?_) (fun cdv A outer s H vs Q E hr h => ?_)
 ·obtain ⟨sl, hd, s, k, rfl, _⟩ := h
  rfl
 ·obtain ⟨sl, hd, st, _, rfl, hS, hh, ⟨a, rfl, a0, a5⟩, hok, k⟩ := h
  obtain ⟨ps, p, h1, h2, h3⟩ := hS.get a0 a5
  have e : Vadomb.step st (.told a) = (st, Vadomb.factTold (Vadomb.factAt st a.toNat)) := one_ok a0 a5 fun f => (st, Vadomb.factTold f)
  rw [e] at k
  refine ⟨_, (pss_one (ps_ret (pe_cD G_told hr D.d_told (pa_cons (pe_ix ix_list (pv 0) (pe_ix ix_list (pv 1) pe_int (fun _ _ => rfl)) (fun _ _ => rfl)) pa_nil)))), ?_⟩
  refine ⟨_, rfl, _, rfl, hd, _, _, _, rfl, rfl, SqL.of hh, ix_hand (j := 0) rfl, sl, _, _, _, rfl, rfl, SqL.of h1, h2, p, _, rfl, h3, fun H' q hs hq hl => ?_⟩
  exact k H' q (hs.kept sl) (hS.same hs) hq hl
theorem ok_answer_has {x : Fs} (D : Ds K mg x) : FnOk P w K mg base CX0 9 x.a_answer_has x.f_answer_has ["slots", "handed"] (spAnswer x.C fun k => ∃ a n, k = .has a n ∧ 0 ≤ a ∧ a ≤ 5) := by
 have G_has : FnOk P w K mg base CX0 8 _ _ ["value", "number"] (spHas x.C) := (ok_has D).mono (by decide)
 refine D.d_answer_has.fn.ok sc_answer_has (fun vs H Q E h => ?_) (fun cdv A outer s H vs Q E hr h => ?_)
 ·obtain ⟨sl, hd, s, k, rfl, _⟩ := h
  rfl
 ·obtain ⟨sl, hd, st, _, rfl, hS, hh, ⟨a, n, rfl, a0, a5⟩, hok, k⟩ := h
  obtain ⟨ps, p, h1, h2, h3⟩ := hS.get a0 a5
  have e : Vadomb.step st (.has a n) = (st, [Vadomb.bool (Vadomb.hasIn (Vadomb.factAt st a.toNat) n)]) := one_ok a0 a5 fun f => (st, [Vadomb.bool (Vadomb.hasIn f n)])
  rw [e] at k
  refine ⟨_, (pss_one (ps_ret (pe_lst (pa_cons (pe_ifExp (pt_val (pe_cD G_has hr D.d_has (pa_cons (pe_ix ix_list (pv 0) (pe_ix ix_list (pv 1) pe_int (fun _ _ => rfl)) (fun _ _ => rfl)) (pa_cons (pe_ix ix_list (pv 1) pe_int (fun _ _ => rfl)) pa_nil)))) pe_int pe_int) pa_nil)))), ?_⟩
  refine ⟨_, rfl, _, rfl, hd, _, _, _, rfl, rfl, SqL.of hh, ix_hand (j := 0) rfl, sl, _, _, _, rfl, rfl, SqL.of h1, h2, _, rfl, hd, _, _, _, rfl, rfl, SqL.of hh, ix_hand (j := 1) rfl, p, _, n, rfl, h3, _, rfl, ?_⟩
  refine ifJoin (v := .int (Vadomb.bool (Vadomb.hasIn (Vadomb.factAt st a.toNat) n))) (fun e Q' k' => ?_) (fun e Q' k' => ?_) ?_
  ·rw [e] at k'
   exact k'
  ·rw [e] at k'
   exact k'
  refine ⟨by show 1 ≤ sizeLine; decide, fun q hq => ?_⟩
  exact Ans.new k hS hq
theorem ok_answer_count {x : Fs} (D : Ds K mg x) : FnOk P w K mg base CX0 9 x.a_answer_count x.f_answer_count ["slots", "handed"] (spAnswer x.C fun k => ∃ a, k = .count a ∧ 0 ≤ a ∧ a ≤ 5) := by
 refine D.d_answer_count.fn.ok sc_answer_count (fun vs H Q E h => ?_) (fun cdv A outer s H vs Q E hr h => ?_)
 ·obtain ⟨sl, hd, s, k, rfl, _⟩ := h
  rfl
 ·obtain ⟨sl, hd, st, _, rfl, hS, hh, ⟨a, rfl, a0, a5⟩, hok, k⟩ := h
  obtain ⟨ps, p, h1, h2, h3⟩ := hS.get a0 a5
  obtain ⟨⟨dx, q, h4, h5⟩, hwf⟩ := id h3
  have e : Vadomb.step st (.count a) = (st, [Vadomb.int (((Vadomb.factAt st a.toNat).map Vadomb.count).getD 0)]) := one_ok a0 a5 fun f => (st, [Vadomb.int ((f.map Vadomb.count).getD 0)])
  have e2 : Vadomb.int (((Vadomb.factAt st a.toNat).map Vadomb.count).getD 0) = (pyV (Vadomb.factAt st a.toNat)).size := by
   cases Vadomb.factAt st a.toNat with
   | none => rfl
   | some v => rfl
  rw [e, e2] at k
  refine ⟨_, (pss_one (ps_ret (pe_lst (pa_cons (pe_fld (pe_ix ix_list (pv 0) (pe_ix ix_list (pv 1) pe_int (fun _ _ => rfl)) (fun _ _ => rfl)) rfl) pa_nil)))), ?_⟩
  refine ⟨_, rfl, _, rfl, hd, _, _, _, rfl, rfl, SqL.of hh, ix_hand (j := 0) rfl, sl, _, _, _, rfl, rfl, SqL.of h1, h2, p, x.C, dx, _, _, rfl, h4, D.cl.txt.cl, D.cl.txt.nS, fl_size _ q, by show 1 ≤ sizeLine; decide, fun q hq => ?_⟩
  exact Ans.new k hS hq
theorem ok_answer_join {x : Fs} (D : Ds K mg x) : FnOk P w K mg base CX0 9 x.a_answer_join x.f_answer_join ["slots", "handed"] (spAnswer x.C fun k => ∃ n a b, k = .join n a b ∧ (0 ≤ n ∧ n ≤ 5) ∧ (0 ≤ a ∧ a ≤ 5) ∧ 0 ≤ b ∧ b ≤ 5) := by
 have G_keep : FnOk P w K mg base CX0 8 _ _ ["slots", "new", "value"] (spKeep x.C) := (ok_keep D).mono (by decide)
 have G_join : FnOk P w K mg base CX0 8 _ _ ["one", "other"] (spBin x.C Vadomb.joinF) := (ok_join D).mono (by decide)
 refine D.d_answer_join.fn.ok sc_answer_join (fun vs H Q E h => ?_) (fun cdv A outer s H vs Q E hr h => ?_)
 ·obtain ⟨sl, hd, s, k, rfl, _⟩ := h
  rfl
 ·obtain ⟨sl, hd, st, _, rfl, hS, hh, ⟨n, a, b, rfl, ⟨n0, n5⟩, ⟨a0, a5⟩, b0, b5⟩, hok, k⟩ := h
  obtain ⟨ps, p, h1, h2, h3⟩ := hS.get a0 a5
  obtain ⟨ps', q, h1', h2', h3'⟩ := hS.get b0 b5
  have e : Vadomb.step st (.join n a b) = ({ st with slots := st.slots.set n.toNat (Vadomb.joinF (Vadomb.factAt st a.toNat) (Vadomb.factAt st b.toNat)) }, Vadomb.factTold (Vadomb.joinF (Vadomb.factAt st a.toNat) (Vadomb.factAt st b.toNat))) := (two_ok a0 a5 b0 b5 fun x y => Vadomb.keep st n (Vadomb.joinF x y)).trans (keep_ok n0 n5 _)
  rw [e] at k
  refine ⟨_, (pss_one (ps_ret (pe_cD G_keep hr D.d_keep (pa_cons (pv 0) (pa_cons (pe_ix ix_list (pv 1) pe_int (fun _ _ => rfl)) (pa_cons (pe_cD G_join hr D.d_join (pa_cons (pe_ix ix_list (pv 0) (pe_ix ix_list (pv 1) pe_int (fun _ _ => rfl)) (fun _ _ => rfl)) (pa_cons (pe_ix ix_list (pv 0) (pe_ix ix_list (pv 1) pe_int (fun _ _ => rfl)) (fun _ _ => rfl)) pa_nil))) pa_nil)))))), ?_⟩
  refine ⟨_, rfl, _, rfl, hd, _, _, _, rfl, rfl, SqL.of hh, ix_hand (j := 0) rfl, _, rfl, _, rfl, hd, _, _, _, rfl, rfl, SqL.of hh, ix_hand (j := 1) rfl, sl, _, _, _, rfl, rfl, SqL.of h1, h2, _, rfl, _, rfl, hd, _, _, _, rfl, rfl, SqL.of hh, ix_hand (j := 2) rfl, sl, _, _, _, rfl, rfl, SqL.of h1', h2', p, q, _, _, rfl, h3, h3', fun H' r hs hf => ?_⟩
  refine ⟨sl, r, n, st, _, rfl, hS.same hs, n0, n5, hf, fun H2 q2 kp hS2 hq2 hl2 => ?_⟩
  exact k H2 q2 ((hs.kept sl).trans kp) hS2 (hs.free hq2) hl2
theorem ok_answer_meet {x : Fs} (D : Ds K mg x) : FnOk P w K mg base CX0 9 x.a_answer_meet x.f_answer_meet ["slots", "handed"] (spAnswer x.C fun k => ∃ n a b, k = .meet n a b ∧ (0 ≤ n ∧ n ≤ 5) ∧ (0 ≤ a ∧ a ≤ 5) ∧ 0 ≤ b ∧ b ≤ 5) := by
 have G_keep : FnOk P w K mg base CX0 8 _ _ ["slots", "new", "value"] (spKeep x.C) := (ok_keep D).mono (by decide)
 have G_meet : FnOk P w K mg base CX0 8 _ _ ["one", "other"] (spBin x.C Vadomb.meetF) := (ok_meet D).mono (by decide)
 refine D.d_answer_meet.fn.ok sc_answer_meet (fun vs H Q E h => ?_) (fun cdv A outer s H vs Q E hr h => ?_)
 ·obtain ⟨sl, hd, s, k, rfl, _⟩ := h
  rfl
 ·obtain ⟨sl, hd, st, _, rfl, hS, hh, ⟨n, a, b, rfl, ⟨n0, n5⟩, ⟨a0, a5⟩, b0, b5⟩, hok, k⟩ := h
  obtain ⟨ps, p, h1, h2, h3⟩ := hS.get a0 a5
  obtain ⟨ps', q, h1', h2', h3'⟩ := hS.get b0 b5
  have e : Vadomb.step st (.meet n a b) = ({ st with slots := st.slots.set n.toNat (Vadomb.meetF (Vadomb.factAt st a.toNat) (Vadomb.factAt st b.toNat)) }, Vadomb.factTold (Vadomb.meetF (Vadomb.factAt st a.toNat) (Vadomb.factAt st b.toNat))) := (two_ok a0 a5 b0 b5 fun x y => Vadomb.keep st n (Vadomb.meetF x y)).trans (keep_ok n0 n5 _)
  rw [e] at k
  refine ⟨_, (pss_one (ps_ret (pe_cD G_keep hr D.d_keep (pa_cons (pv 0) (pa_cons (pe_ix ix_list (pv 1) pe_int (fun _ _ => rfl)) (pa_cons (pe_cD G_meet hr D.d_meet (pa_cons (pe_ix ix_list (pv 0) (pe_ix ix_list (pv 1) pe_int (fun _ _ => rfl)) (fun _ _ => rfl)) (pa_cons (pe_ix ix_list (pv 0) (pe_ix ix_list (pv 1) pe_int (fun _ _ => rfl)) (fun _ _ => rfl)) pa_nil))) pa_nil)))))), ?_⟩
  refine ⟨_, rfl, _, rfl, hd, _, _, _, rfl, rfl, SqL.of hh, ix_hand (j := 0) rfl, _, rfl, _, rfl, hd, _, _, _, rfl, rfl, SqL.of hh, ix_hand (j := 1) rfl, sl, _, _, _, rfl, rfl, SqL.of h1, h2, _, rfl, _, rfl, hd, _, _, _, rfl, rfl, SqL.of hh, ix_hand (j := 2) rfl, sl, _, _, _, rfl, rfl, SqL.of h1', h2', p, q, _, _, rfl, h3, h3', fun H' r hs hf => ?_⟩
  refine ⟨sl, r, n, st, _, rfl, hS.same hs, n0, n5, hf, fun H2 q2 kp hS2 hq2 hl2 => ?_⟩
  exact k H2 q2 ((hs.kept sl).trans kp) hS2 (hs.free hq2) hl2
end
end Kv
namespace Kv
open PySem PySem.Spec PyProof.Rows L2
open PySem.W (Codec)
theorem cut_drop (xs : List V) (n : Nat) : cutV xs (some (n : Int)) none = xs.drop n := by
 unfold cutV
 rw [HT.sIx_nat, HT.sIx_none]
 rcases Nat.le_total n xs.length with h | h
 ·rw [Nat.min_eq_left h, List.take_of_length_le (by rw [List.length_drop]; exact Nat.le_refl _)]
 ·rw [Nat.min_eq_right h, Nat.sub_self, List.take_zero, List.drop_eq_nil_of_le h]
theorem ifBT {c : Bool} {A B : Prop} (h1 : c = true → A) (h2 : c = false → B) : if c = true then A else B := by
 cases c with
 | true => exact iteT (h1 rfl)
 | false => exact iteF (h2 rfl)
section
variable {P : Program} {w : World} {K : PySem.W.Frag} {mg : Str → Option Value} {base : Heap}
theorem ok_answer_of {x : Fs} (D : Ds K mg x) : FnOk P w K mg base CX0 9 x.a_answer_of x.f_answer_of ["slots", "handed"] (spAnswer x.C fun k => ∃ i l, k = .of i l ∧ 0 ≤ i ∧ i ≤ 5) := by
 have G_keep : FnOk P w K mg base CX0 8 _ _ ["slots", "new", "value"] (spKeep x.C) := (ok_keep D).mono (by decide)
 have G_hull : FnOk P w K mg base CX0 8 _ _ ["numbers"] (spHull x.C) := (ok_hull D).mono (by decide)
 have G_is_beyond : FnOk P w K mg base CX0 8 _ _ ["number"] spBeyond := (ok_beyond D.d_is_beyond D.cl.txt).mono (by decide)
 obtain ⟨_, h_MOST_LISTED⟩ := D.cl.txt.h_MOST_LISTED
 obtain ⟨_, h_OUT_OF_RANGE⟩ := D.cl.txt.h_OUT_OF_RANGE
 refine D.d_answer_of.fn.ok sc_answer_of (fun vs H Q E h => ?_) (fun cdv A outer s H vs Q E hr h => ?_)
 ·obtain ⟨sl, hd, s, k, rfl, _⟩ := h
  rfl
 ·obtain ⟨sl, hd, st, _, rfl, hS, hh, ⟨i, l, rfl, i0, i5⟩, hok, k⟩ := h
  have hl60 := (hok.row l rfl).1
  have e : Vadomb.step st (.of i l) = if Vadomb.numbersOk l 40 = true then ({ st with slots := st.slots.set i.toNat (Vadomb.ofList l) }, Vadomb.factTold (Vadomb.ofList l)) else (st, [-1]) := by
   show (if (!(Vadomb.slotOf i).isSome) = true then (st, [-2]) else if Vadomb.numbersOk l Vadomb.LIST = true then Vadomb.keep st i (Vadomb.ofList l) else (st, [-1])) = _
   rw [slot_ok i0 i5, keep_ok i0 i5]
   rfl
  rw [e] at k
  have eno : Vadomb.numbersOk l 40 = (decide (l.length ≤ 40) && l.all Vadomb.inBound) := rfl
  refine ⟨_, (pss_cons (ps_set (i := 2) sc_answer_of.nd rfl (Or.inl rfl) (pe_slice sl_list (pv 1) (po_some pe_int) po_none))
 (pss_cons (ps_if (PW.pt (pw_or (pt_cmpR op_gt (pe_callB call_len_seq (by rfl) D.cl.txt.len PySem.boot_len (pa_cons (pv 2) pa_nil)) (pe_glob (v := .int 40) rfl h_MOST_LISTED ⟨_, rfl⟩) (nomark _)) (pw_or1 (pt_val (pe_callB (cr_any rfl) (by rfl) D.cl.txt.any boot_any (pa_cons (pe_lc rfl sc_answer_of.nd (pi_list (pv 2)) (own := [("number", 3)]) (blkOk_by (by rfl)) (fun _ _ _ _ _ => pg_name (i := 3) sc_answer_of.nd rfl (Or.inl rfl)) (fun _ _ _ _ _ => pts_nil) (fun _ _ _ _ _ => (pe_cD G_is_beyond hr D.d_is_beyond (pa_cons (pv 3) pa_nil)))) pa_nil)))))) (pss_one (ps_ret (pe_lst (pa_cons (pe_glob (v := .int (-1)) rfl h_OUT_OF_RANGE ⟨_, rfl⟩) pa_nil)))) pss_nil)
 (pss_one (ps_ret (pe_cD G_keep hr D.d_keep (pa_cons (pv 0) (pa_cons (pe_ix ix_list (pv 1) pe_int (fun _ _ => rfl)) (pa_cons (pe_cD G_hull hr D.d_hull (pa_cons (pv 2) pa_nil)) pa_nil)))))))), ?_⟩
  refine ⟨_, rfl, _, rfl, hd, _, rfl, SqL.of hh, fun nb hnb => ?_⟩
  have eh : cutV ((hand (.of i l)).map V.int) (some ((1 : Nat) : Int)) none = l.map V.int := by
   rw [cut_drop]
   rfl
  have hnl : (upd H nb (.lst (cutV ((hand (.of i l)).map V.int) (some 1) none))) nb = some (.lst (l.map V.int)) := by
   rw [upd_same]
   exact congrArg (fun z => some (HO.lst z)) eh
  have s1 : Same H (upd H nb (.lst (cutV ((hand (.of i l)).map V.int) (some 1) none))) := Same.new hnb
  generalize upd H nb (.lst (cutV ((hand (.of i l)).map V.int) (some 1) none)) = H1 at hnl s1 ⊢
  have refuse : ∀ H2 : Hp, Same H H2 → Vadomb.numbersOk l 40 = false → ∀ q, H2 q = none → Q (.ref q) (upd H2 q (.lst ([-1].map V.int))) := fun H2 hs hb q hq => by
   rw [hb, if_neg Bool.false_ne_true] at k
   have hs2 := hs.trans (Same.new (o := HO.lst (([-1] : List Int).map V.int)) hq)
   exact k _ q (hs2.kept sl) (hS.same hs2) (hs.free hq) upd_same
  refine ⟨_, rfl, nb, _, rfl, .inl (SqL.of hnl), _, _, rfl, rfl, _, rfl, ?_⟩
  rw [List.length_map]
  refine ifB (fun hgt => ?_) (fun hgt => ?_)
  ·refine iteT ⟨by show 1 ≤ sizeLine; decide, fun q hq => ?_⟩
   exact refuse H1 s1 (by rw [eno, decide_eq_false (by omega), Bool.false_and]) q hq
  ·have hle : l.length ≤ 40 := by omega
   refine ⟨_, rfl, nb, rfl, ⟨_, SqL.of hnl⟩, fun Dd hDd => ?_⟩
   refine lc_list (xs := l.map V.int) (fun i H' => Same H1 H' ∧ H' Dd = some (.lst (((l.take i).map fun z => !Vadomb.inBound z).map V.bl))) ⟨Same.new hDd, by rw [upd_same]; rfl⟩ (fun i H' _ h => SqL.of (h.1 _ _ hnl)) (fun j y H' hj ⟨hs, hl⟩ => ?_) (fun H' ⟨hs, hl⟩ => ?_)
   ·obtain ⟨z, hz, rfl⟩ := of_map hj
    refine ⟨rfl, _, rfl, z, rfl, _, hl, ?_, fun a o e => ?_, ?_⟩
    ·rw [List.length_map, List.length_map, List.length_take, sizeLine_eq]
     omega
    ·rw [upd_ne (ne_of_none e hDd)]
     exact hs a o e
    ·rw [upd_same, take_snoc hz, List.map_append, List.map_append]
     rfl
   ·rw [List.length_map, List.take_length] at hl
    refine ⟨Dd, _, rfl, SqL.of hl, _, rfl, ?_⟩
    have ea : (List.any (l.map fun z => !Vadomb.inBound z) id) = !Vadomb.numbersOk l 40 := by
     rw [eno, decide_eq_true hle, Bool.true_and, List.any_map, List.not_all_eq_any_not]
     rfl
    rw [ea]
    have s2 : Same H H' := s1.trans hs
    cases hno : Vadomb.numbersOk l 40 with
    | false =>
     refine iteT ⟨by show 1 ≤ sizeLine; decide, fun q hq => ?_⟩
     exact refuse H' s2 hno q hq
    | true =>
     rw [hno, if_pos rfl] at k
     have hin : ∀ z ∈ l, Vadomb.inBound z = true := by
      rw [eno, Bool.and_eq_true] at hno
      exact List.all_eq_true.mp hno.2
     refine iteF ⟨_, rfl, _, rfl, hd, _, _, _, rfl, rfl, SqL.of (s2 _ _ hh), ix_hand (j := 0) rfl, _, rfl, nb, l, rfl, hs _ _ hnl, by omega, hin, fun H3 p hs3 hv3 => ?_⟩
     have s3 : Same H H3 := s2.trans hs3
     refine ⟨sl, p, i, st, _, rfl, hS.same s3, i0, i5, ⟨hv3, KM.wf_ofList _⟩, fun H4 q kp hS4 hq4 hl4 => ?_⟩
     exact k H4 q ((s3.kept sl).trans kp) hS4 (s3.free hq4) hl4
theorem ok_answer_parts {x : Fs} (D : Ds K mg x) : FnOk P w K mg base CX0 9 x.a_answer_parts x.f_answer_parts ["slots", "handed"] (spAnswer x.C fun k => ∃ i lo hi m r z, k = .parts i lo hi m r z ∧ 0 ≤ i ∧ i ≤ 5) := by
 have G_keep : FnOk P w K mg base CX0 8 _ _ ["slots", "new", "value"] (spKeep x.C) := (ok_keep D).mono (by decide)
 have G_made_of : FnOk P w K mg base CX0 8 _ _ ["lo", "hi", "modulus", "remainder", "zero"] (spMade x.C) := (ok_made_of D).mono (by decide)
 have G_is_beyond : FnOk P w K mg base CX0 8 _ _ ["number"] spBeyond := (ok_beyond D.d_is_beyond D.cl.txt).mono (by decide)
 obtain ⟨_, h_BOUND⟩ := D.cl.txt.h_BOUND
 obtain ⟨_, h_OUT_OF_RANGE⟩ := D.cl.txt.h_OUT_OF_RANGE
 refine D.d_answer_parts.fn.ok sc_answer_parts (fun vs H Q E h => ?_) (fun cdv A outer s H vs Q E hr h => ?_)
 ·obtain ⟨sl, hd, s, k, rfl, _⟩ := h
  rfl
 ·obtain ⟨sl, hd, st, _, rfl, hS, hh, ⟨i, lo, hi, m, r, z, rfl, i0, i5⟩, hok, k⟩ := h
  have e : Vadomb.step st (.parts i lo hi m r z) = if (!Vadomb.inBound lo || (!Vadomb.inBound hi || (decide (m < 1) || (decide (Vadomb.BOUND < m) || !Vadomb.inBound r))) || !(z == 0 || z == 1)) = true then (st, [-1])
    else ({ st with slots := st.slots.set i.toNat (Vadomb.tidy lo hi m.toNat r (z == 1)) }, Vadomb.factTold (Vadomb.tidy lo hi m.toNat r (z == 1))) := by
   show Vadomb.doParts st i lo hi m r z = _
   unfold Vadomb.doParts
   rw [slot_ok i0 i5, keep_ok i0 i5]
   rfl
  rw [e] at k
  refine ⟨_, (pss_cons (ps_set (i := 2) sc_answer_parts.nd rfl (Or.inl rfl) (pe_ix ix_list (pv 1) pe_int (fun _ _ => rfl)))
 (pss_cons (ps_set (i := 3) sc_answer_parts.nd rfl (Or.inl rfl) (pe_ix ix_list (pv 1) pe_int (fun _ _ => rfl)))
 (pss_cons (ps_set (i := 4) sc_answer_parts.nd rfl (Or.inl rfl) (pe_ix ix_list (pv 1) pe_int (fun _ _ => rfl)))
 (pss_cons (ps_set (i := 5) sc_answer_parts.nd rfl (Or.inl rfl) (pe_ix ix_list (pv 1) pe_int (fun _ _ => rfl)))
 (pss_cons (ps_set (i := 6) sc_answer_parts.nd rfl (Or.inl rfl) (pe_ix ix_list (pv 1) pe_int (fun _ _ => rfl)))
 (pss_cons (ps_if (PW.pt (pw_or (pt_val (pe_cD G_is_beyond hr D.d_is_beyond (pa_cons (pv 2) pa_nil))) (pw_or (pt_val (pe_cD G_is_beyond hr D.d_is_beyond (pa_cons (pv 3) pa_nil))) (pw_or1 (pt_val (pe_cD G_is_beyond hr D.d_is_beyond (pa_cons (pv 5) pa_nil))))))) (pss_one (ps_ret (pe_lst (pa_cons (pe_glob (v := .int (-1)) rfl h_OUT_OF_RANGE ⟨_, rfl⟩) pa_nil)))) pss_nil)
 (pss_cons (ps_if (PW.pt (pw_or (pt_cmpR op_lt (pv 4) pe_int (nomark _)) (pw_or (pt_cmpR op_gt (pv 4) (pe_glob (v := .int 1000000) rfl h_BOUND ⟨_, rfl⟩) (nomark _)) (pw_or (pt_cmpR op_lt (pv 6) pe_int (nomark _)) (pw_or1 (pt_cmpR op_gt (pv 6) pe_int (nomark _))))))) (pss_one (ps_ret (pe_lst (pa_cons (pe_glob (v := .int (-1)) rfl h_OUT_OF_RANGE ⟨_, rfl⟩) pa_nil)))) pss_nil)
 (pss_one (ps_ret (pe_cD G_keep hr D.d_keep (pa_cons (pv 0) (pa_cons (pe_ix ix_list (pv 1) pe_int (fun _ _ => rfl)) (pa_cons (pe_cD G_made_of hr D.d_made_of (pa_cons (pv 2) (pa_cons (pv 3) (pa_cons (pv 4) (pa_cons (pv 5) (pa_cons (pv 6) pa_nil)))))) pa_nil))))))))))))), ?_⟩
  refine ⟨_, rfl, hd, _, _, _, rfl, rfl, SqL.of hh, ix_hand (j := 1) rfl, ?_⟩
  refine ⟨_, rfl, hd, _, _, _, rfl, rfl, SqL.of hh, ix_hand (j := 2) rfl, ?_⟩
  refine ⟨_, rfl, hd, _, _, _, rfl, rfl, SqL.of hh, ix_hand (j := 3) rfl, ?_⟩
  refine ⟨_, rfl, hd, _, _, _, rfl, rfl, SqL.of hh, ix_hand (j := 4) rfl, ?_⟩
  refine ⟨_, rfl, hd, _, _, _, rfl, rfl, SqL.of hh, ix_hand (j := 5) rfl, ?_⟩
  have refuse : (!Vadomb.inBound lo || (!Vadomb.inBound hi || (decide (m < 1) || (decide (Vadomb.BOUND < m) || !Vadomb.inBound r))) || !(z == 0 || z == 1)) = true → ∀ q, H q = none → Q (.ref q) (upd H q (.lst ([-1].map V.int))) := fun hb q hq => by
   rw [if_pos hb] at k
   exact Ans.new k hS hq
  refine ⟨_, rfl, lo, rfl, _, rfl, ?_⟩
  refine ifOrT (!Vadomb.inBound hi || !Vadomb.inBound r) (fun e Q' k' => ⟨_, rfl, hi, rfl, _, rfl, ifOrT (!Vadomb.inBound r) (fun e Q' k' => ⟨_, rfl, r, rfl, _, rfl, k'⟩) k'⟩) ?_
  refine ifBT (fun hb => ⟨by show 1 ≤ sizeLine; decide, fun q hq => refuse ?_ q hq⟩) (fun hb => ?_)
  ·cases h1 : Vadomb.inBound lo <;> cases h2 : Vadomb.inBound hi <;> cases h3 : Vadomb.inBound r <;> rw [h1, h2, h3] at hb <;> simp at hb ⊢
  have hb' : Vadomb.inBound lo = true ∧ Vadomb.inBound hi = true ∧ Vadomb.inBound r = true := by
   cases h1 : Vadomb.inBound lo <;> cases h2 : Vadomb.inBound hi <;> cases h3 : Vadomb.inBound r <;> rw [h1, h2, h3] at hb <;> simp at hb ⊢
  obtain ⟨b1, b2, b3⟩ := hb'
  have c1 := KM.inB_iff.mp b1
  have c2 := KM.inB_iff.mp b2
  rw [b1, b2, b3] at k refuse
  refine ⟨_, rfl, _, _, rfl, rfl, _, rfl, ?_⟩
  refine ifOrT (decide ((1000000 : Int) < m) || (decide (z < 0) || decide ((1 : Int) < z))) (fun e Q' k' => ⟨_, rfl, _, _, rfl, rfl, _, rfl, ifOrT (decide (z < 0) || decide ((1 : Int) < z)) (fun e Q' k' => ⟨_, rfl, _, _, rfl, rfl, _, rfl, ifOrT (decide ((1 : Int) < z)) (fun e Q' k' => ⟨_, rfl, _, _, rfl, rfl, _, rfl, k'⟩) k'⟩) k'⟩) ?_
  have eB : Vadomb.BOUND = 1000000 := rfl
  have ez : (!(z == 0 || z == 1)) = (decide (z < 0) || decide ((1 : Int) < z)) := by
   by_cases z0 : z = 0
   ·subst z0; decide
   ·by_cases z1 : z = 1
    ·subst z1; decide
    ·rw [beq_false_of_ne z0, beq_false_of_ne z1]
     have : z < 0 ∨ 1 < z := by omega
     rcases this with h | h
     ·rw [decide_eq_true h]; rfl
     ·rw [decide_eq_true h, Bool.or_true]; rfl
  rw [ez, eB] at k refuse
  refine ifBT (fun hb => ⟨by show 1 ≤ sizeLine; decide, fun q hq => refuse ?_ q hq⟩) (fun hb => ?_)
  ·simp only [Bool.not_true, Bool.false_or, Bool.or_false, Bool.or_assoc]
   exact hb
  ·have hb1 : ((!true) || (!true || (decide (m < 1) || (decide ((1000000 : Int) < m) || !true))) || (decide (z < 0) || decide ((1 : Int) < z))) = false := by
    simp only [Bool.not_true, Bool.false_or, Bool.or_false, Bool.or_assoc]
    exact hb
   rw [if_neg (by rw [hb1]; exact Bool.false_ne_true)] at k
   rw [Bool.or_eq_false_iff, Bool.or_eq_false_iff, Bool.or_eq_false_iff, decide_eq_false_iff_not, decide_eq_false_iff_not, decide_eq_false_iff_not, decide_eq_false_iff_not] at hb
   have ezI : z = zI (z == 1) := by
    have : z = 0 ∨ z = 1 := by omega
    rcases this with h | h
    ·subst h; decide
    ·subst h; decide
   have em : m = ((m.toNat : Nat) : Int) := by omega
   refine ⟨_, rfl, _, rfl, hd, _, _, _, rfl, rfl, SqL.of hh, ix_hand (j := 0) rfl, _, rfl, _, rfl, _, rfl, _, rfl, _, rfl, lo, hi, m.toNat, r, (z == 1), ?_, by omega, by omega, by omega, by omega, by omega, fun H3 p hs3 hv3 => ?_⟩
   ·show [V.int lo, V.int hi, V.int m, V.int r, V.int z] = _
    rw [← em, ← ezI]
   ·refine ⟨sl, p, i, st, _, rfl, hS.same hs3, i0, i5, ⟨hv3, KM.wf_tidy _ _ _ _ _⟩, fun H4 q kp hS4 hq4 hl4 => ?_⟩
    exact k H4 q ((hs3.kept sl).trans kp) hS4 (hs3.free hq4) hl4
theorem ok_answer_first {x : Fs} (D : Ds K mg x) : FnOk P w K mg base CX0 9 x.a_answer_first x.f_answer_first ["slots", "handed"] (spAnswer x.C fun k => ∃ a n, k = .first a n ∧ 0 ≤ a ∧ a ≤ 5) := by
 have G_first_numbers : FnOk P w K mg base CX0 8 _ _ ["value", "limit"] (spFirst x.C) := (ok_first_numbers D).mono (by decide)
 obtain ⟨_, h_MOST_FIRST⟩ := D.cl.txt.h_MOST_FIRST
 obtain ⟨_, h_NO_COUNT⟩ := D.cl.txt.h_NO_COUNT
 refine D.d_answer_first.fn.ok sc_answer_first (fun vs H Q E h => ?_) (fun cdv A outer s H vs Q E hr h => ?_)
 ·obtain ⟨sl, hd, s, k, rfl, _⟩ := h
  rfl
 ·obtain ⟨sl, hd, st, _, rfl, hS, hh, ⟨a, n, rfl, a0, a5⟩, hok, k⟩ := h
  obtain ⟨ps, p, h1, h2, h3⟩ := hS.get a0 a5
  have e : Vadomb.step st (.first a n) = if 0 ≤ n ∧ n ≤ 50 then (st, Vadomb.listed (firstF (Vadomb.factAt st a.toNat) n.toNat)) else (st, [-4]) := by
   refine (one_ok a0 a5 fun f => match Vadomb.placeOf n 50 with | none => (st, [-4]) | some m => (st, Vadomb.listed (firstF f m))).trans ?_
   show (match Vadomb.placeOf n 50 with | none => (st, [-4]) | some m => (st, Vadomb.listed (firstF (Vadomb.factAt st a.toNat) m))) = _
   unfold Vadomb.placeOf
   by_cases hn : 0 ≤ n ∧ n ≤ 50
   ·rw [if_pos (show 0 ≤ n ∧ n ≤ Vadomb.int 50 from hn), if_pos hn]
   ·rw [if_neg (show ¬ (0 ≤ n ∧ n ≤ Vadomb.int 50) from hn), if_neg hn]
  rw [e] at k
  refine ⟨_, (pss_cons (ps_set (i := 2) sc_answer_first.nd rfl (Or.inl rfl) (pe_ix ix_list (pv 1) pe_int (fun _ _ => rfl)))
 (pss_cons (ps_if (PW.pt (pw_or (pt_cmpR op_lt (pv 2) pe_int (nomark _)) (pw_or1 (pt_cmpR op_gt (pv 2) (pe_glob (v := .int 50) rfl h_MOST_FIRST ⟨_, rfl⟩) (nomark _))))) (pss_one (ps_ret (pe_lst (pa_cons (pe_glob (v := .int (-4)) rfl h_NO_COUNT ⟨_, rfl⟩) pa_nil)))) pss_nil)
 (pss_cons (ps_set (i := 3) sc_answer_first.nd rfl (Or.inl rfl) (pe_cD G_first_numbers hr D.d_first_numbers (pa_cons (pe_ix ix_list (pv 0) (pe_ix ix_list (pv 1) pe_int (fun _ _ => rfl)) (fun _ _ => rfl)) (pa_cons (pv 2) pa_nil))))
 (pss_one (ps_ret (pe_op op_cat (pe_lst (pa_cons (pe_callB call_len_seq (by rfl) D.cl.txt.len PySem.boot_len (pa_cons (pv 3) pa_nil)) pa_nil)) (pv 3))))))), ?_⟩
  refine ⟨_, rfl, hd, _, _, _, rfl, rfl, SqL.of hh, ix_hand (j := 1) rfl, ?_⟩
  refine ⟨_, rfl, _, _, rfl, rfl, _, rfl, ?_⟩
  refine ifOrT (decide ((50 : Int) < n)) (fun e Q' k' => ⟨_, rfl, _, _, rfl, rfl, _, rfl, k'⟩) ?_
  refine ifBT (fun hb => ?_) (fun hb => ?_)
  ·have hn : ¬ (0 ≤ n ∧ n ≤ 50) := fun q => by
    rw [decide_eq_false (by omega), decide_eq_false (by omega)] at hb
    cases hb
   rw [if_neg hn] at k
   exact ⟨by show 1 ≤ sizeLine; decide, fun q hq => Ans.new k hS hq⟩
  ·rw [Bool.or_eq_false_iff, decide_eq_false_iff_not, decide_eq_false_iff_not] at hb
   rw [if_pos (show 0 ≤ n ∧ n ≤ 50 by omega)] at k
   have en : n = ((n.toNat : Nat) : Int) := by omega
   refine ⟨_, rfl, _, rfl, hd, _, _, _, rfl, rfl, SqL.of hh, ix_hand (j := 0) rfl, sl, _, _, _, rfl, rfl, SqL.of h1, h2, _, rfl, p, _, n.toNat, ?_, h3, by omega, fun H2 q hs _ hl hlen => ?_⟩
   ·show [V.ref p, V.int n] = _
    rw [← en]
   ·refine ⟨_, rfl, q, _, rfl, .inl (SqL.of hl), by show 1 ≤ sizeLine; decide, fun r hr' => ?_⟩
    have hrq : q ≠ r := ne_of_none hl hr'
    refine ⟨_, rfl, r, q, _, _, rfl, rfl, upd_same, (by rw [upd_ne hrq]; exact hl), ?_, fun t ht => ?_⟩
    ·show 1 + _ ≤ sizeLine
     rw [List.length_map, sizeLine_eq]
     omega
    ·have htr : t ≠ r := fun e => by rw [e, upd_same] at ht; cases ht
     have htn : H2 t = none := by rw [upd_ne htr] at ht; exact ht
     have s3 := (hs.trans (Same.new hr')).trans (Same.new (o := HO.lst ([V.int ((firstF (Vadomb.factAt st a.toNat) n.toNat).map V.int).length] ++ (firstF (Vadomb.factAt st a.toNat) n.toNat).map V.int)) ht)
     refine k _ t (s3.kept sl) (hS.same s3) (hs.free htn) ?_
     rw [upd_same, List.length_map]
     rfl
end
end Kv
namespace Kv
open PySem PySem.Spec PyProof.Rows L2
open PySem.W (Codec)
theorem lc_rev {K : PySem.W.Frag} {a : Addr} {xs : List V} {g : TG} {tt : TT} {te : TE} {vs : List Nat} {σ : L2.St} {H1 : Hp} {D : Addr} {Qd : Hp → Prop} (Pv : Nat → Hp → Prop) (h0 : Pv 0 (upd H1 D (.lst []))) (hl : ∀ i H, i ≤ xs.length → Pv i H → SqL K H a xs)
  (hs : ∀ i x H, i < xs.length → xs[xs.length - 1 - i]? = some x → Pv i H → g x (wipe σ vs) H fun σ2 H2 => wipe σ2 vs = wipe σ vs ∧ tt σ2 H2 fun b H3 =>
   if b = true then te σ2 H3 fun y H4 => ∃ acc, H4 D = some (.lst acc) ∧ acc.length < sizeLine ∧ Pv (i + 1) (upd H4 D (.lst (acc ++ [y]))) else Pv (i + 1) H3) (hd : ∀ H, Pv xs.length H → Qd H) :
  ∃ W : Nat → Nat → Hp → Prop, (∃ m, W 0 m (upd H1 D (.lst []))) ∧ ∀ i m H, W i m H →
   ((Itv K a xs.length).stop i H ∧ Qd H) ∨ ((Itv K a xs.length).go i H ∧ ∃ Nx : Hp → Prop, (∀ H', Nx H' → ∃ m', m' < m ∧ W (i + 1) m' H') ∧ ∀ x H', (Itv K a xs.length).yld i H x H' → g x (wipe σ vs) H' fun σ2 H2 => wipe σ2 vs = wipe σ vs ∧ tt σ2 H2 fun b H3 =>
    if b = true then te σ2 H3 fun y H4 => ∃ acc, H4 D = some (.lst acc) ∧ acc.length < sizeLine ∧ Nx (upd H4 D (.lst (acc ++ [y]))) else Nx H3) := by
 refine ⟨fun i m H => m = xs.length - i ∧ i ≤ xs.length ∧ Pv i H, ⟨xs.length, by simp, Nat.zero_le _, h0⟩, ?_⟩
 rintro i m H ⟨rfl, hi, p⟩
 have q := hl i H hi p
 by_cases hlt : i < xs.length
 ·have hx : xs[xs.length - 1 - i]? = some (xs[xs.length - 1 - i]) := List.getElem?_eq_getElem (by omega)
  refine .inr ⟨⟨hlt, xs, _, q, hx⟩, Pv (i + 1), fun H' p' => ⟨xs.length - (i + 1), by omega, rfl, hlt, p'⟩, fun x H' y => ?_⟩
  obtain ⟨e, y⟩ := y
  subst e
  exact hs i x _ hlt (y xs q) p
 ·have e : i = xs.length := by omega
  subst e
  exact .inl ⟨Nat.le_refl _, hd H p⟩
theorem rev_take {l : List Int} {i : Nat} {z : Int} (hi : i < l.length) (h : l[l.length - 1 - i]? = some z) : l.reverse.take (i + 1) = l.reverse.take i ++ [z] := by
 refine take_snoc ?_
 rw [List.getElem?_reverse hi]
 exact h
theorem nums_els {f : Vadomb.Fact} (hf : KM.Wf f) (h : (pyV f).size ≤ 6) : (pyV f).nums = KM.elsF f := by
 rcases fact_cases f hf with rfl | ⟨v, l, rfl, hl⟩ | ⟨v, rfl, hm⟩
 ·rfl
 ·rw [nums_few hl, KM.els_few hl]
 ·exact absurd h (size_many hm)
theorem size_py (f : Vadomb.Fact) : (pyV f).size = (KM.sizeF f : Int) := by
 cases f <;> rfl
theorem keep_step {H H' : Hp} {p : Int → Bool} {l : List Int} {i : Nat} {z : Int} {Dd : Addr} (h6 : l.length ≤ 1000) (hz : l[i]? = some z) (hDd : H Dd = none) (hs : Same H H') (hl : H' Dd = some (.lst (((l.take i).filter p).map V.int))) :
  if p z = true then ∃ acc, H' Dd = some (.lst acc) ∧ acc.length < sizeLine ∧ (Same H (upd H' Dd (.lst (acc ++ [V.int z]))) ∧ upd H' Dd (.lst (acc ++ [V.int z])) Dd = some (.lst (((l.take (i + 1)).filter p).map V.int)))
  else (Same H H' ∧ H' Dd = some (.lst (((l.take (i + 1)).filter p).map V.int))) := by
 rw [take_snoc hz, List.filter_append]
 cases hb : p z with
 | true =>
  refine iteT ⟨_, hl, ?_, fun a o e => ?_, ?_⟩
  ·rw [List.length_map, sizeLine_eq]
   have := List.length_filter_le p (l.take i)
   rw [List.length_take] at this
   omega
  ·rw [upd_ne (ne_of_none e hDd)]
   exact hs a o e
  ·rw [upd_same, List.filter_cons, if_pos hb, List.filter_nil, List.map_append]
   rfl
 | false =>
  refine iteF ⟨hs, ?_⟩
  rw [List.filter_cons, if_neg (by rw [hb]; exact Bool.false_ne_true), List.filter_nil, List.append_nil]
  exact hl
theorem map_step {H H' : Hp} {F : Int → Int} {l k : List Int} {z : Int} {Dd : Addr} (h6 : k.length ≤ 1000) (hDd : H Dd = none) (hs : Same H H') (hl : H' Dd = some (.lst ((k.map F).map V.int))) :
  ∃ acc, H' Dd = some (.lst acc) ∧ acc.length < sizeLine ∧ (Same H (upd H' Dd (.lst (acc ++ [V.int (F z)]))) ∧ upd H' Dd (.lst (acc ++ [V.int (F z)])) Dd = some (.lst (((k ++ [z]).map F).map V.int))) := by
 refine ⟨_, hl, ?_, fun a o e => ?_, ?_⟩
 ·rw [List.length_map, List.length_map, sizeLine_eq]
  omega
 ·rw [upd_ne (ne_of_none e hDd)]
  exact hs a o e
 ·rw [upd_same, List.map_append, List.map_append]
  rfl
section
variable {P : Program} {w : World} {K : PySem.W.Frag} {mg : Str → Option Value} {base : Heap}
def spBetween (C : Addr) : Sp := fun vs H Q _ => ∃ (p : Addr) (f : Vadomb.Fact) (lo hi : Int), vs = [.ref p, .int lo, .int hi] ∧ FAt C H p f ∧ (-3000000 ≤ lo ∧ lo ≤ 3000000) ∧ (-3000000 ≤ hi ∧ hi ≤ 3000000) ∧
 ∀ (H' : Hp) (r : Addr), Same H H' → FAt C H' r (KM.betweenF f lo hi) → Q (.ref r) H'
theorem ok_between {x : Fs} (D : Ds K mg x) : FnOk P w K mg base CX0 6 x.a_between x.f_between ["value", "low", "high"] (spBetween x.C) := by
 have G_is_few : FnOk P w K mg base CX0 5 _ _ ["value"] (spIsFew x.C) := (ok_isFew D.d_is_few D.cl.txt).mono (by decide)
 have G_few_of : FnOk P w K mg base CX0 5 _ _ ["rising"] (spFewOf x.C) := (ok_few_of D).mono (by decide)
 have G_made_of : FnOk P w K mg base CX0 5 _ _ ["lo", "hi", "modulus", "remainder", "zero"] (spMade x.C) := ok_made_of D
 refine D.d_between.fn.ok sc_between (fun vs H Q E h => ?_) (fun cdv A outer s H vs Q E hr h => ?_)
 ·obtain ⟨p, f, lo, hi, rfl, _⟩ := h
  rfl
 ·obtain ⟨p, f, lo, hi, rfl, hf, hlo, hhi, k⟩ := h
  obtain ⟨hv, hwf⟩ := id hf
  obtain ⟨dx, q, h1, h2⟩ := id hv
  refine ⟨_, (pss_cons (ps_if (pt_val (pe_cD G_is_few hr D.d_is_few (pa_cons (pv 0) pa_nil))) (pss_one (ps_ret (pe_cD G_few_of hr D.d_few_of (pa_cons (pe_lc rfl sc_between.nd (pi_list (pe_fld (pv 0) rfl)) (own := [("number", 3)]) (blkOk_by (by rfl)) (fun _ _ _ _ _ => pg_name (i := 3) sc_between.nd rfl (Or.inl rfl)) (fun _ _ _ _ _ => (pts_one (pt_chain op_le op_le (pv 1) (pv 3) (pv 2)))) (fun _ _ _ _ _ => (pv 3))) pa_nil)))) pss_nil)
 (pss_one (ps_ret (pe_cD G_made_of hr D.d_made_of (pa_cons (pe_callB (call_max2 rfl) (by rfl) D.cl.txt.mgMax boot_max (pa_cons (pv 1) (pa_cons (pe_fld (pv 0) rfl) pa_nil))) (pa_cons (pe_callB (call_min2 rfl) (by rfl) D.cl.txt.mgMin boot_min (pa_cons (pv 2) (pa_cons (pe_fld (pv 0) rfl) pa_nil))) (pa_cons (pe_fld (pv 0) rfl) (pa_cons (pe_fld (pv 0) rfl) (pa_cons (pe_fld (pv 0) rfl) pa_nil))))))))), ?_⟩
  refine ⟨_, rfl, p, _, rfl, hv, _, rfl, ?_⟩
  rcases few_or f hwf with ⟨hs6, _, hup, _, hl6, _⟩ | ⟨v, rfl, hm⟩
  ·rw [decide_eq_true hs6]
   refine iteT ⟨_, rfl, p, x.C, dx, _, _, rfl, h1, D.cl.txt.cl, D.cl.txt.nN, fl_numbers _ q, q, rfl, ⟨_, SqL.of h2⟩, fun Dd hDd => ?_⟩
   refine lc_list (xs := (pyV f).nums.map V.int) (fun i H' => Same H H' ∧ H' Dd = some (.lst ((((pyV f).nums.take i).filter fun x => decide (lo ≤ x) && decide (x ≤ hi)).map V.int))) ⟨Same.new hDd, by rw [upd_same]; rfl⟩ (fun i H' _ h => SqL.of (h.1 _ _ h2)) (fun i y H' hi' ⟨hs, hl⟩ => ?_) (fun H' ⟨hs, hl⟩ => ?_)
   ·obtain ⟨z, hz, rfl⟩ := of_map hi'
    have tt := keep_step (p := fun x => decide (lo ≤ x) && decide (x ≤ hi)) (by omega) hz hDd hs hl
    refine ⟨rfl, _, rfl, _, rfl, _, _, rfl, rfl, _, rfl, ?_⟩
    by_cases e1 : lo ≤ z
    ·rw [decide_eq_true e1]
     refine iteT ⟨_, rfl, _, _, rfl, rfl, _, rfl, ?_⟩
     have e2 : (decide (lo ≤ z) && decide (z ≤ hi)) = decide (z ≤ hi) := by rw [decide_eq_true e1, Bool.true_and]
     rw [e2] at tt
     refine ifB (fun h => ?_) (fun h => ?_)
     ·rw [decide_eq_true h, if_pos rfl] at tt
      exact ⟨_, rfl, tt⟩
     ·rw [decide_eq_false h, if_neg Bool.false_ne_true] at tt
      exact tt
    ·rw [decide_eq_false e1]
     rw [decide_eq_false e1, Bool.false_and, if_neg Bool.false_ne_true] at tt
     exact iteF ⟨_, rfl, iteF tt⟩
   ·rw [List.length_map, List.take_length] at hl
    refine ⟨Dd, _, rfl, hl, List.Pairwise.filter _ hup, fun H2 r hs2 hv2 => ?_⟩
    refine k H2 r (hs.trans hs2) ⟨?_, KM.wf_between hwf _ _⟩
    rcases fact_cases f hwf with rfl | ⟨v, l, rfl, hl'⟩ | ⟨v, rfl, hm⟩
    ·exact hv2
    ·rw [KM.between_few hl']
     rw [nums_few hl'] at hv2
     exact hv2
    ·exact absurd hs6 (size_many hm)
  ·rw [decide_eq_false (size_many hm)]
   refine iteF ?_
   have b1 := lo_b hwf
   have b2 := mod_b hwf
   refine ⟨_, rfl, _, rfl, p, x.C, dx, _, _, rfl, h1, D.cl.txt.cl, D.cl.txt.nL, fl_least _ q, _, _, rfl, ?_⟩
   refine ⟨_, rfl, _, rfl, p, x.C, dx, _, _, rfl, h1, D.cl.txt.cl, D.cl.txt.nG, fl_greatest _ q, _, _, rfl, ?_⟩
   refine ⟨_, rfl, p, x.C, dx, _, _, rfl, h1, D.cl.txt.cl, D.cl.txt.nM, fl_modulus _ q, _, rfl, p, x.C, dx, _, _, rfl, h1, D.cl.txt.cl, D.cl.txt.nR, fl_remainder _ q, _, rfl, p, x.C, dx, _, _, rfl, h1, D.cl.txt.cl, D.cl.txt.nZ, fl_zero _ q, ?_⟩
   have c1 : -3000000 ≤ (if v.lo > lo then v.lo else lo) ∧ (if v.lo > lo then v.lo else lo) ≤ 3000000 := by split <;> omega
   have c2 : -3000000 ≤ (if v.hi < hi then v.hi else hi) ∧ (if v.hi < hi then v.hi else hi) ≤ 3000000 := by split <;> omega
   refine ⟨if v.lo > lo then v.lo else lo, if v.hi < hi then v.hi else hi, v.mod, v.rem, v.zero, ?_, by omega, by omega, by omega, by omega, by omega, fun H' r hs hv2 => ?_⟩
   ·show [V.int _, V.int _, V.int _, V.int _, V.int (Vadomb.bool v.zero)] = _
    rw [bool_zI]
    rfl
   ·refine k H' r hs ⟨?_, KM.wf_between hwf _ _⟩
    rw [KM.between_many hm]
    exact hv2
def spUn (C : Addr) (F : Vadomb.Fact → Vadomb.Fact) : Sp := fun vs H Q _ => ∃ (p : Addr) (f : Vadomb.Fact), vs = [.ref p] ∧ FAt C H p f ∧ ∀ (H' : Hp) (r : Addr), Same H H' → FAt C H' r (F f) → Q (.ref r) H'
theorem ok_negated {x : Fs} (D : Ds K mg x) : FnOk P w K mg base CX0 6 x.a_negated x.f_negated ["value"] (spUn x.C KM.negF) := by
 have G_is_few : FnOk P w K mg base CX0 5 _ _ ["value"] (spIsFew x.C) := (ok_isFew D.d_is_few D.cl.txt).mono (by decide)
 have G_few_of : FnOk P w K mg base CX0 5 _ _ ["rising"] (spFewOf x.C) := (ok_few_of D).mono (by decide)
 have G_made_of : FnOk P w K mg base CX0 5 _ _ ["lo", "hi", "modulus", "remainder", "zero"] (spMade x.C) := ok_made_of D
 refine D.d_negated.fn.ok sc_negated (fun vs H Q E h => ?_) (fun cdv A outer s H vs Q E hr h => ?_)
 ·obtain ⟨p, f, rfl, _⟩ := h
  rfl
 ·obtain ⟨p, f, rfl, hf, k⟩ := h
  obtain ⟨hv, hwf⟩ := id hf
  obtain ⟨dx, q, h1, h2⟩ := id hv
  refine ⟨_, (pss_cons (ps_if (pt_val (pe_cD G_is_few hr D.d_is_few (pa_cons (pv 0) pa_nil))) (pss_one (ps_ret (pe_cD G_few_of hr D.d_few_of (pa_cons (pe_lc rfl sc_negated.nd (pi_reversed rfl D.cl.txt.reversed (pa_cons (pe_fld (pv 0) rfl) pa_nil)) (own := [("number", 1)]) (blkOk_by (by rfl)) (fun _ _ _ _ _ => pg_name (i := 1) sc_negated.nd rfl (Or.inl rfl)) (fun _ _ _ _ _ => pts_nil) (fun _ _ _ _ _ => (pe_un un_neg (pv 1)))) pa_nil)))) pss_nil)
 (pss_one (ps_ret (pe_cD G_made_of hr D.d_made_of (pa_cons (pe_un un_neg (pe_fld (pv 0) rfl)) (pa_cons (pe_un un_neg (pe_fld (pv 0) rfl)) (pa_cons (pe_fld (pv 0) rfl) (pa_cons (pe_un un_neg (pe_fld (pv 0) rfl)) (pa_cons (pe_fld (pv 0) rfl) pa_nil))))))))), ?_⟩
  refine ⟨_, rfl, p, _, rfl, hv, _, rfl, ?_⟩
  rcases few_or f hwf with ⟨hs6, _, hup, _, hl6, _⟩ | ⟨v, rfl, hm⟩
  ·rw [decide_eq_true hs6]
   refine iteT ⟨_, rfl, p, x.C, dx, _, _, rfl, h1, D.cl.txt.cl, D.cl.txt.nN, fl_numbers _ q, q, (pyV f).nums.map V.int, rfl, SqL.of h2, fun Dd hDd => ?_⟩
   refine lc_rev (xs := (pyV f).nums.map V.int) (fun i H' => Same H H' ∧ H' Dd = some (.lst ((((pyV f).nums.reverse.take i).map fun x => -x).map V.int))) ⟨Same.new hDd, by rw [upd_same]; rfl⟩ (fun i H' _ h => SqL.of (h.1 _ _ h2)) (fun i y H' hlt hi' ⟨hs, hl⟩ => ?_) (fun H' ⟨hs, hl⟩ => ?_)
   ·rw [List.length_map] at hlt hi'
    obtain ⟨z, hz, rfl⟩ := of_map hi'
    have tt := map_step (F := fun x => -x) (l := []) (z := z) (k := (pyV f).nums.reverse.take i) (by rw [List.length_take, List.length_reverse]; omega) hDd hs hl
    rw [← rev_take hlt hz] at tt
    exact ⟨rfl, _, rfl, _, rfl, tt⟩
   ·rw [List.length_map, ← List.length_reverse, List.take_length] at hl
    have hneg : KM.negF f = Vadomb.ofFew ((pyV f).nums.reverse.map fun x => -x) ∧ KM.Up ((pyV f).nums.reverse.map fun x => -x) := by
     rcases fact_cases f hwf with rfl | ⟨v, l, rfl, hl'⟩ | ⟨v, rfl, hm⟩
     ·exact ⟨rfl, List.Pairwise.nil⟩
     ·rw [nums_few hl']
      exact KM.neg_few hl'
     ·exact absurd hs6 (size_many hm)
    refine ⟨Dd, _, rfl, hl, hneg.2, fun H2 r hs2 hv2 => ?_⟩
    refine k H2 r (hs.trans hs2) ⟨?_, KM.wf_neg⟩
    rw [hneg.1]
    exact hv2
  ·rw [decide_eq_false (size_many hm)]
   refine iteF ?_
   have b1 := lo_b hwf
   have b2 := mod_b hwf
   refine ⟨_, rfl, p, x.C, dx, _, _, rfl, h1, D.cl.txt.cl, D.cl.txt.nG, fl_greatest _ q, _, rfl, _, rfl, p, x.C, dx, _, _, rfl, h1, D.cl.txt.cl, D.cl.txt.nL, fl_least _ q, _, rfl, _, rfl, p, x.C, dx, _, _, rfl, h1, D.cl.txt.cl, D.cl.txt.nM, fl_modulus _ q, _, rfl, p, x.C, dx, _, _, rfl, h1, D.cl.txt.cl, D.cl.txt.nR, fl_remainder _ q, _, rfl, _, rfl, p, x.C, dx, _, _, rfl, h1, D.cl.txt.cl, D.cl.txt.nZ, fl_zero _ q, ?_⟩
   refine ⟨-v.hi, -v.lo, v.mod, -v.rem, v.zero, ?_, by omega, by omega, by omega, by omega, by omega, fun H' r hs hv2 => ?_⟩
   ·show [V.int _, V.int _, V.int _, V.int _, V.int (Vadomb.bool v.zero)] = _
    rw [bool_zI]
    rfl
   ·refine k H' r hs ⟨?_, KM.wf_neg⟩
    rw [KM.neg_many hm]
    exact hv2
def spWithout (C : Addr) : Sp := fun vs H Q _ => ∃ (p : Addr) (f : Vadomb.Fact) (n : Int), vs = [.ref p, .int n] ∧ FAt C H p f ∧ (-1000000 ≤ n ∧ n ≤ 1000000) ∧ ∀ (H' : Hp) (r : Addr), Same H H' → FAt C H' r (KM.withoutF f n) → Q (.ref r) H'
theorem ok_without {x : Fs} (D : Ds K mg x) : FnOk P w K mg base CX0 7 x.a_without x.f_without ["value", "number"] (spWithout x.C) := by
 have G_is_few : FnOk P w K mg base CX0 6 _ _ ["value"] (spIsFew x.C) := (ok_isFew D.d_is_few D.cl.txt).mono (by decide)
 have G_few_of : FnOk P w K mg base CX0 6 _ _ ["rising"] (spFewOf x.C) := (ok_few_of D).mono (by decide)
 have G_made_of : FnOk P w K mg base CX0 6 _ _ ["lo", "hi", "modulus", "remainder", "zero"] (spMade x.C) := (ok_made_of D).mono (by decide)
 have G_between : FnOk P w K mg base CX0 6 _ _ ["value", "low", "high"] (spBetween x.C) := ok_between D
 refine D.d_without.fn.ok sc_without (fun vs H Q E h => ?_) (fun cdv A outer s H vs Q E hr h => ?_)
 ·obtain ⟨p, f, n, rfl, _⟩ := h
  rfl
 ·obtain ⟨p, f, n, rfl, hf, hn, k⟩ := h
  obtain ⟨hv, hwf⟩ := id hf
  obtain ⟨dx, q, h1, h2⟩ := id hv
  refine ⟨_, (pss_cons (ps_if (pt_val (pe_cD G_is_few hr D.d_is_few (pa_cons (pv 0) pa_nil))) (pss_one (ps_ret (pe_cD G_few_of hr D.d_few_of (pa_cons (pe_lc rfl sc_without.nd (pi_list (pe_fld (pv 0) rfl)) (own := [("kept", 2)]) (blkOk_by (by rfl)) (fun _ _ _ _ _ => pg_name (i := 2) sc_without.nd rfl (Or.inl rfl)) (fun _ _ _ _ _ => (pts_one (pt_cmpR op_ne (pv 2) (pv 1) (nomark _)))) (fun _ _ _ _ _ => (pv 2))) pa_nil)))) pss_nil)
 (pss_cons (ps_if (pt_cmpR op_eq (pv 1) pe_int (nomark _)) (pss_one (ps_ret (pe_cD G_made_of hr D.d_made_of (pa_cons (pe_fld (pv 0) rfl) (pa_cons (pe_fld (pv 0) rfl) (pa_cons (pe_fld (pv 0) rfl) (pa_cons (pe_fld (pv 0) rfl) (pa_cons pe_int pa_nil)))))))) pss_nil)
 (pss_cons (ps_if (pt_cmpR op_eq (pv 1) (pe_fld (pv 0) rfl) (nomark _)) (pss_one (ps_ret (pe_cD G_between hr D.d_between (pa_cons (pv 0) (pa_cons (pe_op op_add (pv 1) pe_int) (pa_cons (pe_fld (pv 0) rfl) pa_nil)))))) pss_nil)
 (pss_one (ps_ret (pe_cD G_between hr D.d_between (pa_cons (pv 0) (pa_cons (pe_fld (pv 0) rfl) (pa_cons (pe_op op_sub (pv 1) pe_int) pa_nil))))))))), ?_⟩
  refine ⟨_, rfl, p, _, rfl, hv, _, rfl, ?_⟩
  rcases few_or f hwf with ⟨hs6, _, hup, _, hl6, _⟩ | ⟨v, rfl, hm⟩
  ·rw [decide_eq_true hs6]
   refine iteT ⟨_, rfl, p, x.C, dx, _, _, rfl, h1, D.cl.txt.cl, D.cl.txt.nN, fl_numbers _ q, q, rfl, ⟨_, SqL.of h2⟩, fun Dd hDd => ?_⟩
   refine lc_list (xs := (pyV f).nums.map V.int) (fun i H' => Same H H' ∧ H' Dd = some (.lst ((((pyV f).nums.take i).filter fun x => x != n).map V.int))) ⟨Same.new hDd, by rw [upd_same]; rfl⟩ (fun i H' _ h => SqL.of (h.1 _ _ h2)) (fun i y H' hi' ⟨hs, hl⟩ => ?_) (fun H' ⟨hs, hl⟩ => ?_)
   ·obtain ⟨z, hz, rfl⟩ := of_map hi'
    have tt := keep_step (p := fun x => x != n) (by omega) hz hDd hs hl
    refine ⟨rfl, _, rfl, _, rfl, rfl, _, rfl, ?_⟩
    refine ifNe (fun e => ?_) (fun e => ?_)
    ·rw [if_pos (by simpa using e)] at tt
     exact ⟨_, rfl, tt⟩
    ·rw [if_neg (by simpa using e)] at tt
     exact tt
   ·rw [List.length_map, List.take_length] at hl
    refine ⟨Dd, _, rfl, hl, List.Pairwise.filter _ hup, fun H2 r hs2 hv2 => ?_⟩
    refine k H2 r (hs.trans hs2) ⟨?_, KM.wf_without hwf _⟩
    rcases fact_cases f hwf with rfl | ⟨v, l, rfl, hl'⟩ | ⟨v, rfl, hm⟩
    ·exact hv2
    ·have e : KM.withoutF (some v) n = Vadomb.ofFew (l.filter fun x => x != n) := by
      unfold KM.withoutF
      dsimp only
      rw [hl'.few]
     rw [e]
     rw [nums_few hl'] at hv2
     exact hv2
    ·exact absurd hs6 (size_many hm)
  ·rw [decide_eq_false (size_many hm)]
   refine iteF ?_
   have b1 := lo_b hwf
   have b2 := mod_b hwf
   have ew : KM.withoutF (some v) n = if n = 0 then Vadomb.tidy v.lo v.hi v.mod v.rem false else if n = v.lo then KM.betweenF (some v) (n + 1) v.hi else KM.betweenF (some v) v.lo (n - 1) := by
    unfold KM.withoutF
    dsimp only
    rw [hm.nf]
   have hww := KM.wf_without hwf n
   rw [ew] at k hww
   refine ⟨_, rfl, rfl, _, rfl, ?_⟩
   refine ifEq (fun e => ?_) (fun e => ?_)
   ·rw [if_pos e] at k hww
    refine ⟨_, rfl, p, x.C, dx, _, _, rfl, h1, D.cl.txt.cl, D.cl.txt.nL, fl_least _ q, _, rfl, p, x.C, dx, _, _, rfl, h1, D.cl.txt.cl, D.cl.txt.nG, fl_greatest _ q, _, rfl, p, x.C, dx, _, _, rfl, h1, D.cl.txt.cl, D.cl.txt.nM, fl_modulus _ q, _, rfl, p, x.C, dx, _, _, rfl, h1, D.cl.txt.cl, D.cl.txt.nR, fl_remainder _ q, ?_⟩
    refine ⟨v.lo, v.hi, v.mod, v.rem, false, rfl, by omega, by omega, by omega, by omega, by omega, fun H' r hs hv2 => ?_⟩
    exact k H' r hs ⟨hv2, hww⟩
   ·rw [if_neg e] at k hww
    refine ⟨_, rfl, _, rfl, p, x.C, dx, _, _, rfl, h1, D.cl.txt.cl, D.cl.txt.nL, fl_least _ q, rfl, _, rfl, ?_⟩
    refine ifEq (fun e2 => ?_) (fun e2 => ?_)
    ·have e2' : n = v.lo := e2
     rw [if_pos e2'] at k hww
     exact ⟨_, rfl, _, rfl, _, _, rfl, rfl, _, rfl, p, x.C, dx, _, _, rfl, h1, D.cl.txt.cl, D.cl.txt.nG, fl_greatest _ q, p, _, _, _, rfl, hf, ⟨by omega, by omega⟩, ⟨by show _ ≤ v.hi; omega, by show v.hi ≤ _; omega⟩, k⟩
    ·have e2' : ¬ n = v.lo := e2
     rw [if_neg e2'] at k hww
     exact ⟨_, rfl, _, rfl, p, x.C, dx, _, _, rfl, h1, D.cl.txt.cl, D.cl.txt.nL, fl_least _ q, _, rfl, _, _, rfl, rfl, p, _, _, _, rfl, hf, ⟨by show _ ≤ v.lo; omega, by show v.lo ≤ _; omega⟩, ⟨by omega, by omega⟩, k⟩
end
end Kv
namespace Kv
open PySem PySem.Spec PyProof.Rows L2
open PySem.W (Codec)
section
variable {P : Program} {w : World} {K : PySem.W.Frag} {mg : Str → Option Value} {base : Heap}
def spHand (C : Addr) : Sp := fun vs H Q _ => ∃ (p : Addr) (f : Vadomb.Fact) (n : Int), vs = [.ref p, .int n] ∧ FAt C H p f ∧ ∀ (H' : Hp) (q : Addr), Same H H' → H q = none → H' q = some (.lst ((KM.handL f n).map V.int)) → Q (.ref q) H'
theorem ok_handful {x : Fs} (D : Ds K mg x) : FnOk P w K mg base CX0 3 x.a_handful x.f_handful ["value", "number"] (spHand x.C) := by
 have G_is_few : FnOk P w K mg base CX0 2 _ _ ["value"] (spIsFew x.C) := (ok_isFew D.d_is_few D.cl.txt).mono (by decide)
 have G_first_numbers : FnOk P w K mg base CX0 2 _ _ ["value", "limit"] (spFirst x.C) := ok_first_numbers D
 have G_has : FnOk P w K mg base CX0 2 _ _ ["value", "number"] (spHas x.C) := ok_has D
 obtain ⟨_, h_FEW⟩ := D.cl.txt.h_FEW
 refine D.d_handful.fn.ok sc_handful (fun vs H Q E h => ?_) (fun cdv A outer s H vs Q E hr h => ?_)
 ·obtain ⟨p, f, n, rfl, _⟩ := h
  rfl
 ·obtain ⟨p, f, n, rfl, hf, k⟩ := h
  obtain ⟨hv, hwf⟩ := id hf
  obtain ⟨dx, q, h1, h2⟩ := id hv
  refine ⟨_, (pss_cons (ps_set (i := 2) sc_handful.nd rfl (Or.inl rfl) (pe_cD G_first_numbers hr D.d_first_numbers (pa_cons (pv 0) (pa_cons (pe_glob (v := .int 6) rfl h_FEW ⟨_, rfl⟩) pa_nil))))
 (pss_cons (ps_if (pt_not (pt_val (pe_cD G_is_few hr D.d_is_few (pa_cons (pv 0) pa_nil)))) (pss_one (ps_expr (pe_bm PySem.F.plainAttrs_list PySem.F.slot_list_append PySem.F.type_list_append mt_append (pv 2) (pa_cons (pe_fld (pv 0) rfl) pa_nil)))) pss_nil)
 (pss_cons (ps_if (pt_val (pe_cD G_has hr D.d_has (pa_cons (pv 0) (pa_cons (pv 1) pa_nil)))) (pss_one (ps_expr (pe_bm PySem.F.plainAttrs_list PySem.F.slot_list_append PySem.F.type_list_append mt_append (pv 2) (pa_cons (pv 1) pa_nil)))) pss_nil)
 (pss_one (ps_ret (pv 2)))))), ?_⟩
  refine ⟨_, rfl, p, f, 6, rfl, hf, by omega, fun H1 t hs ht hl hlen => ?_⟩
  have sU : ∀ o : HO, Same H (upd H1 t o) := fun o a u e => by
   rw [upd_ne (ne_of_none e ht)]
   exact hs a u e
  have last : ∀ (L : List Int) (H2 : Hp), L.length ≤ 200 → Same H H2 → H2 t = some (.lst (L.map V.int)) → L ++ (if Vadomb.hasIn f n = true then [n] else []) = KM.handL f n →
    ∀ b : Bool, b = Vadomb.hasIn f n → (if b = true then (∃ xs, H2 t = some (.lst xs) ∧ xs.length < sizeLine ∧ Q (.ref t) (upd H2 t (.lst (xs ++ [V.int n])))) else Q (.ref t) H2) := fun L H2 hL s2 hl2 e b hb => by
   have sU2 : ∀ o : HO, Same H (upd H2 t o) := fun o a u e => by
    rw [upd_ne (ne_of_none e ht)]
    exact s2 a u e
   cases b with
   | true =>
    rw [← hb, if_pos rfl] at e
    refine iteT ⟨_, hl2, by rw [List.length_map, sizeLine_eq]; omega, k _ t (sU2 _) ht ?_⟩
    rw [upd_same, ← e, List.map_append]
    rfl
   | false =>
    rw [← hb, if_neg Bool.false_ne_true, List.append_nil] at e
    refine iteF (k _ t s2 ht ?_)
    rw [← e]
    exact hl2
  refine ⟨_, rfl, p, _, rfl, hv.mono hs, _, rfl, ?_⟩
  rcases few_or f hwf with ⟨hs6, _, _, _, hl6, _⟩ | ⟨v, rfl, hm⟩
  ·rw [decide_eq_true hs6]
   refine iteF ?_
   have e : firstF f 6 ++ (if Vadomb.hasIn f n = true then [n] else []) = KM.handL f n := by
    rcases fact_cases f hwf with rfl | ⟨v, l, rfl, hl'⟩ | ⟨v, rfl, hm⟩
    ·rfl
    ·show Vadomb.firstOf v 6 ++ (if Vadomb.has v n = true then [n] else []) = _
     unfold KM.handL Vadomb.firstOf
     dsimp only
     rw [hl'.few]
     dsimp only
     rw [List.take_of_length_le hl'.len]
    ·exact absurd hs6 (size_many hm)
   have LL := last (firstF f 6) H1 (by omega) hs hl e _ rfl
   refine ⟨_, rfl, _, rfl, p, f, n, rfl, hf.mono hs, _, rfl, ?_⟩
   revert LL
   generalize Vadomb.hasIn f n = b
   intro LL
   cases b with
   | true =>
    rw [if_pos rfl] at LL
    obtain ⟨xs, a1, a2, a3⟩ := LL
    exact iteT ⟨_, rfl, .inl ⟨rfl, _, SqL.of a1⟩, _, rfl, t, xs, _, rfl, rfl, a1, a2, _, rfl, a3⟩
   | false =>
    rw [if_neg Bool.false_ne_true] at LL
    exact iteF ⟨_, rfl, LL⟩
  ·rw [decide_eq_false (size_many hm)]
   have h1' := hs _ _ h1
   refine iteT ⟨_, rfl, .inl ⟨rfl, _, SqL.of hl⟩, _, rfl, p, x.C, dx, _, _, rfl, h1', D.cl.txt.cl, D.cl.txt.nG, fl_greatest _ q, t, _, _, rfl, rfl, hl, by rw [List.length_map, sizeLine_eq]; omega, ?_⟩
   have e : (firstF (some v) 6 ++ [v.hi]) ++ (if Vadomb.hasIn (some v) n = true then [n] else []) = KM.handL (some v) n := by
    show Vadomb.firstOf v 6 ++ [v.hi] ++ (if Vadomb.has v n = true then [n] else []) = _
    unfold KM.handL
    dsimp only
    rw [hm.nf]
   have LL := last (firstF (some v) 6 ++ [v.hi]) (upd H1 t (.lst ((firstF (some v) 6).map V.int ++ [V.int v.hi]))) (by rw [List.length_append, List.length_singleton]; omega) (sU _) (by rw [upd_same, List.map_append]; rfl) e _ rfl
   refine ⟨_, rfl, _, rfl, p, some v, n, rfl, hf.mono (sU _), _, rfl, ?_⟩
   revert LL
   generalize Vadomb.hasIn (some v) n = b
   intro LL
   cases b with
   | true =>
    rw [if_pos rfl] at LL
    obtain ⟨xs, a1, a2, a3⟩ := LL
    exact iteT ⟨_, rfl, .inl ⟨rfl, _, SqL.of a1⟩, _, rfl, t, xs, _, rfl, rfl, a1, a2, _, rfl, a3⟩
   | false =>
    rw [if_neg Bool.false_ne_true] at LL
    exact iteF ⟨_, rfl, LL⟩
def spFewBin (C : Addr) (F : List Int → Vadomb.Fact → List Int) : Sp := fun vs H Q _ => ∃ (p q : Addr) (f g : Vadomb.Fact), vs = [.ref p, .ref q] ∧ FAt C H p f ∧ FAt C H q g ∧ (pyV f).size ≤ 6 ∧ ∀ (H' : Hp) (r : Addr), Same H H' → FAt C H' r (Vadomb.ofList (F (pyV f).nums g)) → Q (.ref r) H'
theorem ok_few_plus {x : Fs} (D : Ds K mg x) : FnOk P w K mg base CX0 7 x.a_few_plus x.f_few_plus ["few", "other"] (spFewBin x.C KM.fewPlusL) := by
 have G_between : FnOk P w K mg base CX0 6 _ _ ["value", "low", "high"] (spBetween x.C) := ok_between D
 have G_handful : FnOk P w K mg base CX0 6 _ _ ["value", "number"] (spHand x.C) := (ok_handful D).mono (by decide)
 have G_hull : FnOk P w K mg base CX0 6 _ _ ["numbers"] (spHull x.C) := ok_hull D
 obtain ⟨_, h_BOUND⟩ := D.cl.txt.h_BOUND
 refine D.d_few_plus.fn.ok sc_few_plus (fun vs H Q E h => ?_) (fun cdv A outer s H vs Q E hr h => ?_)
 ·obtain ⟨p, q, f, g, rfl, _⟩ := h
  rfl
 ·obtain ⟨p, q, f, g, rfl, hf, hg, h6, k⟩ := h
  obtain ⟨hv, hwf⟩ := id hf
  obtain ⟨hw, hwg⟩ := id hg
  obtain ⟨d1, q1, h1, h2⟩ := id hv
  have hin : ∀ z ∈ (pyV f).nums, -1000000 ≤ z ∧ z ≤ 1000000 := by
   rcases fact_cases f hwf with rfl | ⟨v, l, rfl, hl⟩ | ⟨v, rfl, hm⟩
   ·exact fun z hz => by cases hz
   ·rw [nums_few hl]; exact hl.inb
   ·exact absurd h6 (size_many hm)
  have hl6 : (pyV f).nums.length ≤ 6 := by
   rcases few_or f hwf with ⟨_, _, _, _, hl6, _⟩ | ⟨v, rfl, hm⟩
   ·exact hl6
   ·exact absurd h6 (size_many hm)
  refine ⟨_, (pss_cons (ps_set (i := 2) sc_few_plus.nd rfl (Or.inl rfl) (pe_lst pa_nil))
 (pss_cons (ps_for PassesOwn.never rfl (pi_list (pe_fld (pv 0) rfl)) (pg_name (i := 3) sc_few_plus.nd rfl (Or.inr rfl)) (pss_cons (ps_set (i := 4) sc_few_plus.nd rfl (Or.inl rfl) (pe_cD G_between hr D.d_between (pa_cons (pv 1) (pa_cons (pe_op op_sub (pe_un un_neg (pe_glob (v := .int 1000000) rfl h_BOUND ⟨_, rfl⟩)) (pv 3)) (pa_cons (pe_op op_sub (pe_glob (v := .int 1000000) rfl h_BOUND ⟨_, rfl⟩) (pv 3)) pa_nil)))))
 (pss_one (ps_expr (pe_bm PySem.F.plainAttrs_list PySem.F.slot_list_extend PySem.F.type_list_extend mt_extend (pv 2) (pa_cons (pe_lc rfl sc_few_plus.nd (pi_list (pe_cD G_handful hr D.d_handful (pa_cons (pv 4) (pa_cons (pe_un un_neg (pv 3)) pa_nil)))) (own := [("summand", 5)]) (blkOk_by (by rfl)) (fun _ _ _ _ _ => pg_name (i := 5) sc_few_plus.nd rfl (Or.inl rfl)) (fun _ _ _ _ _ => pts_nil) (fun _ _ _ _ _ => (pe_op op_add (pv 3) (pv 5)))) pa_nil))))))
 (pss_one (ps_ret (pe_cD G_hull hr D.d_hull (pa_cons (pv 2) pa_nil)))))), ?_⟩
  refine ⟨Nat.zero_le _, fun l hl => ?_⟩
  have s0 : Same H (upd H l (.lst [])) := Same.new hl
  have h1' := s0 _ _ h1
  have fl : ∀ i, (KM.fewPlusL ((pyV f).nums.take i) g).length ≤ 48 := fun i => by
   have := KM.plusL_len (a := (pyV f).nums.take i) hwg
   rw [List.length_take] at this
   omega
  refine ⟨_, rfl, p, x.C, d1, _, _, rfl, h1', D.cl.txt.cl, D.cl.txt.nN, fl_numbers _ q1, q1, rfl, ⟨_, SqL.of (s0 _ _ h2)⟩, for_list (K := K) (a := q1) (xs := (pyV f).nums.map V.int) (fun i σ H' => Same H H' ∧ H' l = some (.lst ((KM.fewPlusL ((pyV f).nums.take i) g).map V.int)) ∧ ∃ c3 c4 : Option V, σ = [some (.ref p), some (.ref q), some (.ref l), c3, c4, none])
   ⟨s0, upd_same, none, none, rfl⟩ (fun i σ H' _ h => SqL.of (h.1 _ _ h2)) ?_ ?_⟩
  ·rintro i y σ H' hi ⟨sH, hl', c3, c4, rfl⟩
   obtain ⟨z, hz, rfl⟩ := of_map hi
   have hzb := hin z (List.mem_of_getElem? hz)
   refine ⟨_, rfl, _, rfl, _, rfl, _, _, rfl, rfl, _, rfl, _, _, rfl, rfl, q, g, -1000000 - z, 1000000 - z, rfl, hg.mono sH, ⟨by omega, by omega⟩, ⟨by omega, by omega⟩, fun H2 r hs2 hr2 => ?_⟩
   have hl2 := hs2 _ _ hl'
   refine ⟨_, rfl, .inl ⟨rfl, _, SqL.of hl2⟩, _, rfl, _, rfl, _, rfl, r, _, -z, rfl, hr2, fun H3 t hs3 ht hl3 => ?_⟩
   have hwb := hr2.2
   have hhl := KM.hand_len _ hwb (-z)
   refine ⟨t, rfl, ⟨_, SqL.of hl3⟩, fun Dd hDd => ?_⟩
   refine lc_list (xs := (KM.handL (KM.betweenF g (-1000000 - z) (1000000 - z)) (-z)).map V.int) (fun j H4 => Same H3 H4 ∧ H4 Dd = some (.lst ((((KM.handL (KM.betweenF g (-1000000 - z) (1000000 - z)) (-z)).take j).map fun y => z + y).map V.int))) ⟨Same.new hDd, by rw [upd_same]; rfl⟩ (fun j H4 _ h => SqL.of (h.1 _ _ hl3)) (fun j y H4 hj ⟨hs4, hl4⟩ => ?_) (fun H4 ⟨hs4, hl4⟩ => ?_)
   ·obtain ⟨u, hu, rfl⟩ := of_map hj
    have tt := map_step (F := fun y => z + y) (l := []) (z := u) (k := (KM.handL (KM.betweenF g (-1000000 - z) (1000000 - z)) (-z)).take j) (by rw [List.length_take]; omega) hDd hs4 hl4
    rw [← take_snoc hu] at tt
    exact ⟨rfl, _, rfl, _, rfl, _, _, rfl, rfl, tt⟩
   ·rw [List.length_map, List.take_length] at hl4
    have hl5 : H4 l = some (.lst ((KM.fewPlusL ((pyV f).nums.take i) g).map V.int)) := hs4 _ _ (hs3 _ _ hl2)
    refine ⟨l, Dd, _, _, rfl, rfl, hl5, hl4, ?_, fun a o e => ?_, ?_, _, _, rfl⟩
    ·rw [List.length_map, List.length_map, List.length_map, sizeLine_eq]
     have := fl i
     omega
    ·rw [upd_ne (ne_of_none e hl)]
     exact hs4 _ _ (hs3 _ _ (hs2 _ _ (sH _ _ e)))
    ·rw [upd_same, take_snoc hz, ← List.map_append]
     congr 3
     unfold KM.fewPlusL
     rw [List.flatMap_append, List.flatMap_cons, List.flatMap_nil, List.append_nil]
  ·rintro σ H' ⟨sH, hl', c3, c4, rfl⟩
   rw [List.length_map, List.take_length] at hl'
   refine ⟨_, rfl, l, _, rfl, hl', ?_, fun z hz => KM.inB_iff.mpr (KM.plusL_in hwg z hz), fun H2 r hs2 hv2 => ?_⟩
   ·have := fl (pyV f).nums.length
    rw [List.take_length] at this
    omega
   ·exact k H2 r (sH.trans hs2) ⟨hv2, KM.wf_ofList _⟩
theorem ok_plus {x : Fs} (D : Ds K mg x) : FnOk P w K mg base CX0 8 x.a_plus x.f_plus ["one", "other"] (spBin x.C (Vadomb.lift2 Vadomb.plus)) := by
 have G_is_few : FnOk P w K mg base CX0 7 _ _ ["value"] (spIsFew x.C) := (ok_isFew D.d_is_few D.cl.txt).mono (by decide)
 have G_few_plus : FnOk P w K mg base CX0 7 _ _ ["few", "other"] (spFewBin x.C KM.fewPlusL) := ok_few_plus D
 have G_made_of : FnOk P w K mg base CX0 7 _ _ ["lo", "hi", "modulus", "remainder", "zero"] (spMade x.C) := (ok_made_of D).mono (by decide)
 have G_greatest_divisor : FnOk P w K mg base CX0 7 _ _ ["one", "other"] spGcd := (ok_gcd D.d_greatest_divisor.fn).mono (by decide)
 refine D.d_plus.fn.ok sc_plus (fun vs H Q E h => ?_) (fun cdv A outer s H vs Q E hr h => ?_)
 ·obtain ⟨p, q, f, g, rfl, _⟩ := h
  rfl
 ·obtain ⟨p, q, f, g, rfl, hf, hg, k⟩ := h
  obtain ⟨hv, hwf⟩ := id hf
  obtain ⟨hw, hwg⟩ := id hg
  obtain ⟨d1, q1, h1, h2⟩ := id hv
  obtain ⟨d2, q2, h3, h4⟩ := id hw
  refine ⟨_, (pss_cons (ps_if (pt_val (pe_cD G_is_few hr D.d_is_few (pa_cons (pv 0) pa_nil))) (pss_one (ps_ret (pe_cD G_few_plus hr D.d_few_plus (pa_cons (pv 0) (pa_cons (pv 1) pa_nil))))) pss_nil)
 (pss_cons (ps_if (pt_val (pe_cD G_is_few hr D.d_is_few (pa_cons (pv 1) pa_nil))) (pss_one (ps_ret (pe_cD G_few_plus hr D.d_few_plus (pa_cons (pv 1) (pa_cons (pv 0) pa_nil))))) pss_nil)
 (pss_cons (ps_set (i := 2) sc_plus.nd rfl (Or.inl rfl) (pe_cD G_greatest_divisor hr D.d_greatest_divisor (pa_cons (pe_fld (pv 0) rfl) (pa_cons (pe_fld (pv 1) rfl) pa_nil))))
 (pss_cons (ps_set (i := 3) sc_plus.nd rfl (Or.inl rfl) (pe_op op_add (pe_fld (pv 0) rfl) (pe_fld (pv 1) rfl)))
 (pss_cons (ps_set (i := 4) sc_plus.nd rfl (Or.inl rfl) (pe_op op_add (pe_fld (pv 0) rfl) (pe_fld (pv 1) rfl)))
 (pss_one (ps_ret (pe_cD G_made_of hr D.d_made_of (pa_cons (pv 3) (pa_cons (pv 4) (pa_cons (pv 2) (pa_cons (pe_op op_add (pe_fld (pv 0) rfl) (pe_fld (pv 1) rfl)) (pa_cons pe_int pa_nil))))))))))))), ?_⟩
  refine ⟨_, rfl, p, _, rfl, hv, _, rfl, ?_⟩
  refine ifB (fun h6 => ?_) (fun h6 => ?_)
  ·refine ⟨_, rfl, _, rfl, p, q, f, g, rfl, hf, hg, h6, fun H' r hs hr2 => k H' r hs ?_⟩
   rw [nums_els hwf h6, (KM.few_plus hwf hwg ((few_dec f hwf).mp h6)).1] at hr2
   exact hr2
  refine ⟨_, rfl, q, _, rfl, hw, _, rfl, ?_⟩
  refine ifB (fun h7 => ?_) (fun h7 => ?_)
  ·refine ⟨_, rfl, _, rfl, q, p, g, f, rfl, hg, hf, h7, fun H' r hs hr2 => k H' r hs ?_⟩
   rw [nums_els hwg h7, (KM.few_plus hwg hwf ((few_dec g hwg).mp h7)).2] at hr2
   exact hr2
  rcases few_or f hwf with ⟨hs6, _⟩ | ⟨v, rfl, hmf⟩
  ·exact absurd hs6 h6
  rcases few_or g hwg with ⟨hs6, _⟩ | ⟨u, rfl, hmg⟩
  ·exact absurd hs6 h7
  have lv := lo_b hwf
  have lu := lo_b hwg
  have mv := mod_b hwf
  have mp := Nat.gcd_pos_of_pos_left u.mod hmf.m0
  have gle := Nat.gcd_le_left u.mod hmf.m0
  refine ⟨_, rfl, p, x.C, d1, _, _, rfl, h1, D.cl.txt.cl, D.cl.txt.nM, fl_modulus _ q1, _, rfl, q, x.C, d2, _, _, rfl, h3, D.cl.txt.cl, D.cl.txt.nM, fl_modulus _ q2, _, _, rfl, Int.natCast_nonneg _, Int.natCast_nonneg _, ?_⟩
  refine ⟨_, rfl, p, x.C, d1, _, _, rfl, h1, D.cl.txt.cl, D.cl.txt.nL, fl_least _ q1, _, rfl, q, x.C, d2, _, _, rfl, h3, D.cl.txt.cl, D.cl.txt.nL, fl_least _ q2, _, _, rfl, rfl, ?_⟩
  refine ⟨_, rfl, p, x.C, d1, _, _, rfl, h1, D.cl.txt.cl, D.cl.txt.nG, fl_greatest _ q1, _, rfl, q, x.C, d2, _, _, rfl, h3, D.cl.txt.cl, D.cl.txt.nG, fl_greatest _ q2, _, _, rfl, rfl, ?_⟩
  refine ⟨_, rfl, _, rfl, _, rfl, _, rfl, p, x.C, d1, _, _, rfl, h1, D.cl.txt.cl, D.cl.txt.nR, fl_remainder _ q1, _, rfl, q, x.C, d2, _, _, rfl, h3, D.cl.txt.cl, D.cl.txt.nR, fl_remainder _ q2, _, _, rfl, rfl, ?_⟩
  refine ⟨v.lo + u.lo, v.hi + u.hi, Nat.gcd v.mod u.mod, v.rem + u.rem, true, ?_, by omega, by omega, by omega, by omega, by omega, fun H' r hs hv2 => ?_⟩
  ·show [V.int _, V.int _, V.int ((Nat.gcd (v.mod : Int).toNat (u.mod : Int).toNat : Nat) : Int), V.int _, V.int 1] = _
   rw [Int.toNat_natCast, Int.toNat_natCast]
   rfl
  ·have e : Vadomb.lift2 Vadomb.plus (some v) (some u) = Vadomb.tidy (v.lo + u.lo) (v.hi + u.hi) (Nat.gcd v.mod u.mod) (v.rem + u.rem) true := by
    show Vadomb.plus v u = _
    unfold Vadomb.plus
    rw [hmf.nf, hmg.nf]
    dsimp only
    have ec : Vadomb.commonMod v.mod 0 u.mod 0 = Nat.gcd v.mod u.mod := by
     unfold Vadomb.commonMod
     show Nat.gcd (Nat.gcd v.mod u.mod) 0 = _
     exact Nat.gcd_zero_right _
    rw [ec]
    exact tidy_rem _ _ mp _ _
   refine k H' r hs ⟨?_, ?_⟩
   ·rw [e]; exact hv2
   ·rw [e]; exact KM.wf_tidy _ _ _ _ _
theorem ok_minus {x : Fs} (D : Ds K mg x) : FnOk P w K mg base CX0 9 x.a_minus x.f_minus ["one", "other"] (spBin x.C (Vadomb.lift2 Vadomb.minus)) := by
 have G_plus : FnOk P w K mg base CX0 8 _ _ ["one", "other"] (spBin x.C (Vadomb.lift2 Vadomb.plus)) := ok_plus D
 have G_negated : FnOk P w K mg base CX0 8 _ _ ["value"] (spUn x.C KM.negF) := (ok_negated D).mono (by decide)
 refine D.d_minus.fn.ok sc_minus (fun vs H Q E h => ?_) (fun cdv A outer s H vs Q E hr h => ?_)
 ·obtain ⟨p, q, f, g, rfl, _⟩ := h
  rfl
 ·obtain ⟨p, q, f, g, rfl, hf, hg, k⟩ := h
  refine ⟨_, (pss_one (ps_ret (pe_cD G_plus hr D.d_plus (pa_cons (pv 0) (pa_cons (pe_cD G_negated hr D.d_negated (pa_cons (pv 1) pa_nil)) pa_nil))))), ?_⟩
  refine ⟨_, rfl, _, rfl, q, g, rfl, hg, fun H1 r hs hr1 => ?_⟩
  refine ⟨p, r, f, _, rfl, hf.mono hs, hr1, fun H2 t hs2 ht => ?_⟩
  rw [← KM.minus_neg] at ht
  exact k H2 t (hs.trans hs2) ht
end
end Kv
namespace KM
open Vadomb
theorem least_min {a b c d m : Int} (h1 : m ∈ [a, b, c, d]) (h2 : ∀ y ∈ [a, b, c, d], m ≤ y) : m = leastOf [a, b, c, d] := by
 obtain ⟨q1, q2, q3⟩ := fold_min [a, b, c, d] a
 have e : leastOf [a, b, c, d] = [a, b, c, d].foldl (fun m t => if t < m then t else m) a := rfl
 rw [← e] at q1 q2 q3
 have := q3 m h1
 have : m ≤ leastOf [a, b, c, d] := by
  rcases q1 with q | q
  ·rw [q]; exact h2 a (List.mem_cons_self ..)
  ·exact h2 _ q
 omega
theorem greatest_max {a b c d m : Int} (h1 : m ∈ [a, b, c, d]) (h2 : ∀ y ∈ [a, b, c, d], y ≤ m) : m = greatestOf [a, b, c, d] := by
 obtain ⟨q1, q2, q3⟩ := fold_max [a, b, c, d] a
 have e : greatestOf [a, b, c, d] = [a, b, c, d].foldl (fun m t => if m < t then t else m) a := rfl
 rw [← e] at q1 q2 q3
 have := q3 m h1
 have : greatestOf [a, b, c, d] ≤ m := by
  rcases q1 with q | q
  ·rw [q]; exact h2 a (List.mem_cons_self ..)
  ·exact h2 _ q
 omega
theorem mul_b {x y : Int} (hx : -1000000 ≤ x ∧ x ≤ 1000000) (hy : -1000000 ≤ y ∧ y ≤ 1000000) : -1000000000000 ≤ x * y ∧ x * y ≤ 1000000000000 := by
 have h : (x * y).natAbs ≤ 1000000 * 1000000 := by
  rw [Int.natAbs_mul]
  exact Nat.mul_le_mul (by omega) (by omega)
 omega
end KM
namespace Kv
open PySem PySem.Spec PyProof.Rows L2
open PySem.W (Codec)
section
variable {P : Program} {w : World} {K : PySem.W.Frag} {mg : Str → Option Value} {base : Heap}
theorem ok_few_times {x : Fs} (D : Ds K mg x) : FnOk P w K mg base CX0 7 x.a_few_times x.f_few_times ["few", "other"] (spFewBin x.C KM.fewTimesL) := by
 have G_between : FnOk P w K mg base CX0 6 _ _ ["value", "low", "high"] (spBetween x.C) := ok_between D
 have G_handful : FnOk P w K mg base CX0 6 _ _ ["value", "number"] (spHand x.C) := (ok_handful D).mono (by decide)
 have G_hull : FnOk P w K mg base CX0 6 _ _ ["numbers"] (spHull x.C) := ok_hull D
 obtain ⟨_, h_BOUND⟩ := D.cl.txt.h_BOUND
 refine D.d_few_times.fn.ok sc_few_times (fun vs H Q E h => ?_) (fun cdv A outer s H vs Q E hr h => ?_)
 ·obtain ⟨p, q, f, g, rfl, _⟩ := h
  rfl
 ·obtain ⟨p, q, f, g, rfl, hf, hg, h6, k⟩ := h
  obtain ⟨hv, hwf⟩ := id hf
  obtain ⟨hw, hwg⟩ := id hg
  obtain ⟨d1, q1, h1, h2⟩ := id hv
  have hin : ∀ z ∈ (pyV f).nums, -1000000 ≤ z ∧ z ≤ 1000000 := by
   rcases fact_cases f hwf with rfl | ⟨v, l, rfl, hl⟩ | ⟨v, rfl, hm⟩
   ·exact fun z hz => by cases hz
   ·rw [nums_few hl]; exact hl.inb
   ·exact absurd h6 (size_many hm)
  have hl6 : (pyV f).nums.length ≤ 6 := by
   rcases few_or f hwf with ⟨_, _, _, _, hl6, _⟩ | ⟨v, rfl, hm⟩
   ·exact hl6
   ·exact absurd h6 (size_many hm)
  refine ⟨_, (pss_cons (ps_set (i := 2) sc_few_times.nd rfl (Or.inl rfl) (pe_lst pa_nil))
 (pss_cons (ps_for PassesOwn.never rfl (pi_list (pe_fld (pv 0) rfl)) (pg_name (i := 3) sc_few_times.nd rfl (Or.inr rfl)) (pss_cons (ps_set (i := 4) sc_few_times.nd rfl (Or.inl rfl) (pe_ifExp (pt_cmpR op_eq (pv 3) pe_int (nomark _)) (pe_glob (v := .int 1000000) rfl h_BOUND ⟨_, rfl⟩) (pe_op op_fdivB (pe_glob (v := .int 1000000) rfl h_BOUND ⟨_, rfl⟩) (pe_callB call_abs (by rfl) D.cl.txt.abs boot_abs (pa_cons (pv 3) pa_nil)))))
 (pss_cons (ps_set (i := 5) sc_few_times.nd rfl (Or.inl rfl) (pe_cD G_between hr D.d_between (pa_cons (pv 1) (pa_cons (pe_un un_neg (pv 4)) (pa_cons (pv 4) pa_nil)))))
 (pss_one (ps_expr (pe_bm PySem.F.plainAttrs_list PySem.F.slot_list_extend PySem.F.type_list_extend mt_extend (pv 2) (pa_cons (pe_lc rfl sc_few_times.nd (pi_list (pe_cD G_handful hr D.d_handful (pa_cons (pv 5) (pa_cons pe_int pa_nil)))) (own := [("factor", 6)]) (blkOk_by (by rfl)) (fun _ _ _ _ _ => pg_name (i := 6) sc_few_times.nd rfl (Or.inl rfl)) (fun _ _ _ _ _ => pts_nil) (fun _ _ _ _ _ => (pe_op op_mul (pv 3) (pv 6)))) pa_nil)))))))
 (pss_one (ps_ret (pe_cD G_hull hr D.d_hull (pa_cons (pv 2) pa_nil)))))), ?_⟩
  refine ⟨Nat.zero_le _, fun l hl => ?_⟩
  have s0 : Same H (upd H l (.lst [])) := Same.new hl
  have h1' := s0 _ _ h1
  have fl : ∀ i, (KM.fewTimesL ((pyV f).nums.take i) g).length ≤ 48 := fun i => by
   have := KM.timesL_len (a := (pyV f).nums.take i) hwg
   rw [List.length_take] at this
   omega
  refine ⟨_, rfl, p, x.C, d1, _, _, rfl, h1', D.cl.txt.cl, D.cl.txt.nN, fl_numbers _ q1, q1, rfl, ⟨_, SqL.of (s0 _ _ h2)⟩, for_list (K := K) (a := q1) (xs := (pyV f).nums.map V.int) (fun i σ H' => Same H H' ∧ H' l = some (.lst ((KM.fewTimesL ((pyV f).nums.take i) g).map V.int)) ∧ ∃ c3 c4 c5 : Option V, σ = [some (.ref p), some (.ref q), some (.ref l), c3, c4, c5, none])
   ⟨s0, upd_same, none, none, none, rfl⟩ (fun i σ H' _ h => SqL.of (h.1 _ _ h2)) ?_ ?_⟩
  ·rintro i y σ H' hi ⟨sH, hl', c3, c4, c5, rfl⟩
   obtain ⟨z, hz, rfl⟩ := of_map hi
   have hzb := hin z (List.mem_of_getElem? hz)
   have hrb := KM.reach_b z
   refine ⟨_, rfl, rfl, _, rfl, ?_⟩
   refine ifJoin (v := .int (KM.reach z)) (fun e Q' k' => ?_) (fun e Q' k' => ?_) ?_
   ·have e0 := of_eqI e
    unfold KM.reach at k'
    rw [if_pos e0] at k'
    exact k'
   ·have e0 := of_neI e
    unfold KM.reach at k'
    rw [if_neg e0] at k'
    have ea : (if z < 0 then -z else z) = (z.natAbs : Int) := by split <;> omega
    refine ⟨_, rfl, _, rfl, _, _, rfl, rfl, ⟨by show (0 : Int) < (if z < 0 then -z else z); split <;> omega, by show (if z < 0 then -z else z) < _; split <;> omega⟩, ?_⟩
    show Q' (.int (1000000 / (if z < 0 then -z else z))) H'
    rw [ea]
    exact k'
   refine ⟨_, rfl, _, rfl, _, rfl, _, rfl, q, g, -(KM.reach z), KM.reach z, rfl, hg.mono sH, ⟨by omega, by omega⟩, ⟨by omega, by omega⟩, fun H2 r hs2 hr2 => ?_⟩
   have hl2 := hs2 _ _ hl'
   refine ⟨_, rfl, .inl ⟨rfl, _, SqL.of hl2⟩, _, rfl, r, _, 0, rfl, hr2, fun H3 t hs3 ht hl3 => ?_⟩
   have hwb := hr2.2
   have hhl := KM.hand_len _ hwb 0
   refine ⟨t, rfl, ⟨_, SqL.of hl3⟩, fun Dd hDd => ?_⟩
   refine lc_list (xs := (KM.handL (KM.betweenF g (-(KM.reach z)) (KM.reach z)) 0).map V.int) (fun j H4 => Same H3 H4 ∧ H4 Dd = some (.lst ((((KM.handL (KM.betweenF g (-(KM.reach z)) (KM.reach z)) 0).take j).map fun y => z * y).map V.int))) ⟨Same.new hDd, by rw [upd_same]; rfl⟩ (fun j H4 _ h => SqL.of (h.1 _ _ hl3)) (fun j y H4 hj ⟨hs4, hl4⟩ => ?_) (fun H4 ⟨hs4, hl4⟩ => ?_)
   ·obtain ⟨u, hu, rfl⟩ := of_map hj
    have tt := map_step (F := fun y => z * y) (l := []) (z := u) (k := (KM.handL (KM.betweenF g (-(KM.reach z)) (KM.reach z)) 0).take j) (by rw [List.length_take]; omega) hDd hs4 hl4
    rw [← take_snoc hu] at tt
    exact ⟨rfl, _, rfl, _, rfl, _, _, rfl, rfl, .inl ⟨by omega, by omega⟩, tt⟩
   ·rw [List.length_map, List.take_length] at hl4
    have hl5 : H4 l = some (.lst ((KM.fewTimesL ((pyV f).nums.take i) g).map V.int)) := hs4 _ _ (hs3 _ _ hl2)
    refine ⟨l, Dd, _, _, rfl, rfl, hl5, hl4, ?_, fun a o e => ?_, ?_, _, _, _, rfl⟩
    ·rw [List.length_map, List.length_map, List.length_map, sizeLine_eq]
     have := fl i
     omega
    ·rw [upd_ne (ne_of_none e hl)]
     exact hs4 _ _ (hs3 _ _ (hs2 _ _ (sH _ _ e)))
    ·rw [upd_same, take_snoc hz, ← List.map_append]
     congr 3
     unfold KM.fewTimesL
     rw [List.flatMap_append, List.flatMap_cons, List.flatMap_nil, List.append_nil]
  ·rintro σ H' ⟨sH, hl', c3, c4, c5, rfl⟩
   rw [List.length_map, List.take_length] at hl'
   refine ⟨_, rfl, l, _, rfl, hl', ?_, fun z hz => KM.inB_iff.mpr (KM.timesL_in hwg z hz), fun H2 r hs2 hv2 => ?_⟩
   ·have := fl (pyV f).nums.length
    rw [List.take_length] at this
    omega
   ·exact k H2 r (sH.trans hs2) ⟨hv2, KM.wf_ofList _⟩
theorem ok_times {x : Fs} (D : Ds K mg x) : FnOk P w K mg base CX0 8 x.a_times x.f_times ["one", "other"] (spBin x.C (Vadomb.lift2 Vadomb.times)) := by
 have G_is_few : FnOk P w K mg base CX0 7 _ _ ["value"] (spIsFew x.C) := (ok_isFew D.d_is_few D.cl.txt).mono (by decide)
 have G_few_times : FnOk P w K mg base CX0 7 _ _ ["few", "other"] (spFewBin x.C KM.fewTimesL) := ok_few_times D
 have G_made_of : FnOk P w K mg base CX0 7 _ _ ["lo", "hi", "modulus", "remainder", "zero"] (spMade x.C) := (ok_made_of D).mono (by decide)
 have G_greatest_divisor : FnOk P w K mg base CX0 7 _ _ ["one", "other"] spGcd := (ok_gcd D.d_greatest_divisor.fn).mono (by decide)
 refine D.d_times.fn.ok sc_times (fun vs H Q E h => ?_) (fun cdv A outer s H vs Q E hr h => ?_)
 ·obtain ⟨p, q, f, g, rfl, _⟩ := h
  rfl
 ·obtain ⟨p, q, f, g, rfl, hf, hg, k⟩ := h
  obtain ⟨hv, hwf⟩ := id hf
  obtain ⟨hw, hwg⟩ := id hg
  obtain ⟨d1, q1, h1, h2⟩ := id hv
  obtain ⟨d2, q2, h3, h4⟩ := id hw
  refine ⟨_, (pss_cons (ps_if (pt_val (pe_cD G_is_few hr D.d_is_few (pa_cons (pv 0) pa_nil))) (pss_one (ps_ret (pe_cD G_few_times hr D.d_few_times (pa_cons (pv 0) (pa_cons (pv 1) pa_nil))))) pss_nil)
 (pss_cons (ps_if (pt_val (pe_cD G_is_few hr D.d_is_few (pa_cons (pv 1) pa_nil))) (pss_one (ps_ret (pe_cD G_few_times hr D.d_few_times (pa_cons (pv 1) (pa_cons (pv 0) pa_nil))))) pss_nil)
 (pss_cons (ps_set (i := 2) sc_times.nd rfl (Or.inl rfl) (pe_lst (pa_cons (pe_op op_mul (pe_fld (pv 0) rfl) (pe_fld (pv 1) rfl)) (pa_cons (pe_op op_mul (pe_fld (pv 0) rfl) (pe_fld (pv 1) rfl)) (pa_cons (pe_op op_mul (pe_fld (pv 0) rfl) (pe_fld (pv 1) rfl)) (pa_cons (pe_op op_mul (pe_fld (pv 0) rfl) (pe_fld (pv 1) rfl)) pa_nil))))))
 (pss_cons (ps_set (i := 3) sc_times.nd rfl (Or.inl rfl) (pe_cD G_greatest_divisor hr D.d_greatest_divisor (pa_cons (pe_op op_mul (pe_fld (pv 0) rfl) (pe_fld (pv 1) rfl)) (pa_cons (pe_op op_mul (pe_fld (pv 0) rfl) (pe_fld (pv 1) rfl)) pa_nil))))
 (pss_cons (ps_set (i := 3) sc_times.nd rfl (Or.inl rfl) (pe_cD G_greatest_divisor hr D.d_greatest_divisor (pa_cons (pv 3) (pa_cons (pe_op op_mul (pe_fld (pv 1) rfl) (pe_fld (pv 0) rfl)) pa_nil))))
 (pss_cons (ps_set (i := 4) sc_times.nd rfl (Or.inl rfl) (pe_op op_mul (pe_fld (pv 0) rfl) (pe_fld (pv 1) rfl)))
 (pss_one (ps_ret (pe_cD G_made_of hr D.d_made_of (pa_cons (pe_callB (cr_min rfl) (by rfl) D.cl.txt.mgMin boot_min (pa_cons (pv 2) pa_nil)) (pa_cons (pe_callB (cr_max rfl) (by rfl) D.cl.txt.mgMax boot_max (pa_cons (pv 2) pa_nil)) (pa_cons (pv 3) (pa_cons (pv 4) (pa_cons (pe_callB (call_max2 rfl) (by rfl) D.cl.txt.mgMax boot_max (pa_cons (pe_fld (pv 0) rfl) (pa_cons (pe_fld (pv 1) rfl) pa_nil))) pa_nil)))))))))))))), ?_⟩
  refine ⟨_, rfl, p, _, rfl, hv, _, rfl, ?_⟩
  refine ifB (fun h6 => ?_) (fun h6 => ?_)
  ·refine ⟨_, rfl, _, rfl, p, q, f, g, rfl, hf, hg, h6, fun H' r hs hr2 => k H' r hs ?_⟩
   rw [nums_els hwf h6, (KM.few_times hwf hwg ((few_dec f hwf).mp h6)).1] at hr2
   exact hr2
  refine ⟨_, rfl, q, _, rfl, hw, _, rfl, ?_⟩
  refine ifB (fun h7 => ?_) (fun h7 => ?_)
  ·refine ⟨_, rfl, _, rfl, q, p, g, f, rfl, hg, hf, h7, fun H' r hs hr2 => k H' r hs ?_⟩
   rw [nums_els hwg h7, (KM.few_times hwg hwf ((few_dec g hwg).mp h7)).2] at hr2
   exact hr2
  rcases few_or f hwf with ⟨hs6, _⟩ | ⟨v, rfl, hmf⟩
  ·exact absurd hs6 h6
  rcases few_or g hwg with ⟨hs6, _⟩ | ⟨u, rfl, hmg⟩
  ·exact absurd hs6 h7
  have lv := lo_b hwf
  have lu := lo_b hwg
  have mv := hmf.mb
  have mu := hmg.mb
  have rv := hmf.rem0
  have ru := hmg.rem0
  have bv1 : -(2 ^ 64) < v.lo ∧ v.lo < 2 ^ 64 := ⟨by omega, by omega⟩
  have bv2 : -(2 ^ 64) < v.hi ∧ v.hi < 2 ^ 64 := ⟨by omega, by omega⟩
  have bm : -(2 ^ 64) < (v.mod : Int) ∧ (v.mod : Int) < 2 ^ 64 := ⟨by omega, by omega⟩
  have bmu : -(2 ^ 64) < (u.mod : Int) ∧ (u.mod : Int) < 2 ^ 64 := ⟨by omega, by omega⟩
  have br : -(2 ^ 64) < v.rem ∧ v.rem < 2 ^ 64 := ⟨by omega, by omega⟩
  refine ⟨_, rfl, p, x.C, d1, _, _, rfl, h1, D.cl.txt.cl, D.cl.txt.nL, fl_least _ q1, _, rfl, q, x.C, d2, _, _, rfl, h3, D.cl.txt.cl, D.cl.txt.nL, fl_least _ q2, _, _, rfl, rfl, .inl bv1, _, rfl, p, x.C, d1, _, _, rfl, h1, D.cl.txt.cl, D.cl.txt.nL, fl_least _ q1, _, rfl, q, x.C, d2, _, _, rfl, h3, D.cl.txt.cl, D.cl.txt.nG, fl_greatest _ q2, _, _, rfl, rfl, .inl bv1, _, rfl, p, x.C, d1, _, _, rfl, h1, D.cl.txt.cl, D.cl.txt.nG, fl_greatest _ q1, _, rfl, q, x.C, d2, _, _, rfl, h3, D.cl.txt.cl, D.cl.txt.nL, fl_least _ q2, _, _, rfl, rfl, .inl bv2, _, rfl, p, x.C, d1, _, _, rfl, h1, D.cl.txt.cl, D.cl.txt.nG, fl_greatest _ q1, _, rfl, q, x.C, d2, _, _, rfl, h3, D.cl.txt.cl, D.cl.txt.nG, fl_greatest _ q2, _, _, rfl, rfl, .inl bv2, by show 4 ≤ sizeLine; decide, fun c hc => ?_⟩
  have hsc := Same.new (o := HO.lst (([v.lo * u.lo, v.lo * u.hi, v.hi * u.lo, v.hi * u.hi] : List Int).map V.int)) hc
  have h1c := hsc _ _ h1
  have h3c := hsc _ _ h3
  have hcl : upd H c (HO.lst (([v.lo * u.lo, v.lo * u.hi, v.hi * u.lo, v.hi * u.hi] : List Int).map V.int)) c = some (.lst (([v.lo * u.lo, v.lo * u.hi, v.hi * u.lo, v.hi * u.hi] : List Int).map V.int)) := upd_same
  have n1 : 0 ≤ (v.mod : Int) * (u.mod : Int) := Int.mul_nonneg (by omega) (by omega)
  have n2 : 0 ≤ (v.mod : Int) * u.rem := Int.mul_nonneg (by omega) (by omega)
  have n3 : 0 ≤ (u.mod : Int) * v.rem := Int.mul_nonneg (by omega) (by omega)
  show tSeq _ _ _ [some (.ref p), some (.ref q), some (.ref c), none, none] (upd H c (HO.lst (([v.lo * u.lo, v.lo * u.hi, v.hi * u.lo, v.hi * u.hi] : List Int).map V.int)))
  generalize upd H c (HO.lst (([v.lo * u.lo, v.lo * u.hi, v.hi * u.lo, v.hi * u.hi] : List Int).map V.int)) = H1 at *
  refine ⟨_, rfl, p, x.C, d1, _, _, rfl, h1c, D.cl.txt.cl, D.cl.txt.nM, fl_modulus _ q1, _, rfl, q, x.C, d2, _, _, rfl, h3c, D.cl.txt.cl, D.cl.txt.nM, fl_modulus _ q2, _, _, rfl, rfl, .inl bm, _, rfl, p, x.C, d1, _, _, rfl, h1c, D.cl.txt.cl, D.cl.txt.nM, fl_modulus _ q1, _, rfl, q, x.C, d2, _, _, rfl, h3c, D.cl.txt.cl, D.cl.txt.nR, fl_remainder _ q2, _, _, rfl, rfl, .inl bm, _, _, rfl, n1, n2, ?_⟩
  refine ⟨_, rfl, _, rfl, q, x.C, d2, _, _, rfl, h3c, D.cl.txt.cl, D.cl.txt.nM, fl_modulus _ q2, _, rfl, p, x.C, d1, _, _, rfl, h1c, D.cl.txt.cl, D.cl.txt.nR, fl_remainder _ q1, _, _, rfl, rfl, .inl bmu, _, _, rfl, Int.natCast_nonneg _, n3, ?_⟩
  refine ⟨_, rfl, p, x.C, d1, _, _, rfl, h1c, D.cl.txt.cl, D.cl.txt.nR, fl_remainder _ q1, _, rfl, q, x.C, d2, _, _, rfl, h3c, D.cl.txt.cl, D.cl.txt.nR, fl_remainder _ q2, _, _, rfl, rfl, .inl br, ?_⟩
  refine ⟨_, rfl, c, _, rfl, SqL.of hcl, by show 0 < 4; omega, fun lo lo1 lo2 => ?_⟩
  refine ⟨_, rfl, c, _, rfl, SqL.of hcl, by show 0 < 4; omega, fun hi hi1 hi2 => ?_⟩
  refine ⟨_, rfl, _, rfl, _, rfl, p, x.C, d1, _, _, rfl, h1c, D.cl.txt.cl, D.cl.txt.nZ, fl_zero _ q1, _, rfl, q, x.C, d2, _, _, rfl, h3c, D.cl.txt.cl, D.cl.txt.nZ, fl_zero _ q2, _, _, rfl, ?_⟩
  have elo := KM.least_min lo1 lo2
  have ehi := KM.greatest_max hi1 hi2
  have cb : ∀ y ∈ [v.lo * u.lo, v.lo * u.hi, v.hi * u.lo, v.hi * u.hi], -1000000000000 ≤ y ∧ y ≤ 1000000000000 := fun y hy => by
   simp only [List.mem_cons, List.not_mem_nil, or_false] at hy
   rcases hy with rfl | rfl | rfl | rfl
   ·exact KM.mul_b lv.1 lu.1
   ·exact KM.mul_b lv.1 lu.2
   ·exact KM.mul_b lv.2 lu.1
   ·exact KM.mul_b lv.2 lu.2
  have blo := cb lo lo1
  have bhi := cb hi hi1
  have e1 : ((v.mod : Int) * (u.mod : Int)).toNat = v.mod * u.mod := by rw [← Int.natCast_mul, Int.toNat_natCast]
  have e2 : ((v.mod : Int) * u.rem).toNat = v.mod * u.rem.natAbs := by
   have : u.rem = (u.rem.natAbs : Int) := by omega
   rw [this, ← Int.natCast_mul, Int.toNat_natCast]
   rfl
  have e3 : ((u.mod : Int) * v.rem).toNat = u.mod * v.rem.natAbs := by
   have : v.rem = (v.rem.natAbs : Int) := by omega
   rw [this, ← Int.natCast_mul, Int.toNat_natCast]
   rfl
  have gp : 0 < Nat.gcd (Nat.gcd (v.mod * u.mod) (v.mod * u.rem.natAbs)) (u.mod * v.rem.natAbs) := Nat.gcd_pos_of_pos_left _ (Nat.gcd_pos_of_pos_left _ (Nat.mul_pos hmf.m0 hmg.m0))
  have gle : Nat.gcd (Nat.gcd (v.mod * u.mod) (v.mod * u.rem.natAbs)) (u.mod * v.rem.natAbs) ≤ 1000000 * 1000000 :=
   Nat.le_trans (Nat.gcd_le_left _ (Nat.gcd_pos_of_pos_left _ (Nat.mul_pos hmf.m0 hmg.m0))) (Nat.le_trans (Nat.gcd_le_left _ (Nat.mul_pos hmf.m0 hmg.m0)) (Nat.mul_le_mul (by omega) (by omega)))
  refine ⟨lo, hi, Nat.gcd (Nat.gcd (v.mod * u.mod) (v.mod * u.rem.natAbs)) (u.mod * v.rem.natAbs), v.rem * u.rem, (v.zero || u.zero), ?_, by omega, by omega, by omega, by omega, by omega, fun H' r hs hv2 => ?_⟩
  ·show [V.int _, V.int _, V.int ((Nat.gcd ((Nat.gcd ((v.mod : Int) * (u.mod : Int)).toNat ((v.mod : Int) * u.rem).toNat : Nat) : Int).toNat ((u.mod : Int) * v.rem).toNat : Nat) : Int), V.int _, V.int (if Vadomb.bool u.zero > Vadomb.bool v.zero then Vadomb.bool u.zero else Vadomb.bool v.zero)] = _
   rw [Int.toNat_natCast, e1, e2, e3, max_bool]
   rfl
  ·have e : Vadomb.lift2 Vadomb.times (some v) (some u) = Vadomb.tidy lo hi (Nat.gcd (Nat.gcd (v.mod * u.mod) (v.mod * u.rem.natAbs)) (u.mod * v.rem.natAbs)) (v.rem * u.rem) (v.zero || u.zero) := by
    show Vadomb.times v u = _
    unfold Vadomb.times
    rw [hmf.nf, hmg.nf]
    dsimp only
    rw [← elo, ← ehi]
    exact tidy_rem _ _ gp _ _
   refine k H' r (hsc.trans hs) ⟨?_, ?_⟩
   ·rw [e]; exact hv2
   ·rw [e]; exact KM.wf_tidy _ _ _ _ _
def spRem (C : Addr) : Sp := fun vs H Q _ => ∃ (p : Addr) (f : Vadomb.Fact) (n : Nat), vs = [.ref p, .int n] ∧ FAt C H p f ∧ 1 ≤ n ∧ n ≤ 99 ∧ ∀ (H' : Hp) (r : Addr), Same H H' → FAt C H' r (f.bind fun v => Vadomb.remOf v n) → Q (.ref r) H'
theorem ok_rem {x : Fs} (D : Ds K mg x) : FnOk P w K mg base CX0 7 x.a_rem x.f_rem ["value", "divisor"] (spRem x.C) := by
 have G_is_few : FnOk P w K mg base CX0 6 _ _ ["value"] (spIsFew x.C) := (ok_isFew D.d_is_few D.cl.txt).mono (by decide)
 have G_first_numbers : FnOk P w K mg base CX0 6 _ _ ["value", "limit"] (spFirst x.C) := (ok_first_numbers D).mono (by decide)
 have G_hull : FnOk P w K mg base CX0 6 _ _ ["numbers"] (spHull x.C) := ok_hull D
 have G_made_of : FnOk P w K mg base CX0 6 _ _ ["lo", "hi", "modulus", "remainder", "zero"] (spMade x.C) := (ok_made_of D).mono (by decide)
 have G_greatest_divisor : FnOk P w K mg base CX0 6 _ _ ["one", "other"] spGcd := (ok_gcd D.d_greatest_divisor.fn).mono (by decide)
 refine D.d_rem.fn.ok sc_rem (fun vs H Q E h => ?_) (fun cdv A outer s H vs Q E hr h => ?_)
 ·obtain ⟨p, f, n, rfl, _⟩ := h
  rfl
 ·obtain ⟨p, f, n, rfl, hf, hn1, hn2, k⟩ := h
  obtain ⟨hv, hwf⟩ := id hf
  obtain ⟨dx, q, h1, h2⟩ := id hv
  have hn' : (0 : Int) < (n : Int) := by omega
  rw [← KM.rem_py hwf hn1] at k
  have hwr : KM.Wf (KM.remPy f n) := by
   rw [KM.rem_py hwf hn1]
   cases f with
   | none => trivial
   | some v => exact KM.wf_remOf v n
  have hull_of : ∀ (H1 : Hp) (Dd : Addr) (L : List Int), L.length ≤ 99 → Same H H1 → H1 Dd = some (.lst ((L.map fun y => y % (n : Int)).map V.int)) → KM.remPy f n = Vadomb.ofList (L.map fun y => y % (n : Int)) → spHull x.C [.ref Dd] H1 Q E0 := fun H1 Dd L hL hs hl e => by
   refine ⟨Dd, _, rfl, hl, by rw [List.length_map]; omega, fun z hz => ?_, fun H2 r hs2 hv2 => ?_⟩
   ·obtain ⟨y, _, ey⟩ := List.mem_map.mp hz
    have := Int.emod_nonneg y (show (n : Int) ≠ 0 by omega)
    have := Int.emod_lt_of_pos y hn'
    exact KM.inB_iff.mpr ⟨by omega, by omega⟩
   ·refine k H2 r (hs.trans hs2) ⟨?_, hwr⟩
    rw [e]
    exact hv2
  refine ⟨_, (pss_cons (ps_if (pt_val (pe_cD G_is_few hr D.d_is_few (pa_cons (pv 0) pa_nil))) (pss_one (ps_ret (pe_cD G_hull hr D.d_hull (pa_cons (pe_lc rfl sc_rem.nd (pi_list (pe_fld (pv 0) rfl)) (own := [("number", 2)]) (blkOk_by (by rfl)) (fun _ _ _ _ _ => pg_name (i := 2) sc_rem.nd rfl (Or.inl rfl)) (fun _ _ _ _ _ => pts_nil) (fun _ _ _ _ _ => (pe_op op_mod (pv 2) (pv 1)))) pa_nil)))) pss_nil)
 (pss_cons (ps_if (pt_cmpR op_eq (pe_op op_fdivB (pe_fld (pv 0) rfl) (pv 1)) (pe_op op_fdivB (pe_fld (pv 0) rfl) (pv 1)) (nomark _)) (pss_one (ps_ret (pe_cD G_hull hr D.d_hull (pa_cons (pe_lc rfl sc_rem.nd (pi_list (pe_cD G_first_numbers hr D.d_first_numbers (pa_cons (pv 0) (pa_cons (pv 1) pa_nil)))) (own := [("number", 2)]) (blkOk_by (by rfl)) (fun _ _ _ _ _ => pg_name (i := 2) sc_rem.nd rfl (Or.inl rfl)) (fun _ _ _ _ _ => pts_nil) (fun _ _ _ _ _ => (pe_op op_mod (pv 2) (pv 1)))) pa_nil)))) pss_nil)
 (pss_one (ps_ret (pe_cD G_made_of hr D.d_made_of (pa_cons pe_int (pa_cons (pe_op op_sub (pv 1) pe_int) (pa_cons (pe_cD G_greatest_divisor hr D.d_greatest_divisor (pa_cons (pe_fld (pv 0) rfl) (pa_cons (pv 1) pa_nil))) (pa_cons (pe_fld (pv 0) rfl) (pa_cons pe_int pa_nil)))))))))), ?_⟩
  refine ⟨_, rfl, p, _, rfl, hv, _, rfl, ?_⟩
  rcases few_or f hwf with ⟨hs6, _, _, _, hl6, _⟩ | ⟨v, rfl, hm⟩
  ·rw [decide_eq_true hs6]
   refine iteT ⟨_, rfl, p, x.C, dx, _, _, rfl, h1, D.cl.txt.cl, D.cl.txt.nN, fl_numbers _ q, q, rfl, ⟨_, SqL.of h2⟩, fun Dd hDd => ?_⟩
   refine lc_list (xs := (pyV f).nums.map V.int) (fun i H' => Same H H' ∧ H' Dd = some (.lst ((((pyV f).nums.take i).map fun y => y % (n : Int)).map V.int))) ⟨Same.new hDd, by rw [upd_same]; rfl⟩ (fun i H' _ h => SqL.of (h.1 _ _ h2)) (fun i y H' hi' ⟨hs, hl⟩ => ?_) (fun H' ⟨hs, hl⟩ => ?_)
   ·obtain ⟨z, hz, rfl⟩ := of_map hi'
    have tt := map_step (F := fun y => y % (n : Int)) (l := []) (z := z) (k := (pyV f).nums.take i) (by rw [List.length_take]; omega) hDd hs hl
    rw [← take_snoc hz] at tt
    exact ⟨rfl, _, rfl, _, rfl, _, _, rfl, rfl, hn', tt⟩
   ·rw [List.length_map, List.take_length] at hl
    refine hull_of H' Dd _ (by omega) hs hl ?_
    rcases fact_cases f hwf with rfl | ⟨v, l, rfl, hl'⟩ | ⟨v, rfl, hm⟩
    ·rfl
    ·rw [nums_few hl']
     unfold KM.remPy
     dsimp only
     rw [hl'.few]
    ·exact absurd hs6 (size_many hm)
  ·rw [decide_eq_false (size_many hm)]
   refine iteF ?_
   have er : KM.remPy (some v) n = if v.lo / (n : Int) = v.hi / (n : Int) then Vadomb.ofList ((Vadomb.firstOf v n).map fun x => x % (n : Int)) else Vadomb.tidy 0 ((n : Int) - 1) (Nat.gcd v.mod n) v.rem true := by
    unfold KM.remPy
    dsimp only
    rw [hm.nf]
   refine ⟨_, rfl, p, x.C, dx, _, _, rfl, h1, D.cl.txt.cl, D.cl.txt.nL, fl_least _ q, _, rfl, _, _, rfl, rfl, ⟨hn', by omega⟩, _, rfl, p, x.C, dx, _, _, rfl, h1, D.cl.txt.cl, D.cl.txt.nG, fl_greatest _ q, _, rfl, _, _, rfl, rfl, ⟨hn', by omega⟩, rfl, _, rfl, ?_⟩
   refine ifEq (fun e => ?_) (fun e => ?_)
   ·have e' : v.lo / (n : Int) = v.hi / (n : Int) := e
    rw [if_pos e'] at er
    refine ⟨_, rfl, _, rfl, p, _, n, rfl, hf, by omega, fun H1 t hs ht hl hlen => ?_⟩
    refine ⟨t, rfl, ⟨_, SqL.of hl⟩, fun Dd hDd => ?_⟩
    refine lc_list (xs := (firstF (some v) n).map V.int) (fun i H' => Same H1 H' ∧ H' Dd = some (.lst ((((firstF (some v) n).take i).map fun y => y % (n : Int)).map V.int))) ⟨Same.new hDd, by rw [upd_same]; rfl⟩ (fun i H' _ h => SqL.of (h.1 _ _ hl)) (fun i y H' hi' ⟨hs2, hl2⟩ => ?_) (fun H' ⟨hs2, hl2⟩ => ?_)
    ·obtain ⟨z, hz, rfl⟩ := of_map hi'
     have tt := map_step (F := fun y => y % (n : Int)) (l := []) (z := z) (k := (firstF (some v) n).take i) (by rw [List.length_take]; omega) hDd hs2 hl2
     rw [← take_snoc hz] at tt
     exact ⟨rfl, _, rfl, _, rfl, _, _, rfl, rfl, hn', tt⟩
    ·rw [List.length_map, List.take_length] at hl2
     exact hull_of H' Dd _ (by omega) (hs.trans hs2) hl2 er
   ·have e' : ¬ v.lo / (n : Int) = v.hi / (n : Int) := e
    rw [if_neg e'] at er
    have gle := Nat.gcd_le_right v.mod hn1
    refine ⟨_, rfl, _, _, rfl, rfl, _, rfl, p, x.C, dx, _, _, rfl, h1, D.cl.txt.cl, D.cl.txt.nM, fl_modulus _ q, _, rfl, _, _, rfl, Int.natCast_nonneg _, Int.natCast_nonneg _, _, rfl, p, x.C, dx, _, _, rfl, h1, D.cl.txt.cl, D.cl.txt.nR, fl_remainder _ q, ?_⟩
    refine ⟨0, (n : Int) - 1, Nat.gcd v.mod n, v.rem, true, ?_, by omega, by omega, by omega, by omega, by omega, fun H' r hs hv2 => ?_⟩
    ·show [V.int _, V.int _, V.int ((Nat.gcd (v.mod : Int).toNat (n : Int).toNat : Nat) : Int), V.int _, V.int 1] = _
     rw [Int.toNat_natCast, Int.toNat_natCast]
     rfl
    ·refine k H' r hs ⟨?_, hwr⟩
     rw [er]
     exact hv2
end
end Kv
namespace Kv
open PySem PySem.Spec PyProof.Rows L2
open PySem.W (Codec)
theorem ifJoinW {t u : TS} {D : Ends} {σ : L2.St} {H : Hp} {b : Bool} (R : L2.St → Hp → Prop) (h1 : b = true → ∀ D' : Ends, (∀ σ' H', R σ' H' → D'.nx σ' H') → t D' σ H) (h2 : b = false → ∀ D' : Ends, (∀ σ' H', R σ' H' → D'.nx σ' H') → u D' σ H) (k : ∀ σ' H', R σ' H' → D.nx σ' H') : if b = true then t D σ H else u D σ H := by
 cases b with
 | true => exact iteT (h1 rfl D k)
 | false => exact iteF (h2 rfl D k)
theorem pe_fldK {X : Cx} {e : Expr} {f : Str} {ta : TE} {pos : Pos} (K : PySem.W.Frag) (he : PE X e ta) (hb : attributeBase e f X.env (eval e X.env) = eval e X.env) (hK : X.K = K := by rfl) : PE X (.Attribute e f pos) (tFld K ta f) := by
 subst hK
 exact pe_fld he hb
section
variable {P : Program} {w : World} {K : PySem.W.Frag} {mg : Str → Option Value} {base : Heap}
def spWithin (C : Addr) : Sp := fun vs H Q _ => ∃ (p q : Addr) (f g : Vadomb.Fact), vs = [.ref p, .ref q] ∧ FAt C H p f ∧ FAt C H q g ∧ ∀ H' : Hp, Same H H' → Q (.bl (Vadomb.withinF f g)) H'
theorem ok_is_within {x : Fs} (D : Ds K mg x) : FnOk P w K mg base CX0 7 x.a_is_within x.f_is_within ["one", "other"] (spWithin x.C) := by
 have G_meet : FnOk P w K mg base CX0 6 _ _ ["one", "other"] (spBin x.C Vadomb.meetF) := ok_meet D
 refine D.d_is_within.fn.ok sc_is_within (fun vs H Q E h => ?_) (fun cdv A outer s H vs Q E hr h => ?_)
 ·obtain ⟨p, q, f, g, rfl, _⟩ := h
  rfl
 ·obtain ⟨p, q, f, g, rfl, hf, hg, k⟩ := h
  obtain ⟨hv, hwf⟩ := id hf
  obtain ⟨d1, q1, h1, h2⟩ := id hv
  refine ⟨_, (pss_one (ps_ret (pe_cmpR op_eq (pe_fld (pe_cD G_meet hr D.d_meet (pa_cons (pv 0) (pa_cons (pv 1) pa_nil))) rfl) (pe_fld (pv 0) rfl) (nomark _)))), ?_⟩
  refine ⟨_, rfl, _, rfl, p, q, f, g, rfl, hf, hg, fun H1 r hs hr1 => ?_⟩
  obtain ⟨⟨dr, qr, r1, r2⟩, hwr⟩ := id hr1
  have h1' := hs _ _ h1
  refine ⟨r, x.C, dr, _, _, rfl, r1, D.cl.txt.cl, D.cl.txt.nS, fl_size _ qr, _, rfl, p, x.C, d1, _, _, rfl, h1', D.cl.txt.cl, D.cl.txt.nS, fl_size _ q1, rfl, ?_⟩
  have e : decide (V.int (pyV (Vadomb.meetF f g)).size = V.int (pyV f).size) = Vadomb.withinF f g := by
   rw [dec_eqI, size_py, size_py]
   have hw := KM.within_size hwf hg.2
   cases hb : Vadomb.withinF f g with
   | true => exact decide_eq_true (by rw [hw.mpr hb])
   | false =>
    refine decide_eq_false fun q => ?_
    have := hw.mp (by omega)
    rw [hb] at this
    cases this
  have kk := k H1 hs
  rw [← e] at kk
  exact kk
def spWiden (C : Addr) : Sp := fun vs H Q _ => ∃ (p q t : Addr) (f g : Vadomb.Fact) (ts : List Int), vs = [.ref p, .ref q, .ref t] ∧ FAt C H p f ∧ FAt C H q g ∧ H t = some (.lst (ts.map V.int)) ∧ ts.length ≤ 60 ∧ (∀ z ∈ ts, -1000000 ≤ z ∧ z ≤ 1000000) ∧
 ∀ (H' : Hp) (r : Addr), Same H H' → FAt C H' r (Vadomb.widenF ts f g) → Q (.ref r) H'
theorem ok_widen {x : Fs} (D : Ds K mg x) : FnOk P w K mg base CX0 8 x.a_widen x.f_widen ["value", "other", "thresholds"] (spWiden x.C) := by
 have G_is_few : FnOk P w K mg base CX0 7 _ _ ["value"] (spIsFew x.C) := (ok_isFew D.d_is_few D.cl.txt).mono (by decide)
 have G_is_within : FnOk P w K mg base CX0 7 _ _ ["one", "other"] (spWithin x.C) := ok_is_within D
 have G_join : FnOk P w K mg base CX0 7 _ _ ["one", "other"] (spBin x.C Vadomb.joinF) := ok_join D
 have G_made_of : FnOk P w K mg base CX0 7 _ _ ["lo", "hi", "modulus", "remainder", "zero"] (spMade x.C) := (ok_made_of D).mono (by decide)
 obtain ⟨_, h_BOUND⟩ := D.cl.txt.h_BOUND
 refine D.d_widen.fn.ok sc_widen (fun vs H Q E h => ?_) (fun cdv A outer s H vs Q E hr h => ?_)
 ·obtain ⟨p, q, t, f, g, ts, rfl, _⟩ := h
  rfl
 ·obtain ⟨p, q, t, f, g, ts, rfl, hf, hg, ht, htl, htb, k⟩ := h
  obtain ⟨hv, hwf⟩ := id hf
  obtain ⟨d1, q1, h1, h2⟩ := id hv
  have hww := KM.wf_widenF (ts := ts) hwf hg.2
  refine ⟨_, (pss_cons (ps_if (pt_cmpR op_eq (pe_fld (pv 0) rfl) pe_int (nomark _)) (pss_one (ps_ret (pv 1))) pss_nil)
 (pss_cons (ps_if (pt_val (pe_cD G_is_within hr D.d_is_within (pa_cons (pv 1) (pa_cons (pv 0) pa_nil)))) (pss_one (ps_ret (pv 0))) pss_nil)
 (pss_cons (ps_set (i := 3) sc_widen.nd rfl (Or.inr rfl) (pe_cD G_join hr D.d_join (pa_cons (pv 0) (pa_cons (pv 1) pa_nil))))
 (pss_cons (ps_if (pt_val (pe_cD G_is_few hr D.d_is_few (pa_cons (pv 3) pa_nil))) (pss_one (ps_ret (pv 3))) pss_nil)
 (pss_cons (ps_set (i := 4) sc_widen.nd rfl (Or.inl rfl) (pe_fld (pv 3) rfl))
 (pss_cons (ps_if (pt_cmpR op_lt (pv 4) (pe_fld (pv 0) rfl) (nomark _)) (pss_one (ps_set (i := 4) sc_widen.nd rfl (Or.inl rfl) (pe_callB (cr_max rfl) (by rfl) D.cl.txt.mgMax boot_max (pa_cons (pe_op op_cat (pe_lst (pa_cons (pe_un un_neg (pe_glob (v := .int 1000000) rfl h_BOUND ⟨_, rfl⟩)) pa_nil)) (pe_lc rfl sc_widen.nd (pi_list (pv 2)) (own := [("threshold", 5)]) (blkOk_by (by rfl)) (fun _ _ _ _ _ => pg_name (i := 5) sc_widen.nd rfl (Or.inl rfl)) (fun _ _ _ _ _ => (pts_one (pt_cmpR op_le (pv 5) (pe_fldK K (pv 3) rfl) (nomark _)))) (fun _ _ _ _ _ => (pv 5)))) pa_nil)))) pss_nil)
 (pss_cons (ps_set (i := 6) sc_widen.nd rfl (Or.inl rfl) (pe_fld (pv 3) rfl))
 (pss_cons (ps_if (pt_cmpR op_gt (pv 6) (pe_fld (pv 0) rfl) (nomark _)) (pss_one (ps_set (i := 6) sc_widen.nd rfl (Or.inl rfl) (pe_callB (cr_min rfl) (by rfl) D.cl.txt.mgMin boot_min (pa_cons (pe_op op_cat (pe_lst (pa_cons (pe_glob (v := .int 1000000) rfl h_BOUND ⟨_, rfl⟩) pa_nil)) (pe_lc rfl sc_widen.nd (pi_list (pv 2)) (own := [("threshold", 5)]) (blkOk_by (by rfl)) (fun _ _ _ _ _ => pg_name (i := 5) sc_widen.nd rfl (Or.inl rfl)) (fun _ _ _ _ _ => (pts_one (pt_cmpR op_ge (pv 5) (pe_fldK K (pv 3) rfl) (nomark _)))) (fun _ _ _ _ _ => (pv 5)))) pa_nil)))) pss_nil)
 (pss_one (ps_ret (pe_cD G_made_of hr D.d_made_of (pa_cons (pv 4) (pa_cons (pv 6) (pa_cons (pe_fld (pv 3) rfl) (pa_cons (pe_fld (pv 3) rfl) (pa_cons (pe_fld (pv 3) rfl) pa_nil)))))))))))))))), ?_⟩
  refine ⟨_, rfl, p, x.C, d1, _, _, rfl, h1, D.cl.txt.cl, D.cl.txt.nS, fl_size _ q1, rfl, _, rfl, ?_⟩
  refine ifEq (fun e => ?_) (fun e => ?_)
  ·have ef := (size_zero hwf).mp e
   subst ef
   exact ⟨_, rfl, k H q (Same.refl H) hg⟩
  cases f with
  | none => exact absurd rfl e
  | some v =>
  refine ⟨_, rfl, _, rfl, q, p, g, some v, rfl, hg, hf, fun H1 hs1 => ?_⟩
  refine ⟨_, rfl, ?_⟩
  cases hb : Vadomb.withinF g (some v) with
  | true =>
   refine iteT ⟨_, rfl, k H1 p hs1 ?_⟩
   have e2 : Vadomb.widenF ts (some v) g = some v := by
    cases g with
    | none => rfl
    | some u =>
     show Vadomb.widen ts v u = _
     unfold Vadomb.widen
     have hb' : Vadomb.within u v = true := hb
     rw [if_pos hb']
   rw [e2]
   exact hf.mono hs1
  | false =>
  refine iteF ?_
  cases g with
  | none => cases hb
  | some u =>
  have hb' : Vadomb.within u v = false := hb
  refine ⟨_, rfl, _, rfl, p, q, some v, some u, rfl, hf.mono hs1, hg.mono hs1, fun H2 r hs2 hr2 => ?_⟩
  have ew : Vadomb.widenF ts (some v) (some u) = (Vadomb.join v u).bind fun j => match j.few with
    | some _ => some j
    | none => Vadomb.tidy (if j.lo < v.lo then Vadomb.downTo ts j.lo else j.lo) (if v.hi < j.hi then Vadomb.upTo ts j.hi else j.hi) j.mod j.rem j.zero := by
   show Vadomb.widen ts v u = _
   unfold Vadomb.widen
   rw [if_neg (by rw [hb']; exact Bool.false_ne_true)]
   rfl
  have hr2' : FAt x.C H2 r (Vadomb.join v u) := hr2
  clear hr2
  rw [ew] at k hww
  generalize Vadomb.join v u = J at *
  obtain ⟨hvj, hwj⟩ := id hr2'
  refine ⟨_, rfl, r, _, rfl, hvj, _, rfl, ?_⟩
  have s2 : Same H H2 := hs1.trans hs2
  rcases few_or J hwj with ⟨hs6, _⟩ | ⟨j, rfl, hmj⟩
  ·rw [decide_eq_true hs6]
   refine iteT ⟨_, rfl, k H2 r s2 ?_⟩
   rcases fact_cases J hwj with rfl | ⟨j, l, rfl, hl⟩ | ⟨j, rfl, hm⟩
   ·exact hr2'
   ·show FAt x.C H2 r (match j.few with | some _ => some j | none => _)
    rw [hl.few]
    exact hr2'
   ·exact absurd hs6 (size_many hm)
  rw [decide_eq_false (size_many hmj)]
  refine iteF ?_
  obtain ⟨dj, qj, hj1, hj2⟩ := id hvj
  have ek : ((some j : Vadomb.Fact).bind fun j => match j.few with
    | some _ => some j
    | none => Vadomb.tidy (if j.lo < v.lo then Vadomb.downTo ts j.lo else j.lo) (if v.hi < j.hi then Vadomb.upTo ts j.hi else j.hi) j.mod j.rem j.zero) = Vadomb.tidy (if j.lo < v.lo then Vadomb.downTo ts j.lo else j.lo) (if v.hi < j.hi then Vadomb.upTo ts j.hi else j.hi) j.mod j.rem j.zero := by
   show (match j.few with | some _ => some j | none => _) = _
   rw [hmj.nf]
  rw [ek] at k hww
  have h1' := s2 _ _ h1
  have ht2 := s2 _ _ ht
  have lj := lo_b hwj
  have mj := mod_b hwj
  have dlow : ∀ m, m ∈ (-1000000) :: ts.filter (fun t => decide (t ≤ j.lo)) → -1000000 ≤ m ∧ m ≤ 1000000 := fun m hm => by
   rcases List.mem_cons.mp hm with e | hm
   ·omega
   ·exact htb m (List.mem_filter.mp hm).1
  have dup : ∀ m, m ∈ 1000000 :: ts.filter (fun t => decide (j.hi ≤ t)) → -1000000 ≤ m ∧ m ≤ 1000000 := fun m hm => by
   rcases List.mem_cons.mp hm with e | hm
   ·omega
   ·exact htb m (List.mem_filter.mp hm).1
  refine ⟨_, rfl, r, x.C, dj, _, _, rfl, hj1, D.cl.txt.cl, D.cl.txt.nL, fl_least _ qj, ?_⟩
  refine ⟨_, rfl, _, rfl, p, x.C, d1, _, _, rfl, h1', D.cl.txt.cl, D.cl.txt.nL, fl_least _ q1, _, _, rfl, rfl, _, rfl, ?_⟩
  refine ifJoinW (fun σ' H' => Same H2 H' ∧ (-1000000 ≤ (if j.lo < v.lo then Vadomb.downTo ts j.lo else j.lo) ∧ (if j.lo < v.lo then Vadomb.downTo ts j.lo else j.lo) ≤ 1000000) ∧ σ' = [some (.ref p), some (.ref q), some (.ref t), some (.ref r), some (.int (if j.lo < v.lo then Vadomb.downTo ts j.lo else j.lo)), none, none]) (fun e D' k' => ?_) (fun e D' k' => ?_) ?_
  ·have e' : j.lo < v.lo := of_decide_eq_true e
   rw [if_pos e'] at k'
   refine ⟨_, rfl, by show 1 ≤ sizeLine; decide, fun a ha => ?_⟩
   have sa : Same H2 (upd H2 a (.lst [V.int (-1000000)])) := Same.new ha
   have hta := sa _ _ ht2
   refine ⟨_, rfl, t, rfl, ⟨_, SqL.of hta⟩, fun Dd hDd => ?_⟩
   refine lc_list (xs := ts.map V.int) (fun i H' => Same (upd H2 a (.lst [V.int (-1000000)])) H' ∧ H' Dd = some (.lst (((ts.take i).filter fun t => decide (t ≤ j.lo)).map V.int))) ⟨Same.new hDd, by rw [upd_same]; rfl⟩ (fun i H' _ h => SqL.of (h.1 _ _ hta)) (fun i y H' hi' ⟨hs, hl⟩ => ?_) (fun H' ⟨hs, hl⟩ => ?_)
   ·obtain ⟨z, hz, rfl⟩ := of_map hi'
    have tt := keep_step (p := fun t => decide (t ≤ j.lo)) (by omega) hz hDd hs hl
    have hj1' := hs _ _ (sa _ _ hj1)
    refine ⟨rfl, _, rfl, _, rfl, r, x.C, dj, _, _, rfl, hj1', D.cl.txt.cl, D.cl.txt.nL, fl_least _ qj, _, _, rfl, rfl, _, rfl, ?_⟩
    refine ifB (c := z ≤ j.lo) (fun h => ?_) (fun h => ?_)
    ·rw [if_pos (decide_eq_true h)] at tt
     exact ⟨_, rfl, tt⟩
    ·rw [if_neg (by rw [decide_eq_false h]; exact Bool.false_ne_true)] at tt
     exact tt
   ·rw [List.length_map, List.take_length] at hl
    have hal : H' a = some (.lst [V.int (-1000000)]) := hs _ _ upd_same
    have hfl := List.length_filter_le (fun t => decide (t ≤ j.lo)) ts
    refine ⟨a, Dd, _, _, rfl, rfl, hal, hl, ?_, fun b hb => ?_⟩
    ·show 1 + _ ≤ _
     rw [List.length_map, sizeLine_eq]
     omega
    ·refine ⟨b, (-1000000) :: ts.filter (fun t => decide (t ≤ j.lo)), rfl, SqL.of upd_same, Nat.succ_pos _, fun m m1 m2 => ?_⟩
     have em := KM.down_max m1 m2
     have bm := dlow m m1
     rw [← em] at k'
     exact k' _ _ ⟨(sa.trans hs).trans (Same.new hb), bm, rfl⟩
  ·have e' : ¬ j.lo < v.lo := of_decide_eq_false e
   rw [if_neg e'] at k'
   exact k' _ _ ⟨Same.refl _, lj.1, rfl⟩
  rintro σ' H3 ⟨hs3, lb, rfl⟩
  have hj3 := hs3 _ _ hj1
  have h13 := hs3 _ _ h1'
  have ht3 := hs3 _ _ ht2
  generalize (if j.lo < v.lo then Vadomb.downTo ts j.lo else j.lo) = lo at *
  refine ⟨_, rfl, r, x.C, dj, _, _, rfl, hj3, D.cl.txt.cl, D.cl.txt.nG, fl_greatest _ qj, ?_⟩
  refine ⟨_, rfl, _, rfl, p, x.C, d1, _, _, rfl, h13, D.cl.txt.cl, D.cl.txt.nG, fl_greatest _ q1, _, _, rfl, rfl, _, rfl, ?_⟩
  refine ifJoinW (fun σ' H' => Same H3 H' ∧ (-1000000 ≤ (if v.hi < j.hi then Vadomb.upTo ts j.hi else j.hi) ∧ (if v.hi < j.hi then Vadomb.upTo ts j.hi else j.hi) ≤ 1000000) ∧ σ' = [some (.ref p), some (.ref q), some (.ref t), some (.ref r), some (.int lo), none, some (.int (if v.hi < j.hi then Vadomb.upTo ts j.hi else j.hi))]) (fun e D' k' => ?_) (fun e D' k' => ?_) ?_
  ·have e' : v.hi < j.hi := of_decide_eq_true e
   rw [if_pos e'] at k'
   refine ⟨by show 1 ≤ sizeLine; decide, fun a ha => ?_⟩
   have sa : Same H3 (upd H3 a (.lst [V.int 1000000])) := Same.new ha
   have hta := sa _ _ ht3
   refine ⟨_, rfl, t, rfl, ⟨_, SqL.of hta⟩, fun Dd hDd => ?_⟩
   refine lc_list (xs := ts.map V.int) (fun i H' => Same (upd H3 a (.lst [V.int 1000000])) H' ∧ H' Dd = some (.lst (((ts.take i).filter fun t => decide (j.hi ≤ t)).map V.int))) ⟨Same.new hDd, by rw [upd_same]; rfl⟩ (fun i H' _ h => SqL.of (h.1 _ _ hta)) (fun i y H' hi' ⟨hs, hl⟩ => ?_) (fun H' ⟨hs, hl⟩ => ?_)
   ·obtain ⟨z, hz, rfl⟩ := of_map hi'
    have tt := keep_step (p := fun t => decide (j.hi ≤ t)) (by omega) hz hDd hs hl
    have hj1' := hs _ _ (sa _ _ hj3)
    refine ⟨rfl, _, rfl, _, rfl, r, x.C, dj, _, _, rfl, hj1', D.cl.txt.cl, D.cl.txt.nG, fl_greatest _ qj, _, _, rfl, rfl, _, rfl, ?_⟩
    refine ifB (c := j.hi ≤ z) (fun h => ?_) (fun h => ?_)
    ·rw [if_pos (decide_eq_true h)] at tt
     exact ⟨_, rfl, tt⟩
    ·rw [if_neg (by rw [decide_eq_false h]; exact Bool.false_ne_true)] at tt
     exact tt
   ·rw [List.length_map, List.take_length] at hl
    have hal : H' a = some (.lst [V.int 1000000]) := hs _ _ upd_same
    have hfl := List.length_filter_le (fun t => decide (j.hi ≤ t)) ts
    refine ⟨a, Dd, _, _, rfl, rfl, hal, hl, ?_, fun b hb => ?_⟩
    ·show 1 + _ ≤ _
     rw [List.length_map, sizeLine_eq]
     omega
    ·refine ⟨b, 1000000 :: ts.filter (fun t => decide (j.hi ≤ t)), rfl, SqL.of upd_same, Nat.succ_pos _, fun m m1 m2 => ?_⟩
     have em := KM.up_min m1 m2
     have bm := dup m m1
     rw [← em] at k'
     exact k' _ _ ⟨(sa.trans hs).trans (Same.new hb), bm, rfl⟩
  ·have e' : ¬ v.hi < j.hi := of_decide_eq_false e
   rw [if_neg e'] at k'
   exact k' _ _ ⟨Same.refl _, lj.2, rfl⟩
  rintro σ' H4 ⟨hs4, ub, rfl⟩
  have hj4 := hs4 _ _ hj3
  generalize (if v.hi < j.hi then Vadomb.upTo ts j.hi else j.hi) = hi at *
  refine ⟨_, rfl, _, rfl, _, rfl, r, x.C, dj, _, _, rfl, hj4, D.cl.txt.cl, D.cl.txt.nM, fl_modulus _ qj, _, rfl, r, x.C, dj, _, _, rfl, hj4, D.cl.txt.cl, D.cl.txt.nR, fl_remainder _ qj, _, rfl, r, x.C, dj, _, _, rfl, hj4, D.cl.txt.cl, D.cl.txt.nZ, fl_zero _ qj, ?_⟩
  refine ⟨lo, hi, j.mod, j.rem, j.zero, ?_, by omega, by omega, by omega, by omega, by omega, fun H' r' hs hv2 => ?_⟩
  ·show [V.int _, V.int _, V.int _, V.int _, V.int (Vadomb.bool j.zero)] = _
   rw [bool_zI]
   rfl
  ·exact k H' r' (((s2.trans hs3).trans hs4).trans hs) ⟨hv2, hww⟩
end
end Kv
namespace Kv
open PySem PySem.Spec PyProof.Rows L2
open PySem.W (Codec)
def eachF (t : Int) (f g : Vadomb.Fact) : Vadomb.Fact × Vadomb.Fact :=
 if t = 0 then (KM.betweenF f (-1000000) ((pyV g).greatest - 1), KM.betweenF g ((pyV f).least + 1) 1000000)
 else if t = 1 then (KM.betweenF f (-1000000) (pyV g).greatest, KM.betweenF g (pyV f).least 1000000)
 else if t = 2 then (Vadomb.meetF f g, Vadomb.meetF f g)
 else (KM.unF f g, KM.unF g f)
def bothF (t : Int) (f g : Vadomb.Fact) : Vadomb.Fact × Vadomb.Fact := if ((eachF t f g).1.isNone || (eachF t f g).2.isNone) = true then (none, none) else eachF t f g
theorem un_none (g : Vadomb.Fact) : KM.unF none g = none := by
 unfold KM.unF
 cases g with
 | none => rfl
 | some w => dsimp only; cases Vadomb.only w <;> rfl
theorem each_none {t : Int} {f g : Vadomb.Fact} (h : f = none ∨ g = none) : (eachF t f g).1 = none ∨ (eachF t f g).2 = none := by
 unfold eachF
 rcases h with rfl | rfl
 ·refine .inl ?_
  split
  ·rfl
  ·split
   ·rfl
   ·split
    ·rfl
    ·exact un_none g
 ·refine .inr ?_
  split
  ·rfl
  ·split
   ·rfl
   ·split
    ·cases f <;> rfl
    ·exact un_none f
theorem both_tested {t : Int} (ht : 0 ≤ t ∧ t ≤ 3) {f g : Vadomb.Fact} (hf : KM.Wf f) (hg : KM.Wf g) : bothF t f g = KM.testedF (KM.testN t.toNat) f g := by
 have hn : f = none ∨ g = none → bothF t f g = (none, none) := fun h => by
  unfold bothF
  rw [if_pos]
  rw [Bool.or_eq_true]
  rcases each_none (t := t) h with e | e
  ·rw [e]; exact .inl rfl
  ·rw [e]; exact .inr rfl
 cases f with
 | none => rw [hn (.inl rfl)]; rfl
 | some v =>
  cases g with
  | none => rw [hn (.inr rfl)]; rfl
  | some u =>
   show bothF t (some v) (some u) = Vadomb.tested (KM.testN t.toNat) v u
   have e : eachF t (some v) (some u) = Vadomb.refined (KM.testN t.toNat) v u := by
    have h4 : t = 0 ∨ t = 1 ∨ t = 2 ∨ t = 3 := by omega
    rcases h4 with rfl | rfl | rfl | rfl
    ·show (KM.betweenF (some v) (-1000000) (u.hi - 1), KM.betweenF (some u) (v.lo + 1) 1000000) = (Vadomb.upToN v (u.hi - 1), Vadomb.fromN u (v.lo + 1))
     rw [KM.upTo_between hf, KM.from_between hg]
    ·show (KM.betweenF (some v) (-1000000) u.hi, KM.betweenF (some u) v.lo 1000000) = (Vadomb.upToN v u.hi, Vadomb.fromN u v.lo)
     rw [KM.upTo_between hf, KM.from_between hg]
    ·rfl
    ·show (KM.unF (some v) (some u), KM.unF (some u) (some v)) = ((match Vadomb.only u with | some n => Vadomb.butN v n | none => some v), match Vadomb.only v with | some n => Vadomb.butN u n | none => some u)
     unfold KM.unF
     dsimp only
     cases Vadomb.only u <;> cases Vadomb.only v <;> rfl
   unfold bothF Vadomb.tested
   rw [e]
theorem tested_same (u : Vadomb.Test) (v w : Vadomb.Value) : (Vadomb.tested u v w).2.isNone = (Vadomb.tested u v w).1.isNone := by
 unfold Vadomb.tested
 dsimp only
 split
 ·rfl
 ·rename_i h
  rw [Bool.or_eq_true, not_or, Bool.not_eq_true, Bool.not_eq_true] at h
  rw [h.1, h.2]
def lvF (t : Int) (f g : Vadomb.Fact) : Bool := (KM.testedF (KM.testN t.toNat) f g).1.isNone
def opF (t : Int) (f g : Vadomb.Fact) : Bool := if t = 0 then lvF 1 g f else if t = 1 then lvF 0 g f else if t = 2 then lvF 3 f g else lvF 2 f g
theorem verdict_eq {t : Int} (ht : 0 ≤ t ∧ t ≤ 3) (f g : Vadomb.Fact) : KM.verdictF (KM.testN t.toNat) f g = if lvF t f g = true then 0 else if opF t f g = true then 1 else 2 := by
 cases f with
 | none =>
  have : lvF t none g = true := rfl
  rw [if_pos this]
  rfl
 | some v =>
  cases g with
  | none =>
   have : lvF t (some v) none = true := rfl
   rw [if_pos this]
   rfl
  | some u =>
   have h4 : t = 0 ∨ t = 1 ∨ t = 2 ∨ t = 3 := by omega
   show ((Vadomb.verdict (KM.testN t.toNat) v u : Nat) : Int) = _
   unfold Vadomb.verdict
   have e1 : lvF t (some v) (some u) = (Vadomb.tested (KM.testN t.toNat) v u).1.isNone := rfl
   have e2 : opF t (some v) (some u) = (Vadomb.opposite (KM.testN t.toNat) v u).1.isNone := by
    rcases h4 with rfl | rfl | rfl | rfl
    ·exact (tested_same .le u v).symm
    ·exact (tested_same .lt u v).symm
    ·rfl
    ·rfl
   rw [e1, e2]
   split
   ·rfl
   ·split <;> rfl
theorem ifBV {c : Bool} {A B : Prop} (h1 : c = true → A) (h2 : c = false → B) : if c = true then A else B := by
 cases c with
 | true => exact iteT (h1 rfl)
 | false => exact iteF (h2 rfl)
section
variable {P : Program} {w : World} {K : PySem.W.Frag} {mg : Str → Option Value} {base : Heap}
theorem ok_left_unequal {x : Fs} (D : Ds K mg x) : FnOk P w K mg base CX0 8 x.a_left_unequal x.f_left_unequal ["value", "other"] (spBin x.C KM.unF) := by
 have G_is_few : FnOk P w K mg base CX0 7 _ _ ["value"] (spIsFew x.C) := (ok_isFew D.d_is_few D.cl.txt).mono (by decide)
 have G_without : FnOk P w K mg base CX0 7 _ _ ["value", "number"] (spWithout x.C) := ok_without D
 refine D.d_left_unequal.fn.ok sc_left_unequal (fun vs H Q E h => ?_) (fun cdv A outer s H vs Q E hr h => ?_)
 ·obtain ⟨p, q, f, g, rfl, _⟩ := h
  rfl
 ·obtain ⟨p, q, f, g, rfl, hf, hg, k⟩ := h
  obtain ⟨hv, hwf⟩ := id hf
  obtain ⟨hw, hwg⟩ := id hg
  obtain ⟨d1, q1, h1, h2⟩ := id hv
  obtain ⟨d2, q2, h3, h4⟩ := id hw
  refine ⟨_, (pss_cons (ps_if (pt_cmpR op_ne (pe_fld (pv 1) rfl) pe_int (nomark _)) (pss_one (ps_ret (pv 0))) pss_nil)
 (pss_cons (ps_set (i := 2) sc_left_unequal.nd rfl (Or.inl rfl) (pe_fld (pv 1) rfl))
 (pss_cons (ps_if (PW.pt (pw_or (pt_val (pe_cD G_is_few hr D.d_is_few (pa_cons (pv 0) pa_nil))) (pw_or1 (pt_cmpR op_in_seq (pv 2) (pe_tup (pa_cons pe_int (pa_cons (pe_fld (pv 0) rfl) (pa_cons (pe_fld (pv 0) rfl) pa_nil)))) (by with_unfolding_all rfl))))) (pss_one (ps_ret (pe_cD G_without hr D.d_without (pa_cons (pv 0) (pa_cons (pv 2) pa_nil))))) pss_nil)
 (pss_one (ps_ret (pv 0)))))), ?_⟩
  refine ⟨_, rfl, q, x.C, d2, _, _, rfl, h3, D.cl.txt.cl, D.cl.txt.nS, fl_size _ q2, rfl, _, rfl, ?_⟩
  refine ifNe (fun e => ?_) (fun e => ?_)
  ·have eu : KM.unF f g = f := by
    unfold KM.unF
    cases g with
    | none => rfl
    | some u =>
     dsimp only
     cases ho : Vadomb.only u with
     | none => rfl
     | some n =>
      have := (KM.only_size hwg n ho).1
      exact absurd (show ((Vadomb.count u : Nat) : Int) = 1 by omega) e
   refine ⟨_, rfl, k H p (Same.refl H) ?_⟩
   rw [eu]
   exact hf
  cases g with
  | none => exact absurd e (by show ¬ (0 : Int) = 1; omega)
  | some u =>
  have ec : ((Vadomb.count u : Nat) : Int) = 1 := e
  cases ho : Vadomb.only u with
  | none => exact absurd (show Vadomb.count u = 1 by omega) (KM.only_none hwg ho)
  | some n =>
  have hlo := (KM.only_size hwg n ho).2
  have eu : KM.unF f (some u) = f.bind fun v => Vadomb.butN v n := by
   unfold KM.unF
   dsimp only
   rw [ho]
  have hwu := KM.wf_un hwf (some u)
  rw [eu] at k hwu
  have lu := lo_b hwg
  refine ⟨_, rfl, q, x.C, d2, _, _, rfl, h3, D.cl.txt.cl, D.cl.txt.nL, fl_least _ q2, ?_⟩
  show tSeq _ _ _ [some (.ref p), some (.ref q), some (.int u.lo)] H
  rw [hlo]
  refine ⟨_, rfl, p, _, rfl, hv, _, rfl, ?_⟩
  rcases few_or f hwf with ⟨hs6, _⟩ | ⟨v, rfl, hm⟩
  ·rw [decide_eq_true hs6]
   refine iteT (iteT ⟨_, rfl, _, rfl, p, f, n, rfl, hf, ⟨by omega, by omega⟩, fun H' r hs hr2 => k H' r hs ?_⟩)
   rcases fact_cases f hwf with rfl | ⟨v, l, rfl, hl⟩ | ⟨v, rfl, hm⟩
   ·exact hr2
   ·show FAt x.C H' r (Vadomb.butN v n)
    rw [KM.but_few hl]
    exact hr2
   ·exact absurd hs6 (size_many hm)
  ·rw [decide_eq_false (size_many hm)]
   refine iteF ⟨_, rfl, _, rfl, p, x.C, d1, _, _, rfl, h1, D.cl.txt.cl, D.cl.txt.nL, fl_least _ q1, _, rfl, p, x.C, d1, _, _, rfl, h1, D.cl.txt.cl, D.cl.txt.nG, fl_greatest _ q1, by show 3 ≤ sizeLine; decide, fun t ht => ?_⟩
   refine ⟨t, ([0, v.lo, v.hi] : List Int).map V.int, rfl, .inr (SqT.of upd_same), rfl, flat_ints _, _, rfl, ?_⟩
   have st : Same H (upd H t (.tup (([0, v.lo, v.hi] : List Int).map V.int))) := Same.new ht
   have eb : (Vadomb.butN v n) = if n = 0 ∨ n = v.lo ∨ n = v.hi then KM.withoutF (some v) n else some v := KM.but_many hm n
   have ein : inV (.int n) (([0, v.lo, v.hi] : List Int).map V.int) = decide (n = 0 ∨ n = v.lo ∨ n = v.hi) := by
    rw [inV_ints]
    by_cases hc : n = 0 ∨ n = v.lo ∨ n = v.hi
    ·rw [decide_eq_true hc, List.contains_iff_mem]
     simpa using hc
    ·rw [decide_eq_false hc]
     rw [← Bool.not_eq_true, List.contains_iff_mem]
     simpa using hc
   show if inV (.int n) (([0, v.lo, v.hi] : List Int).map V.int) = true then _ else _
   rw [ein]
   refine ifB (fun hc => ?_) (fun hc => ?_)
   ·rw [if_pos hc] at eb
    refine ⟨_, rfl, _, rfl, p, _, n, rfl, hf.mono st, ⟨by omega, by omega⟩, fun H' r hs hr2 => k H' r (st.trans hs) ?_⟩
    show FAt x.C H' r (Vadomb.butN v n)
    rw [eb]
    exact hr2
   ·rw [if_neg hc] at eb
    refine ⟨_, rfl, k _ p st ?_⟩
    show FAt x.C _ p (Vadomb.butN v n)
    rw [eb]
    exact hf.mono st
def spPair (C : Addr) (F : Int → Vadomb.Fact → Vadomb.Fact → Vadomb.Fact × Vadomb.Fact) : Sp := fun vs H Q _ => ∃ (t : Int) (p q : Addr) (f g : Vadomb.Fact), vs = [.int t, .ref p, .ref q] ∧ (0 ≤ t ∧ t ≤ 3) ∧ FAt C H p f ∧ FAt C H q g ∧
 ∀ (H' : Hp) (r a b : Addr), Same H H' → H' r = some (.tup [.ref a, .ref b]) → FAt C H' a (F t f g).1 → FAt C H' b (F t f g).2 → Q (.ref r) H'
theorem ok_left_of_each {x : Fs} (D : Ds K mg x) : FnOk P w K mg base CX0 9 x.a_left_of_each x.f_left_of_each ["which", "one", "other"] (spPair x.C eachF) := by
 have G_between : FnOk P w K mg base CX0 8 _ _ ["value", "low", "high"] (spBetween x.C) := (ok_between D).mono (by decide)
 have G_meet : FnOk P w K mg base CX0 8 _ _ ["one", "other"] (spBin x.C Vadomb.meetF) := (ok_meet D).mono (by decide)
 have G_left_unequal : FnOk P w K mg base CX0 8 _ _ ["value", "other"] (spBin x.C KM.unF) := ok_left_unequal D
 obtain ⟨_, h_BOUND⟩ := D.cl.txt.h_BOUND
 obtain ⟨_, h_LESS⟩ := D.cl.txt.h_LESS
 obtain ⟨_, h_LESS_OR_EQUAL⟩ := D.cl.txt.h_LESS_OR_EQUAL
 obtain ⟨_, h_EQUAL⟩ := D.cl.txt.h_EQUAL
 refine D.d_left_of_each.fn.ok sc_left_of_each (fun vs H Q E h => ?_) (fun cdv A outer s H vs Q E hr h => ?_)
 ·obtain ⟨t, p, q, f, g, rfl, _⟩ := h
  rfl
 ·obtain ⟨t, p, q, f, g, rfl, ht, hf, hg, k⟩ := h
  obtain ⟨hv, hwf⟩ := id hf
  obtain ⟨hw, hwg⟩ := id hg
  obtain ⟨d1, q1, h1, h2⟩ := id hv
  obtain ⟨d2, q2, h3, h4⟩ := id hw
  have bnd : ∀ f : Vadomb.Fact, KM.Wf f → (-1000000 ≤ (pyV f).least ∧ (pyV f).least ≤ 1000000) ∧ -1000000 ≤ (pyV f).greatest ∧ (pyV f).greatest ≤ 1000000 := fun f h => by
   cases f with
   | none => show (-1000000 ≤ (0 : Int) ∧ (0 : Int) ≤ 1000000) ∧ -1000000 ≤ (0 : Int) ∧ (0 : Int) ≤ 1000000; omega
   | some v => exact lo_b h
  have bf := bnd f hwf
  have bg := bnd g hwg
  refine ⟨_, (pss_cons (ps_if (pt_cmpR op_eq (pv 0) (pe_glob (v := .int 0) rfl h_LESS ⟨_, rfl⟩) (nomark _)) (pss_one (ps_ret (pe_tup (pa_cons (pe_cD G_between hr D.d_between (pa_cons (pv 1) (pa_cons (pe_un un_neg (pe_glob (v := .int 1000000) rfl h_BOUND ⟨_, rfl⟩)) (pa_cons (pe_op op_sub (pe_fld (pv 2) rfl) pe_int) pa_nil)))) (pa_cons (pe_cD G_between hr D.d_between (pa_cons (pv 2) (pa_cons (pe_op op_add (pe_fld (pv 1) rfl) pe_int) (pa_cons (pe_glob (v := .int 1000000) rfl h_BOUND ⟨_, rfl⟩) pa_nil)))) pa_nil))))) pss_nil)
 (pss_cons (ps_if (pt_cmpR op_eq (pv 0) (pe_glob (v := .int 1) rfl h_LESS_OR_EQUAL ⟨_, rfl⟩) (nomark _)) (pss_one (ps_ret (pe_tup (pa_cons (pe_cD G_between hr D.d_between (pa_cons (pv 1) (pa_cons (pe_un un_neg (pe_glob (v := .int 1000000) rfl h_BOUND ⟨_, rfl⟩)) (pa_cons (pe_fld (pv 2) rfl) pa_nil)))) (pa_cons (pe_cD G_between hr D.d_between (pa_cons (pv 2) (pa_cons (pe_fld (pv 1) rfl) (pa_cons (pe_glob (v := .int 1000000) rfl h_BOUND ⟨_, rfl⟩) pa_nil)))) pa_nil))))) pss_nil)
 (pss_cons (ps_if (pt_cmpR op_eq (pv 0) (pe_glob (v := .int 2) rfl h_EQUAL ⟨_, rfl⟩) (nomark _)) (pss_cons (ps_set (i := 3) sc_left_of_each.nd rfl (Or.inl rfl) (pe_cD G_meet hr D.d_meet (pa_cons (pv 1) (pa_cons (pv 2) pa_nil))))
 (pss_one (ps_ret (pe_tup (pa_cons (pv 3) (pa_cons (pv 3) pa_nil)))))) pss_nil)
 (pss_one (ps_ret (pe_tup (pa_cons (pe_cD G_left_unequal hr D.d_left_unequal (pa_cons (pv 1) (pa_cons (pv 2) pa_nil))) (pa_cons (pe_cD G_left_unequal hr D.d_left_unequal (pa_cons (pv 2) (pa_cons (pv 1) pa_nil))) pa_nil)))))))), ?_⟩
  refine ⟨_, rfl, rfl, _, rfl, ?_⟩
  refine ifEq (fun e => ?_) (fun e => ?_)
  ·have ee : eachF t f g = (KM.betweenF f (-1000000) ((pyV g).greatest - 1), KM.betweenF g ((pyV f).least + 1) 1000000) := by unfold eachF; rw [if_pos e]
   rw [ee] at k
   refine ⟨_, rfl, _, rfl, _, rfl, q, x.C, d2, _, _, rfl, h3, D.cl.txt.cl, D.cl.txt.nG, fl_greatest _ q2, _, _, rfl, rfl, p, f, -1000000, _, rfl, hf, ⟨by omega, by omega⟩, ⟨by omega, by omega⟩, fun H1 a hs1 ha => ?_⟩
   have h1' := hs1 _ _ h1
   refine ⟨_, rfl, _, rfl, p, x.C, d1, _, _, rfl, h1', D.cl.txt.cl, D.cl.txt.nL, fl_least _ q1, _, _, rfl, rfl, q, g, _, 1000000, rfl, hg.mono hs1, ⟨by omega, by omega⟩, ⟨by omega, by omega⟩, fun H2 b hs2 hb => ?_⟩
   refine ⟨by show 2 ≤ sizeLine; decide, fun r hr' => ?_⟩
   have s3 := Same.new (o := HO.tup [V.ref a, V.ref b]) hr'
   exact k _ r a b ((hs1.trans hs2).trans s3) upd_same ((ha.mono hs2).mono s3) (hb.mono s3)
  refine ⟨_, rfl, rfl, _, rfl, ?_⟩
  refine ifEq (fun e2 => ?_) (fun e2 => ?_)
  ·have ee : eachF t f g = (KM.betweenF f (-1000000) (pyV g).greatest, KM.betweenF g (pyV f).least 1000000) := by unfold eachF; rw [if_neg e, if_pos e2]
   rw [ee] at k
   refine ⟨_, rfl, _, rfl, _, rfl, q, x.C, d2, _, _, rfl, h3, D.cl.txt.cl, D.cl.txt.nG, fl_greatest _ q2, p, f, -1000000, _, rfl, hf, ⟨by omega, by omega⟩, ⟨by omega, by omega⟩, fun H1 a hs1 ha => ?_⟩
   have h1' := hs1 _ _ h1
   refine ⟨_, rfl, _, rfl, p, x.C, d1, _, _, rfl, h1', D.cl.txt.cl, D.cl.txt.nL, fl_least _ q1, q, g, _, 1000000, rfl, hg.mono hs1, ⟨by omega, by omega⟩, ⟨by omega, by omega⟩, fun H2 b hs2 hb => ?_⟩
   refine ⟨by show 2 ≤ sizeLine; decide, fun r hr' => ?_⟩
   have s3 := Same.new (o := HO.tup [V.ref a, V.ref b]) hr'
   exact k _ r a b ((hs1.trans hs2).trans s3) upd_same ((ha.mono hs2).mono s3) (hb.mono s3)
  refine ⟨_, rfl, rfl, _, rfl, ?_⟩
  refine ifEq (fun e3 => ?_) (fun e3 => ?_)
  ·have ee : eachF t f g = (Vadomb.meetF f g, Vadomb.meetF f g) := by unfold eachF; rw [if_neg e, if_neg e2, if_pos e3]
   rw [ee] at k
   refine ⟨_, rfl, _, rfl, p, q, f, g, rfl, hf, hg, fun H1 a hs1 ha => ?_⟩
   refine ⟨_, rfl, _, rfl, by show 2 ≤ sizeLine; decide, fun r hr' => ?_⟩
   have s3 := Same.new (o := HO.tup [V.ref a, V.ref a]) hr'
   exact k _ r a a (hs1.trans s3) upd_same (ha.mono s3) (ha.mono s3)
  ·have ee : eachF t f g = (KM.unF f g, KM.unF g f) := by unfold eachF; rw [if_neg e, if_neg e2, if_neg e3]
   rw [ee] at k
   refine ⟨_, rfl, _, rfl, p, q, f, g, rfl, hf, hg, fun H1 a hs1 ha => ?_⟩
   refine ⟨_, rfl, _, rfl, q, p, g, f, rfl, hg.mono hs1, hf.mono hs1, fun H2 b hs2 hb => ?_⟩
   refine ⟨by show 2 ≤ sizeLine; decide, fun r hr' => ?_⟩
   have s3 := Same.new (o := HO.tup [V.ref a, V.ref b]) hr'
   exact k _ r a b ((hs1.trans hs2).trans s3) upd_same ((ha.mono hs2).mono s3) (hb.mono s3)
theorem size_isNone {f : Vadomb.Fact} (h : KM.Wf f) : decide (V.int (pyV f).size = V.int 0) = f.isNone := by
 rw [dec_eqI]
 cases f with
 | none => rfl
 | some v => exact decide_eq_false (by have := size_pos h; omega)
theorem ok_left_of_both {x : Fs} (D : Ds K mg x) : FnOk P w K mg base CX0 10 x.a_left_of_both x.f_left_of_both ["which", "one", "other"] (spPair x.C fun t f g => KM.testedF (KM.testN t.toNat) f g) := by
 have G_left_of_each : FnOk P w K mg base CX0 9 _ _ ["which", "one", "other"] (spPair x.C eachF) := ok_left_of_each D
 have G_few_of : FnOk P w K mg base CX0 9 _ _ ["rising"] (spFewOf x.C) := (ok_few_of D).mono (by decide)
 refine D.d_left_of_both.fn.ok sc_left_of_both (fun vs H Q E h => ?_) (fun cdv A outer s H vs Q E hr h => ?_)
 ·obtain ⟨t, p, q, f, g, rfl, _⟩ := h
  rfl
 ·obtain ⟨t, p, q, f, g, rfl, ht, hf, hg, k⟩ := h
  dsimp only at k
  rw [← both_tested ht hf.2 hg.2] at k
  refine ⟨_, (pss_cons (ps_set (i := 3) sc_left_of_both.nd rfl (Or.inl rfl) (pe_cD G_left_of_each hr D.d_left_of_each (pa_cons (pv 0) (pa_cons (pv 1) (pa_cons (pv 2) pa_nil)))))
 (pss_cons (ps_if (PW.pt (pw_or (pt_cmpR op_eq (pe_fld (pe_ix ix_tup (pv 3) pe_int (fun _ _ => rfl)) rfl) pe_int (nomark _)) (pw_or1 (pt_cmpR op_eq (pe_fld (pe_ix ix_tup (pv 3) pe_int (fun _ _ => rfl)) rfl) pe_int (nomark _))))) (pss_one (ps_ret (pe_tup (pa_cons (pe_cD G_few_of hr D.d_few_of (pa_cons (pe_lst pa_nil) pa_nil)) (pa_cons (pe_cD G_few_of hr D.d_few_of (pa_cons (pe_lst pa_nil) pa_nil)) pa_nil))))) pss_nil)
 (pss_one (ps_ret (pv 3))))), ?_⟩
  refine ⟨_, rfl, _, rfl, _, rfl, t, p, q, f, g, rfl, ht, hf, hg, fun H1 r a b hs hr1 ha hb => ?_⟩
  obtain ⟨⟨da, qa, a1, a2⟩, hwa⟩ := id ha
  obtain ⟨⟨db, qb, b1, b2⟩, hwb⟩ := id hb
  refine ⟨_, rfl, r, _, _, _, rfl, rfl, SqT.of hr1, atI_nat (j := 0) rfl, a, x.C, da, _, _, rfl, a1, D.cl.txt.cl, D.cl.txt.nS, fl_size _ qa, rfl, _, rfl, ?_⟩
  refine ifOrT ((eachF t f g).2.isNone) (fun e Q' k' => ?_) ?_
  ·refine ⟨_, rfl, r, _, _, _, rfl, rfl, SqT.of hr1, atI_nat (j := 1) rfl, b, x.C, db, _, _, rfl, b1, D.cl.txt.cl, D.cl.txt.nS, fl_size _ qb, rfl, _, rfl, ?_⟩
   rw [← size_isNone hwb] at k'
   exact k'
  show if (decide (V.int (pyV (eachF t f g).1).size = V.int 0) || (eachF t f g).2.isNone) = true then _ else _
  rw [size_isNone hwa]
  refine ifBV ?_ ?_
  ·intro e
   have eb : bothF t f g = (none, none) := by unfold bothF; rw [if_pos e]
   rw [eb] at k
   refine ⟨Nat.zero_le _, fun l hl => ⟨l, [], rfl, upd_same, List.Pairwise.nil, fun H2 p1 hs2 hv1 => ?_⟩⟩
   refine ⟨Nat.zero_le _, fun l2 hl2 => ⟨l2, [], rfl, upd_same, List.Pairwise.nil, fun H3 p2 hs3 hv2 => ?_⟩⟩
   refine ⟨by show 2 ≤ sizeLine; decide, fun t' ht' => ?_⟩
   have s2 := (Same.new (o := HO.lst []) hl).trans hs2
   have s3 := (Same.new (o := HO.lst []) hl2).trans hs3
   have s4 := Same.new (o := HO.tup [V.ref p1, V.ref p2]) ht'
   exact k _ t' p1 p2 (((hs.trans s2).trans s3).trans s4) upd_same ⟨(hv1.mono s3).mono s4, trivial⟩ ⟨hv2.mono s4, trivial⟩
  ·intro e
   have eb : bothF t f g = eachF t f g := by unfold bothF; rw [if_neg (by rw [e]; exact Bool.false_ne_true)]
   rw [eb] at k
   exact ⟨_, rfl, k H1 r a b hs hr1 ha hb⟩
def spTestB (C : Addr) (F : Int → Vadomb.Fact → Vadomb.Fact → V) : Sp := fun vs H Q _ => ∃ (t : Int) (p q : Addr) (f g : Vadomb.Fact), vs = [.int t, .ref p, .ref q] ∧ (0 ≤ t ∧ t ≤ 3) ∧ FAt C H p f ∧ FAt C H q g ∧ ∀ H' : Hp, Same H H' → Q (F t f g) H'
theorem ok_leaves_none {x : Fs} (D : Ds K mg x) : FnOk P w K mg base CX0 11 x.a_leaves_none x.f_leaves_none ["which", "one", "other"] (spTestB x.C fun t f g => .bl (lvF t f g)) := by
 have G_left_of_both : FnOk P w K mg base CX0 10 _ _ ["which", "one", "other"] (spPair x.C fun t f g => KM.testedF (KM.testN t.toNat) f g) := ok_left_of_both D
 refine D.d_leaves_none.fn.ok sc_leaves_none (fun vs H Q E h => ?_) (fun cdv A outer s H vs Q E hr h => ?_)
 ·obtain ⟨t, p, q, f, g, rfl, _⟩ := h
  rfl
 ·obtain ⟨t, p, q, f, g, rfl, ht, hf, hg, k⟩ := h
  refine ⟨_, (pss_one (ps_ret (pe_cmpR op_eq (pe_fld (pe_ix ix_tup (pe_cD G_left_of_both hr D.d_left_of_both (pa_cons (pv 0) (pa_cons (pv 1) (pa_cons (pv 2) pa_nil)))) pe_int (fun _ _ => rfl)) rfl) pe_int (nomark _)))), ?_⟩
  refine ⟨_, rfl, _, rfl, _, rfl, t, p, q, f, g, rfl, ht, hf, hg, fun H1 r a b hs hr1 ha hb => ?_⟩
  obtain ⟨⟨da, qa, a1, a2⟩, hwa⟩ := id ha
  refine ⟨r, _, _, _, rfl, rfl, SqT.of hr1, atI_nat (j := 0) rfl, a, x.C, da, _, _, rfl, a1, D.cl.txt.cl, D.cl.txt.nS, fl_size _ qa, rfl, ?_⟩
  have kk : Q (.bl ((KM.testedF (KM.testN t.toNat) f g).1.isNone)) H1 := k H1 hs
  rw [← size_isNone hwa] at kk
  exact kk
theorem ok_leaves_none_opposite {x : Fs} (D : Ds K mg x) : FnOk P w K mg base CX0 12 x.a_leaves_none_opposite x.f_leaves_none_opposite ["which", "one", "other"] (spTestB x.C fun t f g => .bl (opF t f g)) := by
 have G_leaves_none : FnOk P w K mg base CX0 11 _ _ ["which", "one", "other"] (spTestB x.C fun t f g => .bl (lvF t f g)) := ok_leaves_none D
 obtain ⟨_, h_LESS⟩ := D.cl.txt.h_LESS
 obtain ⟨_, h_LESS_OR_EQUAL⟩ := D.cl.txt.h_LESS_OR_EQUAL
 obtain ⟨_, h_EQUAL⟩ := D.cl.txt.h_EQUAL
 obtain ⟨_, h_UNEQUAL⟩ := D.cl.txt.h_UNEQUAL
 refine D.d_leaves_none_opposite.fn.ok sc_leaves_none_opposite (fun vs H Q E h => ?_) (fun cdv A outer s H vs Q E hr h => ?_)
 ·obtain ⟨t, p, q, f, g, rfl, _⟩ := h
  rfl
 ·obtain ⟨t, p, q, f, g, rfl, ht, hf, hg, k⟩ := h
  refine ⟨_, (pss_cons (ps_if (pt_cmpR op_eq (pv 0) (pe_glob (v := .int 0) rfl h_LESS ⟨_, rfl⟩) (nomark _)) (pss_one (ps_ret (pe_cD G_leaves_none hr D.d_leaves_none (pa_cons (pe_glob (v := .int 1) rfl h_LESS_OR_EQUAL ⟨_, rfl⟩) (pa_cons (pv 2) (pa_cons (pv 1) pa_nil)))))) pss_nil)
 (pss_cons (ps_if (pt_cmpR op_eq (pv 0) (pe_glob (v := .int 1) rfl h_LESS_OR_EQUAL ⟨_, rfl⟩) (nomark _)) (pss_one (ps_ret (pe_cD G_leaves_none hr D.d_leaves_none (pa_cons (pe_glob (v := .int 0) rfl h_LESS ⟨_, rfl⟩) (pa_cons (pv 2) (pa_cons (pv 1) pa_nil)))))) pss_nil)
 (pss_cons (ps_if (pt_cmpR op_eq (pv 0) (pe_glob (v := .int 2) rfl h_EQUAL ⟨_, rfl⟩) (nomark _)) (pss_one (ps_ret (pe_cD G_leaves_none hr D.d_leaves_none (pa_cons (pe_glob (v := .int 3) rfl h_UNEQUAL ⟨_, rfl⟩) (pa_cons (pv 1) (pa_cons (pv 2) pa_nil)))))) pss_nil)
 (pss_one (ps_ret (pe_cD G_leaves_none hr D.d_leaves_none (pa_cons (pe_glob (v := .int 2) rfl h_EQUAL ⟨_, rfl⟩) (pa_cons (pv 1) (pa_cons (pv 2) pa_nil))))))))), ?_⟩
  dsimp only at k
  unfold opF at k
  refine ⟨_, rfl, rfl, _, rfl, ?_⟩
  refine ifEq (fun e => ?_) (fun e => ?_)
  ·rw [if_pos e] at k
   exact ⟨_, rfl, _, rfl, 1, q, p, g, f, rfl, ⟨by omega, by omega⟩, hg, hf, k⟩
  rw [if_neg e] at k
  refine ⟨_, rfl, rfl, _, rfl, ?_⟩
  refine ifEq (fun e => ?_) (fun e => ?_)
  ·rw [if_pos e] at k
   exact ⟨_, rfl, _, rfl, 0, q, p, g, f, rfl, ⟨by omega, by omega⟩, hg, hf, k⟩
  rw [if_neg e] at k
  refine ⟨_, rfl, rfl, _, rfl, ?_⟩
  refine ifEq (fun e => ?_) (fun e => ?_)
  ·rw [if_pos e] at k
   exact ⟨_, rfl, _, rfl, 3, p, q, f, g, rfl, ⟨by omega, by omega⟩, hf, hg, k⟩
  ·rw [if_neg e] at k
   exact ⟨_, rfl, _, rfl, 2, p, q, f, g, rfl, ⟨by omega, by omega⟩, hf, hg, k⟩
theorem ok_verdict {x : Fs} (D : Ds K mg x) : FnOk P w K mg base CX0 13 x.a_verdict x.f_verdict ["which", "one", "other"] (spTestB x.C fun t f g => .int (KM.verdictF (KM.testN t.toNat) f g)) := by
 have G_leaves_none : FnOk P w K mg base CX0 12 _ _ ["which", "one", "other"] (spTestB x.C fun t f g => .bl (lvF t f g)) := (ok_leaves_none D).mono (by decide)
 have G_leaves_none_opposite : FnOk P w K mg base CX0 12 _ _ ["which", "one", "other"] (spTestB x.C fun t f g => .bl (opF t f g)) := ok_leaves_none_opposite D
 obtain ⟨_, h_NEVER⟩ := D.cl.txt.h_NEVER
 obtain ⟨_, h_ALWAYS⟩ := D.cl.txt.h_ALWAYS
 obtain ⟨_, h_NOT_KNOWN⟩ := D.cl.txt.h_NOT_KNOWN
 refine D.d_verdict.fn.ok sc_verdict (fun vs H Q E h => ?_) (fun cdv A outer s H vs Q E hr h => ?_)
 ·obtain ⟨t, p, q, f, g, rfl, _⟩ := h
  rfl
 ·obtain ⟨t, p, q, f, g, rfl, ht, hf, hg, k⟩ := h
  dsimp only at k
  rw [verdict_eq ht f g] at k
  refine ⟨_, (pss_cons (ps_if (pt_val (pe_cD G_leaves_none hr D.d_leaves_none (pa_cons (pv 0) (pa_cons (pv 1) (pa_cons (pv 2) pa_nil))))) (pss_one (ps_ret (pe_glob (v := .int 0) rfl h_NEVER ⟨_, rfl⟩))) pss_nil)
 (pss_cons (ps_if (pt_val (pe_cD G_leaves_none_opposite hr D.d_leaves_none_opposite (pa_cons (pv 0) (pa_cons (pv 1) (pa_cons (pv 2) pa_nil))))) (pss_one (ps_ret (pe_glob (v := .int 1) rfl h_ALWAYS ⟨_, rfl⟩))) pss_nil)
 (pss_one (ps_ret (pe_glob (v := .int 2) rfl h_NOT_KNOWN ⟨_, rfl⟩))))), ?_⟩
  refine ⟨_, rfl, _, rfl, _, rfl, t, p, q, f, g, rfl, ht, hf, hg, fun H1 hs1 => ?_⟩
  refine ⟨_, rfl, ?_⟩
  refine ifBV (fun e => ?_) (fun e => ?_)
  ·rw [if_pos e] at k
   exact k H1 hs1
  rw [if_neg (by rw [e]; exact Bool.false_ne_true)] at k
  refine ⟨_, rfl, _, rfl, _, rfl, t, p, q, f, g, rfl, ht, hf.mono hs1, hg.mono hs1, fun H2 hs2 => ?_⟩
  refine ⟨_, rfl, ?_⟩
  refine ifBV (fun e => ?_) (fun e => ?_)
  ·rw [if_pos e] at k
   exact k H2 (hs1.trans hs2)
  ·rw [if_neg (by rw [e]; exact Bool.false_ne_true)] at k
   exact k H2 (hs1.trans hs2)
end
end Kv
namespace Kv
open PySem PySem.Spec PyProof.Rows L2
open PySem.W (Codec)
theorem told_len {f : Vadomb.Fact} (h : KM.Wf f) : (Vadomb.factTold f).length ≤ 20 := by
 cases f with
 | none => show 1 ≤ 20; omega
 | some v =>
  show ([1, v.lo, v.hi, (v.mod : Int), v.rem, Vadomb.bool v.zero] ++ (match v.few with | none => [0] | some l => Vadomb.listed l)).length ≤ 20
  rcases KM.wf_cases h with ⟨l, hl⟩ | hm
  ·rw [hl.few, List.length_append]
   have := hl.len
   show 6 + (l.length + 1) ≤ 20
   omega
  ·rw [hm.nf]
   show 7 ≤ 20
   omega
section
variable {P : Program} {w : World} {K : PySem.W.Frag} {mg : Str → Option Value} {base : Heap}
def okTwo (F : Int → Int → Int → Vadomb.Call) : Vadomb.Call → Prop := fun k => ∃ n a b, k = F n a b ∧ KM.Slot n ∧ KM.Slot a ∧ KM.Slot b
theorem ok_answer_plus {x : Fs} (D : Ds K mg x) : FnOk P w K mg base CX0 14 x.a_answer_plus x.f_answer_plus ["slots", "handed"] (spAnswer x.C (okTwo .plus)) := by
 have G_keep : FnOk P w K mg base CX0 13 _ _ ["slots", "new", "value"] (spKeep x.C) := (ok_keep D).mono (by decide)
 have G_plus : FnOk P w K mg base CX0 13 _ _ ["one", "other"] (spBin x.C (Vadomb.lift2 Vadomb.plus)) := (ok_plus D).mono (by decide)
 refine D.d_answer_plus.fn.ok sc_answer_plus (fun vs H Q E h => ?_) (fun cdv A outer s H vs Q E hr h => ?_)
 ·obtain ⟨sl, hd, s, k, rfl, _⟩ := h
  rfl
 ·obtain ⟨sl, hd, st, _, rfl, hS, hh, ⟨n, a, b, rfl, hn, ha, hb⟩, hok, k⟩ := h
  obtain ⟨ps, p, h1, h2, h3⟩ := hS.get ha.1 ha.2
  obtain ⟨ps', q, h1', h2', h3'⟩ := hS.get hb.1 hb.2
  rw [KM.plus_good hn ha hb] at k
  refine ⟨_, (pss_one (ps_ret (pe_cD G_keep hr D.d_keep (pa_cons (pv 0) (pa_cons (pe_ix ix_list (pv 1) pe_int (fun _ _ => rfl)) (pa_cons (pe_cD G_plus hr D.d_plus (pa_cons (pe_ix ix_list (pv 0) (pe_ix ix_list (pv 1) pe_int (fun _ _ => rfl)) (fun _ _ => rfl)) (pa_cons (pe_ix ix_list (pv 0) (pe_ix ix_list (pv 1) pe_int (fun _ _ => rfl)) (fun _ _ => rfl)) pa_nil))) pa_nil)))))), ?_⟩
  refine ⟨_, rfl, _, rfl, hd, _, _, _, rfl, rfl, SqL.of hh, ix_hand (j := 0) rfl, _, rfl, _, rfl, hd, _, _, _, rfl, rfl, SqL.of hh, ix_hand (j := 1) rfl, sl, _, _, _, rfl, rfl, SqL.of h1, h2, _, rfl, _, rfl, hd, _, _, _, rfl, rfl, SqL.of hh, ix_hand (j := 2) rfl, sl, _, _, _, rfl, rfl, SqL.of h1', h2', p, q, _, _, rfl, h3, h3', fun H' r hs hf => ?_⟩
  refine ⟨sl, r, n, st, _, rfl, hS.same hs, hn.1, hn.2, hf, fun H2 q2 kp hS2 hq2 hl2 => ?_⟩
  exact k H2 q2 ((hs.kept sl).trans kp) hS2 (hs.free hq2) hl2
theorem ok_answer_minus {x : Fs} (D : Ds K mg x) : FnOk P w K mg base CX0 14 x.a_answer_minus x.f_answer_minus ["slots", "handed"] (spAnswer x.C (okTwo .minus)) := by
 have G_keep : FnOk P w K mg base CX0 13 _ _ ["slots", "new", "value"] (spKeep x.C) := (ok_keep D).mono (by decide)
 have G_minus : FnOk P w K mg base CX0 13 _ _ ["one", "other"] (spBin x.C (Vadomb.lift2 Vadomb.minus)) := (ok_minus D).mono (by decide)
 refine D.d_answer_minus.fn.ok sc_answer_minus (fun vs H Q E h => ?_) (fun cdv A outer s H vs Q E hr h => ?_)
 ·obtain ⟨sl, hd, s, k, rfl, _⟩ := h
  rfl
 ·obtain ⟨sl, hd, st, _, rfl, hS, hh, ⟨n, a, b, rfl, hn, ha, hb⟩, hok, k⟩ := h
  obtain ⟨ps, p, h1, h2, h3⟩ := hS.get ha.1 ha.2
  obtain ⟨ps', q, h1', h2', h3'⟩ := hS.get hb.1 hb.2
  rw [KM.minus_good hn ha hb] at k
  refine ⟨_, (pss_one (ps_ret (pe_cD G_keep hr D.d_keep (pa_cons (pv 0) (pa_cons (pe_ix ix_list (pv 1) pe_int (fun _ _ => rfl)) (pa_cons (pe_cD G_minus hr D.d_minus (pa_cons (pe_ix ix_list (pv 0) (pe_ix ix_list (pv 1) pe_int (fun _ _ => rfl)) (fun _ _ => rfl)) (pa_cons (pe_ix ix_list (pv 0) (pe_ix ix_list (pv 1) pe_int (fun _ _ => rfl)) (fun _ _ => rfl)) pa_nil))) pa_nil)))))), ?_⟩
  refine ⟨_, rfl, _, rfl, hd, _, _, _, rfl, rfl, SqL.of hh, ix_hand (j := 0) rfl, _, rfl, _, rfl, hd, _, _, _, rfl, rfl, SqL.of hh, ix_hand (j := 1) rfl, sl, _, _, _, rfl, rfl, SqL.of h1, h2, _, rfl, _, rfl, hd, _, _, _, rfl, rfl, SqL.of hh, ix_hand (j := 2) rfl, sl, _, _, _, rfl, rfl, SqL.of h1', h2', p, q, _, _, rfl, h3, h3', fun H' r hs hf => ?_⟩
  refine ⟨sl, r, n, st, _, rfl, hS.same hs, hn.1, hn.2, hf, fun H2 q2 kp hS2 hq2 hl2 => ?_⟩
  exact k H2 q2 ((hs.kept sl).trans kp) hS2 (hs.free hq2) hl2
theorem ok_answer_times {x : Fs} (D : Ds K mg x) : FnOk P w K mg base CX0 14 x.a_answer_times x.f_answer_times ["slots", "handed"] (spAnswer x.C (okTwo .times)) := by
 have G_keep : FnOk P w K mg base CX0 13 _ _ ["slots", "new", "value"] (spKeep x.C) := (ok_keep D).mono (by decide)
 have G_times : FnOk P w K mg base CX0 13 _ _ ["one", "other"] (spBin x.C (Vadomb.lift2 Vadomb.times)) := (ok_times D).mono (by decide)
 refine D.d_answer_times.fn.ok sc_answer_times (fun vs H Q E h => ?_) (fun cdv A outer s H vs Q E hr h => ?_)
 ·obtain ⟨sl, hd, s, k, rfl, _⟩ := h
  rfl
 ·obtain ⟨sl, hd, st, _, rfl, hS, hh, ⟨n, a, b, rfl, hn, ha, hb⟩, hok, k⟩ := h
  obtain ⟨ps, p, h1, h2, h3⟩ := hS.get ha.1 ha.2
  obtain ⟨ps', q, h1', h2', h3'⟩ := hS.get hb.1 hb.2
  rw [KM.times_good hn ha hb] at k
  refine ⟨_, (pss_one (ps_ret (pe_cD G_keep hr D.d_keep (pa_cons (pv 0) (pa_cons (pe_ix ix_list (pv 1) pe_int (fun _ _ => rfl)) (pa_cons (pe_cD G_times hr D.d_times (pa_cons (pe_ix ix_list (pv 0) (pe_ix ix_list (pv 1) pe_int (fun _ _ => rfl)) (fun _ _ => rfl)) (pa_cons (pe_ix ix_list (pv 0) (pe_ix ix_list (pv 1) pe_int (fun _ _ => rfl)) (fun _ _ => rfl)) pa_nil))) pa_nil)))))), ?_⟩
  refine ⟨_, rfl, _, rfl, hd, _, _, _, rfl, rfl, SqL.of hh, ix_hand (j := 0) rfl, _, rfl, _, rfl, hd, _, _, _, rfl, rfl, SqL.of hh, ix_hand (j := 1) rfl, sl, _, _, _, rfl, rfl, SqL.of h1, h2, _, rfl, _, rfl, hd, _, _, _, rfl, rfl, SqL.of hh, ix_hand (j := 2) rfl, sl, _, _, _, rfl, rfl, SqL.of h1', h2', p, q, _, _, rfl, h3, h3', fun H' r hs hf => ?_⟩
  refine ⟨sl, r, n, st, _, rfl, hS.same hs, hn.1, hn.2, hf, fun H2 q2 kp hS2 hq2 hl2 => ?_⟩
  exact k H2 q2 ((hs.kept sl).trans kp) hS2 (hs.free hq2) hl2
theorem ok_answer_within {x : Fs} (D : Ds K mg x) : FnOk P w K mg base CX0 14 x.a_answer_within x.f_answer_within ["slots", "handed"] (spAnswer x.C fun k => ∃ a b, k = .within a b ∧ KM.Slot a ∧ KM.Slot b) := by
 have G_is_within : FnOk P w K mg base CX0 13 _ _ ["one", "other"] (spWithin x.C) := (ok_is_within D).mono (by decide)
 refine D.d_answer_within.fn.ok sc_answer_within (fun vs H Q E h => ?_) (fun cdv A outer s H vs Q E hr h => ?_)
 ·obtain ⟨sl, hd, s, k, rfl, _⟩ := h
  rfl
 ·obtain ⟨sl, hd, st, _, rfl, hS, hh, ⟨a, b, rfl, ha, hb⟩, hok, k⟩ := h
  obtain ⟨ps, p, h1, h2, h3⟩ := hS.get ha.1 ha.2
  obtain ⟨ps', q, h1', h2', h3'⟩ := hS.get hb.1 hb.2
  rw [KM.within_good ha hb] at k
  refine ⟨_, (pss_one (ps_ret (pe_lst (pa_cons (pe_ifExp (pt_val (pe_cD G_is_within hr D.d_is_within (pa_cons (pe_ix ix_list (pv 0) (pe_ix ix_list (pv 1) pe_int (fun _ _ => rfl)) (fun _ _ => rfl)) (pa_cons (pe_ix ix_list (pv 0) (pe_ix ix_list (pv 1) pe_int (fun _ _ => rfl)) (fun _ _ => rfl)) pa_nil)))) pe_int pe_int) pa_nil)))), ?_⟩
  refine ⟨_, rfl, _, rfl, hd, _, _, _, rfl, rfl, SqL.of hh, ix_hand (j := 0) rfl, sl, _, _, _, rfl, rfl, SqL.of h1, h2, _, rfl, _, rfl, hd, _, _, _, rfl, rfl, SqL.of hh, ix_hand (j := 1) rfl, sl, _, _, _, rfl, rfl, SqL.of h1', h2', p, q, _, _, rfl, h3, h3', fun H1 hs => ?_⟩
  refine ⟨_, rfl, ?_⟩
  refine ifJoin (v := .int (Vadomb.bool (Vadomb.withinF (Vadomb.factAt st a.toNat) (Vadomb.factAt st b.toNat)))) (fun e Q' k' => ?_) (fun e Q' k' => ?_) ?_
  ·rw [e] at k'
   exact k'
  ·rw [e] at k'
   exact k'
  refine ⟨by show 1 ≤ sizeLine; decide, fun r hr' => ?_⟩
  have s2 := hs.trans (Same.new (o := HO.lst [V.int (Vadomb.bool (Vadomb.withinF (Vadomb.factAt st a.toNat) (Vadomb.factAt st b.toNat)))]) hr')
  exact k _ r (s2.kept sl) (hS.same s2) (hs.free hr') upd_same
theorem ok_answer_verdict {x : Fs} (D : Ds K mg x) : FnOk P w K mg base CX0 14 x.a_answer_verdict x.f_answer_verdict ["slots", "handed"] (spAnswer x.C fun k => ∃ t a b, k = .verdict t a b ∧ (0 ≤ t ∧ t ≤ 3) ∧ KM.Slot a ∧ KM.Slot b) := by
 have G_verdict : FnOk P w K mg base CX0 13 _ _ ["which", "one", "other"] (spTestB x.C fun t f g => .int (KM.verdictF (KM.testN t.toNat) f g)) := ok_verdict D
 refine D.d_answer_verdict.fn.ok sc_answer_verdict (fun vs H Q E h => ?_) (fun cdv A outer s H vs Q E hr h => ?_)
 ·obtain ⟨sl, hd, s, k, rfl, _⟩ := h
  rfl
 ·obtain ⟨sl, hd, st, _, rfl, hS, hh, ⟨t, a, b, rfl, ht, ha, hb⟩, hok, k⟩ := h
  obtain ⟨ps, p, h1, h2, h3⟩ := hS.get ha.1 ha.2
  obtain ⟨ps', q, h1', h2', h3'⟩ := hS.get hb.1 hb.2
  rw [KM.verdict_good ht ha hb] at k
  refine ⟨_, (pss_one (ps_ret (pe_lst (pa_cons (pe_cD G_verdict hr D.d_verdict (pa_cons (pe_ix ix_list (pv 1) pe_int (fun _ _ => rfl)) (pa_cons (pe_ix ix_list (pv 0) (pe_ix ix_list (pv 1) pe_int (fun _ _ => rfl)) (fun _ _ => rfl)) (pa_cons (pe_ix ix_list (pv 0) (pe_ix ix_list (pv 1) pe_int (fun _ _ => rfl)) (fun _ _ => rfl)) pa_nil)))) pa_nil)))), ?_⟩
  refine ⟨_, rfl, hd, _, _, _, rfl, rfl, SqL.of hh, ix_hand (j := 0) rfl, _, rfl, _, rfl, hd, _, _, _, rfl, rfl, SqL.of hh, ix_hand (j := 1) rfl, sl, _, _, _, rfl, rfl, SqL.of h1, h2, _, rfl, _, rfl, hd, _, _, _, rfl, rfl, SqL.of hh, ix_hand (j := 2) rfl, sl, _, _, _, rfl, rfl, SqL.of h1', h2', t, p, q, _, _, rfl, ht, h3, h3', fun H1 hs => ?_⟩
  refine ⟨by show 1 ≤ sizeLine; decide, fun r hr' => ?_⟩
  have s2 := hs.trans (Same.new (o := HO.lst [V.int (KM.verdictF (KM.testN t.toNat) (Vadomb.factAt st a.toNat) (Vadomb.factAt st b.toNat))]) hr')
  exact k _ r (s2.kept sl) (hS.same s2) (hs.free hr') upd_same
theorem ok_answer_rem {x : Fs} (D : Ds K mg x) : FnOk P w K mg base CX0 14 x.a_answer_rem x.f_answer_rem ["slots", "handed"] (spAnswer x.C fun k => ∃ n a m, k = .rem n a m ∧ KM.Slot n ∧ KM.Slot a) := by
 have G_keep : FnOk P w K mg base CX0 13 _ _ ["slots", "new", "value"] (spKeep x.C) := (ok_keep D).mono (by decide)
 have G_rem : FnOk P w K mg base CX0 13 _ _ ["value", "divisor"] (spRem x.C) := (ok_rem D).mono (by decide)
 obtain ⟨_, h_MOST_DIVISOR⟩ := D.cl.txt.h_MOST_DIVISOR
 obtain ⟨_, h_NO_COUNT⟩ := D.cl.txt.h_NO_COUNT
 refine D.d_answer_rem.fn.ok sc_answer_rem (fun vs H Q E h => ?_) (fun cdv A outer s H vs Q E hr h => ?_)
 ·obtain ⟨sl, hd, s, k, rfl, _⟩ := h
  rfl
 ·obtain ⟨sl, hd, st, _, rfl, hS, hh, ⟨n, a, m, rfl, hn, ha⟩, hok, k⟩ := h
  obtain ⟨ps, p, h1, h2, h3⟩ := hS.get ha.1 ha.2
  rw [KM.rem_good hn ha] at k
  refine ⟨_, (pss_cons (ps_set (i := 2) sc_answer_rem.nd rfl (Or.inl rfl) (pe_ix ix_list (pv 1) pe_int (fun _ _ => rfl)))
 (pss_cons (ps_if (PW.pt (pw_or (pt_cmpR op_lt (pv 2) pe_int (nomark _)) (pw_or1 (pt_cmpR op_gt (pv 2) (pe_glob (v := .int 99) rfl h_MOST_DIVISOR ⟨_, rfl⟩) (nomark _))))) (pss_one (ps_ret (pe_lst (pa_cons (pe_glob (v := .int (-4)) rfl h_NO_COUNT ⟨_, rfl⟩) pa_nil)))) pss_nil)
 (pss_one (ps_ret (pe_cD G_keep hr D.d_keep (pa_cons (pv 0) (pa_cons (pe_ix ix_list (pv 1) pe_int (fun _ _ => rfl)) (pa_cons (pe_cD G_rem hr D.d_rem (pa_cons (pe_ix ix_list (pv 0) (pe_ix ix_list (pv 1) pe_int (fun _ _ => rfl)) (fun _ _ => rfl)) (pa_cons (pv 2) pa_nil))) pa_nil)))))))), ?_⟩
  refine ⟨_, rfl, hd, _, _, _, rfl, rfl, SqL.of hh, ix_hand (j := 2) rfl, ?_⟩
  refine ⟨_, rfl, _, _, rfl, rfl, _, rfl, ?_⟩
  refine ifOrT (decide ((99 : Int) < m)) (fun e Q' k' => ⟨_, rfl, _, _, rfl, rfl, _, rfl, k'⟩) ?_
  refine ifBT (fun hb => ?_) (fun hb => ?_)
  ·have hm : ¬ (1 ≤ m ∧ m ≤ 99) := fun q => by
    rw [decide_eq_false (by omega), decide_eq_false (by omega)] at hb
    cases hb
   rw [if_neg hm] at k
   exact ⟨by show 1 ≤ sizeLine; decide, fun q hq => Ans.new k hS hq⟩
  ·rw [Bool.or_eq_false_iff, decide_eq_false_iff_not, decide_eq_false_iff_not] at hb
   rw [if_pos (show 1 ≤ m ∧ m ≤ 99 by omega)] at k
   have em : m = ((m.toNat : Nat) : Int) := by omega
   refine ⟨_, rfl, _, rfl, hd, _, _, _, rfl, rfl, SqL.of hh, ix_hand (j := 0) rfl, _, rfl, _, rfl, hd, _, _, _, rfl, rfl, SqL.of hh, ix_hand (j := 1) rfl, sl, _, _, _, rfl, rfl, SqL.of h1, h2, _, rfl, p, _, m.toNat, ?_, h3, by omega, by omega, fun H' r hs hf => ?_⟩
   ·show [V.ref p, V.int m] = _
    rw [← em]
   ·refine ⟨sl, r, n, st, _, rfl, hS.same hs, hn.1, hn.2, hf, fun H2 q2 kp hS2 hq2 hl2 => ?_⟩
    exact k H2 q2 ((hs.kept sl).trans kp) hS2 (hs.free hq2) hl2
theorem ok_answer_widen {x : Fs} (D : Ds K mg x) : FnOk P w K mg base CX0 14 x.a_answer_widen x.f_answer_widen ["slots", "handed"] (spAnswer x.C fun k => ∃ n a b ts, k = .widen n a b ts ∧ KM.Slot n ∧ KM.Slot a ∧ KM.Slot b) := by
 have G_keep : FnOk P w K mg base CX0 13 _ _ ["slots", "new", "value"] (spKeep x.C) := (ok_keep D).mono (by decide)
 have G_widen : FnOk P w K mg base CX0 13 _ _ ["value", "other", "thresholds"] (spWiden x.C) := (ok_widen D).mono (by decide)
 have G_is_beyond : FnOk P w K mg base CX0 13 _ _ ["number"] spBeyond := (ok_beyond D.d_is_beyond D.cl.txt).mono (by decide)
 obtain ⟨_, h_MOST_THRESHOLDS⟩ := D.cl.txt.h_MOST_THRESHOLDS
 obtain ⟨_, h_OUT_OF_RANGE⟩ := D.cl.txt.h_OUT_OF_RANGE
 refine D.d_answer_widen.fn.ok sc_answer_widen (fun vs H Q E h => ?_) (fun cdv A outer s H vs Q E hr h => ?_)
 ·obtain ⟨sl, hd, s, k, rfl, _⟩ := h
  rfl
 ·obtain ⟨sl, hd, st, _, rfl, hS, hh, ⟨n, a, b, l, rfl, hn, ha, hb⟩, hok, k⟩ := h
  have hl60 := (hok.row l rfl).1
  rw [KM.widen_good hn ha hb] at k
  have eno : Vadomb.numbersOk l 8 = (decide (l.length ≤ 8) && l.all Vadomb.inBound) := rfl
  refine ⟨_, (pss_cons (ps_set (i := 2) sc_answer_widen.nd rfl (Or.inl rfl) (pe_slice sl_list (pv 1) (po_some pe_int) po_none))
 (pss_cons (ps_if (PW.pt (pw_or (pt_cmpR op_gt (pe_callB call_len_seq (by rfl) D.cl.txt.len PySem.boot_len (pa_cons (pv 2) pa_nil)) (pe_glob (v := .int 8) rfl h_MOST_THRESHOLDS ⟨_, rfl⟩) (nomark _)) (pw_or1 (pt_val (pe_callB (cr_any rfl) (by rfl) D.cl.txt.any boot_any (pa_cons (pe_lc rfl sc_answer_widen.nd (pi_list (pv 2)) (own := [("threshold", 3)]) (blkOk_by (by rfl)) (fun _ _ _ _ _ => pg_name (i := 3) sc_answer_widen.nd rfl (Or.inl rfl)) (fun _ _ _ _ _ => pts_nil) (fun _ _ _ _ _ => (pe_cD G_is_beyond hr D.d_is_beyond (pa_cons (pv 3) pa_nil)))) pa_nil)))))) (pss_one (ps_ret (pe_lst (pa_cons (pe_glob (v := .int (-1)) rfl h_OUT_OF_RANGE ⟨_, rfl⟩) pa_nil)))) pss_nil)
 (pss_one (ps_ret (pe_cD G_keep hr D.d_keep (pa_cons (pv 0) (pa_cons (pe_ix ix_list (pv 1) pe_int (fun _ _ => rfl)) (pa_cons (pe_cD G_widen hr D.d_widen (pa_cons (pe_ix ix_list (pv 0) (pe_ix ix_list (pv 1) pe_int (fun _ _ => rfl)) (fun _ _ => rfl)) (pa_cons (pe_ix ix_list (pv 0) (pe_ix ix_list (pv 1) pe_int (fun _ _ => rfl)) (fun _ _ => rfl)) (pa_cons (pv 2) pa_nil)))) pa_nil)))))))), ?_⟩
  refine ⟨_, rfl, _, rfl, hd, _, rfl, SqL.of hh, fun nb hnb => ?_⟩
  have eh : cutV ((hand (.widen n a b l)).map V.int) (some ((3 : Nat) : Int)) none = l.map V.int := by
   rw [cut_drop]
   rfl
  have hnl : (upd H nb (.lst (cutV ((hand (.widen n a b l)).map V.int) (some 3) none))) nb = some (.lst (l.map V.int)) := by
   rw [upd_same]
   exact congrArg (fun z => some (HO.lst z)) eh
  have s1 : Same H (upd H nb (.lst (cutV ((hand (.widen n a b l)).map V.int) (some 3) none))) := Same.new hnb
  generalize upd H nb (.lst (cutV ((hand (.widen n a b l)).map V.int) (some 3) none)) = H1 at hnl s1 ⊢
  have refuse : ∀ H2 : Hp, Same H H2 → Vadomb.numbersOk l 8 = false → ∀ q, H2 q = none → Q (.ref q) (upd H2 q (.lst ([-1].map V.int))) := fun H2 hs hb q hq => by
   rw [hb, if_neg Bool.false_ne_true] at k
   have hs2 := hs.trans (Same.new (o := HO.lst (([-1] : List Int).map V.int)) hq)
   exact k _ q (hs2.kept sl) (hS.same hs2) (hs.free hq) upd_same
  refine ⟨_, rfl, nb, _, rfl, .inl (SqL.of hnl), _, _, rfl, rfl, _, rfl, ?_⟩
  rw [List.length_map]
  refine ifB (fun hgt => ?_) (fun hgt => ?_)
  ·refine iteT ⟨by show 1 ≤ sizeLine; decide, fun q hq => ?_⟩
   exact refuse H1 s1 (by rw [eno, decide_eq_false (by omega), Bool.false_and]) q hq
  ·have hle : l.length ≤ 8 := by omega
   refine ⟨_, rfl, nb, rfl, ⟨_, SqL.of hnl⟩, fun Dd hDd => ?_⟩
   refine lc_list (xs := l.map V.int) (fun i H' => Same H1 H' ∧ H' Dd = some (.lst (((l.take i).map fun z => !Vadomb.inBound z).map V.bl))) ⟨Same.new hDd, by rw [upd_same]; rfl⟩ (fun i H' _ h => SqL.of (h.1 _ _ hnl)) (fun j y H' hj ⟨hs, hl⟩ => ?_) (fun H' ⟨hs, hl⟩ => ?_)
   ·obtain ⟨z, hz, rfl⟩ := of_map hj
    refine ⟨rfl, _, rfl, z, rfl, _, hl, ?_, fun a o e => ?_, ?_⟩
    ·rw [List.length_map, List.length_map, List.length_take, sizeLine_eq]
     omega
    ·rw [upd_ne (ne_of_none e hDd)]
     exact hs a o e
    ·rw [upd_same, take_snoc hz, List.map_append, List.map_append]
     rfl
   ·rw [List.length_map, List.take_length] at hl
    refine ⟨Dd, _, rfl, SqL.of hl, _, rfl, ?_⟩
    have ea : (List.any (l.map fun z => !Vadomb.inBound z) id) = !Vadomb.numbersOk l 8 := by
     rw [eno, decide_eq_true hle, Bool.true_and, List.any_map, List.not_all_eq_any_not]
     rfl
    rw [ea]
    have s2 : Same H H' := s1.trans hs
    cases hno : Vadomb.numbersOk l 8 with
    | false =>
     refine iteT ⟨by show 1 ≤ sizeLine; decide, fun q hq => ?_⟩
     exact refuse H' s2 hno q hq
    | true =>
     rw [hno, if_pos rfl] at k
     have hin : ∀ z ∈ l, -1000000 ≤ z ∧ z ≤ 1000000 := by
      rw [eno, Bool.and_eq_true] at hno
      exact fun z hz => KM.inB_iff.mp (List.all_eq_true.mp hno.2 z hz)
     obtain ⟨ps, p, h1, h2, h3⟩ := (hS.same s2).get ha.1 ha.2
     obtain ⟨ps', q, h1', h2', h3'⟩ := (hS.same s2).get hb.1 hb.2
     have hh2 := s2 _ _ hh
     refine iteF ⟨_, rfl, _, rfl, hd, _, _, _, rfl, rfl, SqL.of hh2, ix_hand (j := 0) rfl, _, rfl, _, rfl, hd, _, _, _, rfl, rfl, SqL.of hh2, ix_hand (j := 1) rfl, sl, _, _, _, rfl, rfl, SqL.of h1, h2, _, rfl, _, rfl, hd, _, _, _, rfl, rfl, SqL.of hh2, ix_hand (j := 2) rfl, sl, _, _, _, rfl, rfl, SqL.of h1', h2', _, rfl, p, q, nb, _, _, l, rfl, h3, h3', hs _ _ hnl, hl60, hin, fun H3 r hs3 hf => ?_⟩
     have s3 : Same H H3 := s2.trans hs3
     refine ⟨sl, r, n, st, _, rfl, hS.same s3, hn.1, hn.2, hf, fun H4 q kp hS4 hq4 hl4 => ?_⟩
     exact k H4 q ((s3.kept sl).trans kp) hS4 (s3.free hq4) hl4
theorem ok_answer_test {x : Fs} (D : Ds K mg x) : FnOk P w K mg base CX0 14 x.a_answer_test x.f_answer_test ["slots", "handed"] (spAnswer x.C fun k => ∃ t n m a b, k = .test t n m a b ∧ (0 ≤ t ∧ t ≤ 3) ∧ KM.Slot n ∧ KM.Slot m ∧ KM.Slot a ∧ KM.Slot b) := by
 have G_keep : FnOk P w K mg base CX0 13 _ _ ["slots", "new", "value"] (spKeep x.C) := (ok_keep D).mono (by decide)
 have G_left_of_both : FnOk P w K mg base CX0 13 _ _ ["which", "one", "other"] (spPair x.C fun t f g => KM.testedF (KM.testN t.toNat) f g) := (ok_left_of_both D).mono (by decide)
 obtain ⟨_, h_NO_SLOT⟩ := D.cl.txt.h_NO_SLOT
 refine D.d_answer_test.fn.ok sc_answer_test (fun vs H Q E h => ?_) (fun cdv A outer s H vs Q E hr h => ?_)
 ·obtain ⟨sl, hd, s, k, rfl, _⟩ := h
  rfl
 ·obtain ⟨sl, hd, st, _, rfl, hS, hh, ⟨t, n, m, a, b, rfl, ht, hn, hm, ha, hb⟩, hok, k⟩ := h
  obtain ⟨ps, p, h1, h2, h3⟩ := hS.get ha.1 ha.2
  obtain ⟨ps', q, h1', h2', h3'⟩ := hS.get hb.1 hb.2
  refine ⟨_, (pss_cons (ps_set (i := 2) sc_answer_test.nd rfl (Or.inl rfl) (pe_ix ix_list (pv 1) pe_int (fun _ _ => rfl)))
 (pss_cons (ps_set (i := 3) sc_answer_test.nd rfl (Or.inl rfl) (pe_ix ix_list (pv 1) pe_int (fun _ _ => rfl)))
 (pss_cons (ps_if (pt_cmpR op_eq (pv 2) (pv 3) (nomark _)) (pss_one (ps_ret (pe_lst (pa_cons (pe_glob (v := .int (-2)) rfl h_NO_SLOT ⟨_, rfl⟩) pa_nil)))) pss_nil)
 (pss_cons (ps_set (i := 4) sc_answer_test.nd rfl (Or.inl rfl) (pe_cD G_left_of_both hr D.d_left_of_both (pa_cons (pe_ix ix_list (pv 1) pe_int (fun _ _ => rfl)) (pa_cons (pe_ix ix_list (pv 0) (pe_ix ix_list (pv 1) pe_int (fun _ _ => rfl)) (fun _ _ => rfl)) (pa_cons (pe_ix ix_list (pv 0) (pe_ix ix_list (pv 1) pe_int (fun _ _ => rfl)) (fun _ _ => rfl)) pa_nil)))))
 (pss_one (ps_ret (pe_op op_cat (pe_cD G_keep hr D.d_keep (pa_cons (pv 0) (pa_cons (pv 2) (pa_cons (pe_ix ix_tup (pv 4) pe_int (fun _ _ => rfl)) pa_nil)))) (pe_cD G_keep hr D.d_keep (pa_cons (pv 0) (pa_cons (pv 3) (pa_cons (pe_ix ix_tup (pv 4) pe_int (fun _ _ => rfl)) pa_nil))))))))))), ?_⟩
  refine ⟨_, rfl, hd, _, _, _, rfl, rfl, SqL.of hh, ix_hand (j := 1) rfl, ?_⟩
  refine ⟨_, rfl, hd, _, _, _, rfl, rfl, SqL.of hh, ix_hand (j := 2) rfl, ?_⟩
  refine ⟨_, rfl, _, rfl, rfl, _, rfl, ?_⟩
  refine ifEq (fun e => ?_) (fun e => ?_)
  ·rw [KM.test_bad ht (.inr e)] at k
   exact ⟨by show 1 ≤ sizeLine; decide, fun q hq => Ans.new k hS hq⟩
  rw [KM.test_good ht hn hm ha hb e] at k
  refine ⟨_, rfl, hd, _, _, _, rfl, rfl, SqL.of hh, ix_hand (j := 0) rfl, _, rfl, _, rfl, hd, _, _, _, rfl, rfl, SqL.of hh, ix_hand (j := 3) rfl, sl, _, _, _, rfl, rfl, SqL.of h1, h2, _, rfl, _, rfl, hd, _, _, _, rfl, rfl, SqL.of hh, ix_hand (j := 4) rfl, sl, _, _, _, rfl, rfl, SqL.of h1', h2', t, p, q, _, _, rfl, ht, h3, h3', fun H1 r c d hs hr1 hc hd1 => ?_⟩
  dsimp only at hc hd1
  have hS1 := hS.same hs
  obtain ⟨⟨ps1, g1, g2, g3⟩, wf1⟩ := id hS1
  refine ⟨_, rfl, _, rfl, _, rfl, r, _, _, _, rfl, rfl, SqT.of hr1, atI_nat (j := 0) rfl, sl, c, n, st, _, rfl, hS1, hn.1, hn.2, hc, fun H2 q1 kp1 hS2 hq1 hl1 => ?_⟩
  have hr2 : H2 r = some (.tup [.ref c, .ref d]) := kp1 _ _ hr1 (ne_of hr1 g1 (by intro z; cases z))
  have hd2 := hd1.kept g1 g2 kp1
  obtain ⟨⟨ps2, g1', g2', g3'⟩, wf2⟩ := id hS2
  refine ⟨_, rfl, _, rfl, _, rfl, r, _, _, _, rfl, rfl, SqT.of hr2, atI_nat (j := 1) rfl, sl, d, m, _, _, rfl, hS2, hm.1, hm.2, hd2, fun H3 q2 kp2 hS3 hq2 hl2 => ?_⟩
  have n1 : q1 ≠ sl := ne_of hl1 g1' (ref_ne_int g2')
  have hl1' : H3 q1 = some (.lst ((Vadomb.factTold (KM.testedF (KM.testN t.toNat) (Vadomb.factAt st a.toNat) (Vadomb.factAt st b.toNat)).1).map V.int)) := kp2 _ _ hl1 n1
  have t1 := told_len hc.2
  have t2 := told_len hd1.2
  refine ⟨q1, q2, _, _, rfl, rfl, hl1', hl2, ?_, fun z hz => ?_⟩
  ·rw [List.length_map, List.length_map]
   exact Nat.le_trans (Nat.add_le_add t1 t2) (by decide)
  ·have sz := Same.new (o := HO.lst ((Vadomb.factTold (KM.testedF (KM.testN t.toNat) (Vadomb.factAt st a.toNat) (Vadomb.factAt st b.toNat)).1).map V.int ++ (Vadomb.factTold (KM.testedF (KM.testN t.toNat) (Vadomb.factAt st a.toNat) (Vadomb.factAt st b.toNat)).2).map V.int)) hz
   have kAll : Kept sl H1 H3 := kp1.trans kp2
   have hzn : H z = none := by
    cases hzz : H z with
    | none => rfl
    | some o =>
     exfalso
     have o1 := hs _ _ hzz
     have nz : z ≠ sl := fun e => by
      obtain ⟨⟨ps3, f1, _, _⟩, _⟩ := hS3
      rw [e, f1] at hz
      cases hz
     have := kAll _ _ o1 nz
     rw [hz] at this
     cases this
   refine k _ z ((hs.kept sl).trans (kAll.trans (sz.kept sl))) (hS3.same sz) hzn ?_
   rw [upd_same, List.map_append]
end
end Kv
namespace Kv
open PySem PySem.Spec PyProof.Rows L2
open PySem.W (Codec)
def hide (H : Hp) (g : Addr) : Hp := fun b => if b = g then none else H b
theorem hide_ne {H : Hp} {g b : Addr} (h : b ≠ g) : hide H g b = H b := by unfold hide; rw [if_neg h]
theorem hide_upd {H : Hp} {g : Addr} {o : HO} : hide (upd H g o) g = hide H g := by
 funext b
 unfold hide
 by_cases h : b = g
 ·rw [if_pos h, if_pos h]
 ·rw [if_neg h, if_neg h, upd_ne h]
theorem slots_hide {C : Addr} {H : Hp} {sl g : Addr} {s : Vadomb.State} {o : Obj} {u : HO} (h : SlotsAt C H sl s) (hg : H g = some (.frz o u)) : SlotsAt C (hide H g) sl s := by
 obtain ⟨⟨ps, h1, h2, h3⟩, wf⟩ := h
 have ne : ∀ {b : Addr} {v : HO}, H b = some v → (∀ o u, v ≠ .frz o u) → hide H g b = some v := fun {b v} e hv => by
  rw [hide_ne (fun q => by rw [q, hg] at e; exact hv _ _ (Option.some.inj e).symm)]
  exact e
 refine ⟨⟨ps, ne h1 (fun _ _ z => by cases z), h2, fun i p e => ?_⟩, wf⟩
 obtain ⟨⟨dx, q, a1, a2⟩, a3⟩ := h3 i p e
 exact ⟨⟨dx, q, ne a1 (fun _ _ z => by cases z), ne a2 (fun _ _ z => by cases z)⟩, a3⟩
theorem ifJoinR {t u : TS} {D : Ends} {σ : L2.St} {H : Hp} {b : Bool} (R : L2.St → Hp → Prop) (h1 : b = true → ∀ D' : Ends, (∀ σ' H', R σ' H' → D'.nx σ' H') → t D' σ H) (h2 : b = false → ∀ D' : Ends, (∀ σ' H', R σ' H' → D'.nx σ' H') → u D' σ H) (k : ∀ σ' H', R σ' H' → D.nx σ' H') : if b = true then t D σ H else u D σ H := by
 cases b with
 | true => exact iteT (h1 rfl D k)
 | false => exact iteF (h2 rfl D k)
theorem cut_mid (A M S : List V) : cutV (A ++ M ++ S) (some (A.length : Int)) (some ((A.length + M.length : Nat) : Int)) = M := by
 unfold cutV
 rw [HT.sIx_nat, HT.sIx_nat]
 have e : (A ++ M ++ S).length = A.length + M.length + S.length := by rw [List.length_append, List.length_append]
 rw [e, Nat.min_eq_left (by omega), Nat.min_eq_left (by omega), List.append_assoc, List.drop_left]
 rw [show A.length + M.length - A.length = M.length by omega, List.take_left]
theorem at_mid (A : List V) (v : V) (S : List V) : atI (A ++ v :: S) (A.length : Int) = some v := by
 refine atI_nat ?_
 rw [List.getElem?_append_right (Nat.le_refl _), Nat.sub_self]
 rfl
theorem play_len {s : Vadomb.State} : ∀ (ks : List Vadomb.Call) (k : Vadomb.Call), (KM.play s (k :: ks)).length = 1 + (Vadomb.step s k).2.length + (KM.play (Vadomb.step s k).1 ks).length := fun ks k => by
 show ((((Vadomb.step s k).2.length : Int) :: (Vadomb.step s k).2) ++ KM.play (Vadomb.step s k).1 ks).length = _
 rw [List.length_append, List.length_cons]
 omega
section
variable {P : Program} {w : World} {K : PySem.W.Frag} {mg : Str → Option Value} {base : Heap}
def spAC (C : Addr) : Sp := fun vs H Q _ => ∃ (sl hd : Addr) (s : Vadomb.State) (k : Vadomb.Call), vs = [.ref sl, .int (KM.codeOf k), .ref hd] ∧ SlotsAt C H sl s ∧ H hd = some (.lst ((hand k).map V.int)) ∧ KM.OkC k ∧ Ans C H sl (Vadomb.step s k) Q
def spAns (K : PySem.W.Frag) : Sp := fun vs H Q _ => ∃ (a : Addr) (ns : List Int), vs = [.ref a] ∧ SqL K H a (ns.map V.int) ∧ PyVadomb.answers_asked ns = true ∧ ns.length ≤ 17000 ∧ ∀ (H' : Hp) (p : Addr), H' p = some (.lst ((PyVadomb.answers ns).map V.int)) → Q (.ref p) H'
theorem whole_at (k : Vadomb.Call) : atI (([1, 6, 1, 2, 1, 2, 3, 3, 3, 2, 3, 3, 3, 3, 5, 3] : List Int).map V.int) (KM.codeOf k) = some (.int ((KM.argsOf k).length : Nat)) := by
 cases k <;> rfl
theorem row_in (k : Vadomb.Call) : inV (.int (KM.codeOf k)) (([0, 8] : List Int).map V.int) = (KM.rowOf k).isSome := by
 cases k <;> rfl
theorem ok_answers {x : Fs} (D : Ds K mg x) (G_answer_call : FnOk P w K mg base CX0 15 x.a_answer_call x.f_answer_call ["slots", "call", "handed"] (spAC x.C)) : FnOk P w K mg base CX0 16 x.a_answers x.f_answers ["calls"] (spAns K) := by
 have G_few_of : FnOk P w K mg base CX0 15 _ _ ["rising"] (spFewOf x.C) := (ok_few_of D).mono (by decide)
 obtain ⟨_, h_SLOTS⟩ := D.cl.txt.h_SLOTS
 have t_W := D.t_WHOLE_NUMBERS
 have t_R := D.t_CALLS_WITH_A_ROW
 refine D.d_answers.fn.ok sc_answers (fun vs H Q E h => ?_) (fun cdv A outer s H vs Q E hr h => ?_)
 ·obtain ⟨a, ns, rfl, _⟩ := h
  rfl
 ·obtain ⟨a, ns, rfl, hA, hask, hlen, kQ⟩ := h
  obtain ⟨ks, ens, hk100, hoks, eans, hbig⟩ := KM.line hask
  refine ⟨_, (pss_cons (ps_setLc (i := 1) rfl sc_answers.nd rfl rfl (sw_true rfl rfl rfl rfl) (pi_range1 rfl D.cl.txt.range (pa_cons (pe_glob (v := .int 6) rfl h_SLOTS ⟨_, rfl⟩) pa_nil)) (own := [("slot", 2)]) (blkOk_by (by rfl)) (fun _ _ _ _ _ => pg_name (i := 2) sc_answers.nd rfl (Or.inl rfl)) (fun _ _ _ _ _ => pts_nil) (fun _ _ _ _ _ => (pe_lock (pe_cD G_few_of hr D.d_few_of (pa_cons (pe_lst pa_nil) pa_nil)))))
 (pss_cons (ps_set (i := 3) sc_answers.nd rfl (Or.inl rfl) (pe_lst pa_nil))
 (pss_cons (ps_set (i := 4) sc_answers.nd rfl (Or.inl rfl) pe_int)
 (pss_cons (ps_while PassesOwn.never (pt_cmpR op_lt (pv 4) (pe_callB call_len_seq (by rfl) D.cl.txt.len PySem.boot_len (pa_cons (pv 0) pa_nil)) (nomark _)) (pss_cons (ps_set (i := 5) sc_answers.nd rfl (Or.inl rfl) (pe_ix ix_list (pv 0) (pv 4) (fun _ _ => rfl)))
 (pss_cons (ps_set (i := 6) sc_answers.nd rfl (Or.inl rfl) (pe_op op_add (pe_op op_add (pv 4) pe_int) (pe_ix ix_tup (pe_glob (v := .ref x.g_WHOLE_NUMBERS) rfl D.h_WHOLE_NUMBERS rfl) (pv 5) (fun _ _ => rfl))))
 (pss_cons (ps_set (i := 7) sc_answers.nd rfl (Or.inl rfl) (pe_slice sl_list (pv 0) (po_some (pe_op op_add (pv 4) pe_int)) (po_some (pv 6))))
 (pss_cons (ps_if (pt_cmpR op_in_seq (pv 5) (pe_glob (v := .ref x.g_CALLS_WITH_A_ROW) rfl D.h_CALLS_WITH_A_ROW rfl) (by with_unfolding_all rfl)) (pss_cons (ps_set (i := 8) sc_answers.nd rfl (Or.inl rfl) (pe_ix ix_list (pv 0) (pv 6) (fun _ _ => rfl)))
 (pss_cons (ps_set (i := 7) sc_answers.nd rfl (Or.inl rfl) (pe_op op_cat (pv 7) (pe_slice sl_list (pv 0) (po_some (pe_op op_add (pv 6) pe_int)) (po_some (pe_op op_add (pe_op op_add (pv 6) pe_int) (pv 8))))))
 (pss_one (ps_aug (i := 6) sc_answers.nd rfl (Or.inl rfl) (pe_op op_add pe_int (pv 8)) ip_add)))) pss_nil)
 (pss_cons (ps_lock (ps_set (i := 9) sc_answers.nd rfl (Or.inl rfl) (pe_cD G_answer_call hr D.d_answer_call (pa_cons (pv 1) (pa_cons (pv 5) (pa_cons (pv 7) pa_nil))))))
 (pss_cons (ps_expr (pe_bm PySem.F.plainAttrs_list PySem.F.slot_list_append PySem.F.type_list_append mt_append (pv 3) (pa_cons (pe_callB call_len_seq (by rfl) D.cl.txt.len PySem.boot_len (pa_cons (pv 9) pa_nil)) pa_nil)))
 (pss_cons (ps_expr (pe_bm PySem.F.plainAttrs_list PySem.F.slot_list_extend PySem.F.type_list_extend mt_extend (pv 3) (pa_cons (pv 9) pa_nil)))
 (pss_one (ps_set (i := 4) sc_answers.nd rfl (Or.inl rfl) (pv 6)))))))))))
 (pss_one (ps_ret (pv 3))))))), ?_⟩
  refine ⟨6, rfl, by decide, by decide, fun sl hsl => ?_⟩
  refine lc_range (n := 6) (lo := 0) (fun i H' => Same H H' ∧ ∃ ps : List Addr, ps.length = i ∧ H' sl = some (.lst (ps.map V.ref)) ∧ ∀ p ∈ ps, FAt x.C (hide H' sl) p none) ⟨Same.new hsl, [], rfl, upd_same, fun p hp => (by cases hp)⟩ (fun i H' hi ⟨hs, ps, h1, h2, h3⟩ => ?_) (fun H1 ⟨hs1, ps, h1, h2, h3⟩ => ?_)
  ·refine ⟨rfl, sl, _, h2, trivial, fun od => ⟨Nat.zero_le _, fun e he => ?_⟩⟩
   have hes : e ≠ sl := fun q => by rw [q, upd_same] at he; cases he
   refine ⟨e, [], rfl, upd_same, List.Pairwise.nil, fun H2 p hs2 hv => ?_⟩
   have s2 : Same (upd H' sl (.frz od (.lst (ps.map V.ref)))) H2 := (Same.new he).trans hs2
   have hfz := s2 _ _ upd_same
   refine ⟨hfz, _, upd_same, by rw [List.length_map, h1, sizeLine_eq]; omega, fun b o eb => ?_, ps ++ [p], by rw [List.length_append, h1]; rfl, ?_, fun p' hp' => ?_⟩
   ·have nb : b ≠ sl := ne_of_none eb hsl
    rw [upd_ne nb, upd_ne nb]
    refine s2 _ _ ?_
    rw [upd_ne nb]
    exact hs _ _ eb
   ·rw [upd_same, List.map_append]
    rfl
   ·rw [hide_upd, hide_upd]
    rcases List.mem_append.mp hp' with m | m
    ·refine (h3 p' m).mono fun b o eb => ?_
     have nb : b ≠ sl := fun q => by
      unfold hide at eb
      rw [if_pos q] at eb
      cases eb
     rw [hide_ne nb] at eb ⊢
     refine s2 _ _ ?_
     rw [upd_ne nb]
     exact eb
    ·rw [List.mem_singleton] at m
     subst m
     obtain ⟨dx, q, a1, a2⟩ := hv
     refine ⟨⟨dx, q, ?_, ?_⟩, trivial⟩
     ·rw [hide_ne (fun z => by rw [z, hfz] at a1; cases a1)]
      exact a1
     ·rw [hide_ne (fun z => by rw [z, hfz] at a2; cases a2)]
      exact a2
  have hfull : Same (hide H1 sl) H1 := fun b o eb => by
   unfold hide at eb
   by_cases q : b = sl
   ·rw [if_pos q] at eb; cases eb
   ·rw [if_neg q] at eb; exact eb
  have hS1 : SlotsAt x.C H1 sl Vadomb.start := by
   refine ⟨⟨ps, h2, h1, fun i p e => ?_⟩, KM.wf_start⟩
   have hi : i < 6 := by
    have := (List.getElem?_eq_some_iff.mp e).1
    omega
   have ef : Vadomb.factAt Vadomb.start i = none := by
    unfold Vadomb.factAt Vadomb.start
    show ((List.replicate 6 (none : Vadomb.Fact))[i]?).bind (fun f => f) = none
    rw [List.getElem?_replicate, if_pos hi]
    rfl
   rw [ef]
   exact (h3 p (List.mem_of_getElem? e)).mono hfull
  refine ⟨Nat.zero_le _, fun g hg => ?_⟩
  have hgH : H g = none := hs1.free hg
  have hgsl : sl ≠ g := ne_of_none h2 hg
  have hS2 : SlotsAt x.C (hide (upd H1 g (.lst [])) g) sl Vadomb.start := by
   rw [hide_upd]
   refine hS1.same fun b o eb => ?_
   rw [hide_ne (ne_of_none eb hg)]
   exact eb
  refine while_in (fun σ H' => ∃ (done rest : List Vadomb.Call) (st : Vadomb.State) (out : List Int) (c1 c2 c3 c4 c5 : Option V), ks = done ++ rest ∧ σ = [some (.ref a), some (.ref sl), none, some (.ref g), some (.int ((done.flatMap KM.flat).length : Nat)), c1, c2, c3, c4, c5] ∧ Same H H' ∧ SlotsAt x.C (hide H' g) sl st ∧
    H' g = some (.lst (out.map V.int)) ∧ KM.play Vadomb.start ks = out ++ KM.play st rest)
   (fun σ _ => match σ with
    | [_, _, _, _, some (.int y), _, _, _, _, _] => ns.length - y.toNat
    | _ => 0) ⟨[], ks, Vadomb.start, [], none, none, none, none, none, rfl, rfl, hs1.trans (Same.new hg), hS2, upd_same, rfl⟩ ?_
  rintro σ H' ⟨done, rest, st, out, c1, c2, c3, c4, c5, eks, rfl, sH, hS, hgl, eplay⟩
  have hA' : SqL K H' a (ns.map V.int) := sH.seq hA
  refine ⟨_, rfl, _, rfl, a, _, rfl, .inl hA', _, _, rfl, rfl, _, rfl, ?_⟩
  rw [List.length_map]
  cases rest with
  | nil =>
   rw [List.append_nil] at eks
   have eL : ((done.flatMap KM.flat).length : Int) = (ns.length : Int) := by rw [ens, eks]
   rw [eL, decide_eq_false (by omega)]
   refine iteF ⟨_, rfl, kQ H' g ?_⟩
   rw [eans, eplay]
   show H' g = some (.lst ((out ++ []).map V.int))
   rw [List.append_nil]
   exact hgl
  | cons k rest =>
   have eflat : ns = done.flatMap KM.flat ++ (KM.flat k ++ rest.flatMap KM.flat) := by
    rw [ens, eks, List.flatMap_append, List.flatMap_cons]
   have hkok : KM.OkC k := hoks k (by rw [eks]; exact List.mem_append_right _ (List.mem_cons_self ..))
   generalize hpl : done.flatMap KM.flat = pre at *
   generalize hpo : rest.flatMap KM.flat = post at *
   have hlenns : ns.length = pre.length + ((KM.flat k).length + post.length) := by rw [eflat, List.length_append, List.length_append]
   have hfp : 0 < (KM.flat k).length := by
    show 0 < (KM.codeOf k :: KM.argsOf k ++ _).length
    simp
   rw [decide_eq_true (show ((pre.length : Nat) : Int) < (ns.length : Int) by omega)]
   have flen : (KM.flat k).length = 1 + (KM.argsOf k).length + (match KM.rowOf k with | some l => 1 + l.length | none => 0) := by
    unfold KM.flat
    rw [List.length_append, List.length_cons]
    cases KM.rowOf k with
    | none => simp; omega
    | some l => simp; omega
   have eM : ns.map V.int = pre.map V.int ++ V.int (KM.codeOf k) :: ((KM.argsOf k).map V.int ++ ((match KM.rowOf k with | some l => (l.length : Int) :: l | none => []).map V.int ++ post.map V.int)) := by
    rw [eflat]
    unfold KM.flat
    cases KM.rowOf k <;> simp [List.map_append]
   have a1 : atI (ns.map V.int) ((pre.length : Nat) : Int) = some (.int (KM.codeOf k)) := by
    rw [eM]
    have := at_mid (pre.map V.int) (V.int (KM.codeOf k)) ((KM.argsOf k).map V.int ++ ((match KM.rowOf k with | some l => (l.length : Int) :: l | none => []).map V.int ++ post.map V.int))
    rw [List.length_map] at this
    exact this
   have a2 : cutV (ns.map V.int) (some (((pre.length : Nat) : Int) + 1)) (some (((pre.length : Nat) : Int) + 1 + ((KM.argsOf k).length : Nat))) = (KM.argsOf k).map V.int := by
    have e1 : ns.map V.int = (pre.map V.int ++ [V.int (KM.codeOf k)]) ++ (KM.argsOf k).map V.int ++ ((match KM.rowOf k with | some l => (l.length : Int) :: l | none => []).map V.int ++ post.map V.int) := by
     rw [eM]
     simp
    have := cut_mid (pre.map V.int ++ [V.int (KM.codeOf k)]) ((KM.argsOf k).map V.int) ((match KM.rowOf k with | some l => (l.length : Int) :: l | none => []).map V.int ++ post.map V.int)
    rw [← e1, List.length_append, List.length_map, List.length_map, List.length_singleton] at this
    have e2 : (((pre.length : Nat) : Int) + 1) = ((pre.length + 1 : Nat) : Int) := by omega
    have e3 : (((pre.length : Nat) : Int) + 1 + ((KM.argsOf k).length : Nat)) = ((pre.length + 1 + (KM.argsOf k).length : Nat) : Int) := by omega
    rw [e3, e2]
    exact this
   refine iteT ⟨fun σ' H2 => (∃ (done rest : List Vadomb.Call) (st : Vadomb.State) (out : List Int) (c1 c2 c3 c4 c5 : Option V), ks = done ++ rest ∧ σ' = [some (.ref a), some (.ref sl), none, some (.ref g), some (.int ((done.flatMap KM.flat).length : Nat)), c1, c2, c3, c4, c5] ∧ Same H H2 ∧ SlotsAt x.C (hide H2 g) sl st ∧
    H2 g = some (.lst (out.map V.int)) ∧ KM.play Vadomb.start ks = out ++ KM.play st rest) ∧ _, fun σ' H2 ⟨p, q⟩ => ⟨_, q, rfl, p⟩, ?_⟩
   refine ⟨_, rfl, _, rfl, a, _, _, _, rfl, rfl, hA', a1, ?_⟩
   refine ⟨_, rfl, _, _, rfl, rfl, _, rfl, x.g_WHOLE_NUMBERS, _, _, _, rfl, rfl, t_W H', whole_at k, _, _, rfl, rfl, ?_⟩
   refine ⟨_, rfl, _, rfl, _, _, rfl, rfl, _, rfl, _, rfl, _, rfl, a, _, rfl, hA', fun hd hhd => ?_⟩
   have hdg : hd ≠ g := fun e => by rw [e, hgl] at hhd; cases hhd
   refine ⟨_, rfl, _, _, rfl, .inr (t_R _), rfl, flat_ints _, _, rfl, ?_⟩
   refine ifJoinR (fun σ' H2 => ∃ (hd : Addr) (c4 : Option V), σ' = [some (.ref a), some (.ref sl), none, some (.ref g), some (.int (pre.length : Nat)), some (.int (KM.codeOf k)), some (.int ((pre.length + (KM.flat k).length : Nat) : Int)), some (.ref hd), c4, c5] ∧ Same H' H2 ∧ hd ≠ g ∧ H2 hd = some (.lst ((hand k).map V.int)))
    (fun e D' k' => ?_) (fun e D' k' => ?_) (fun σ' H2 hR => ?_)
   ·have e' : inV (.int (KM.codeOf k)) (([0, 8] : List Int).map V.int) = true := e
    rw [row_in k] at e'
    cases hro : KM.rowOf k with
    | none => rw [hro] at e'; cases e'
    | some l =>
     rw [hro] at eM flen
     have s1 : Same H' (upd H' hd (.lst (cutV (ns.map V.int) (some (((pre.length : Nat) : Int) + 1)) (some (((pre.length : Nat) : Int) + 1 + ((KM.argsOf k).length : Nat)))))) := Same.new hhd
     have hA1 := s1.seq hA'
     have b1 : atI (ns.map V.int) (((pre.length : Nat) : Int) + 1 + ((KM.argsOf k).length : Nat)) = some (.int (l.length : Nat)) := by
      have e1 : ns.map V.int = (pre.map V.int ++ V.int (KM.codeOf k) :: (KM.argsOf k).map V.int) ++ V.int (l.length : Nat) :: (l.map V.int ++ post.map V.int) := by
       rw [eM]
       simp
      have := at_mid (pre.map V.int ++ V.int (KM.codeOf k) :: (KM.argsOf k).map V.int) (V.int (l.length : Nat)) (l.map V.int ++ post.map V.int)
      rw [← e1, List.length_append, List.length_cons, List.length_map, List.length_map] at this
      have e2 : (((pre.length : Nat) : Int) + 1 + ((KM.argsOf k).length : Nat)) = ((pre.length + ((KM.argsOf k).length + 1) : Nat) : Int) := by omega
      rw [e2]
      exact this
     have b2 : cutV (ns.map V.int) (some (((pre.length : Nat) : Int) + 1 + ((KM.argsOf k).length : Nat) + 1)) (some (((pre.length : Nat) : Int) + 1 + ((KM.argsOf k).length : Nat) + 1 + (l.length : Nat))) = l.map V.int := by
      have e1 : ns.map V.int = (pre.map V.int ++ V.int (KM.codeOf k) :: ((KM.argsOf k).map V.int ++ [V.int (l.length : Nat)])) ++ l.map V.int ++ post.map V.int := by
       rw [eM]
       simp
      have := cut_mid (pre.map V.int ++ V.int (KM.codeOf k) :: ((KM.argsOf k).map V.int ++ [V.int (l.length : Nat)])) (l.map V.int) (post.map V.int)
      rw [← e1, List.length_append, List.length_cons, List.length_append, List.length_map, List.length_map, List.length_map, List.length_singleton] at this
      have e2 : (((pre.length : Nat) : Int) + 1 + ((KM.argsOf k).length : Nat) + 1) = ((pre.length + ((KM.argsOf k).length + 1 + 1) : Nat) : Int) := by omega
      have e3 : (((pre.length : Nat) : Int) + 1 + ((KM.argsOf k).length : Nat) + 1 + (l.length : Nat)) = ((pre.length + ((KM.argsOf k).length + 1 + 1) + l.length : Nat) : Int) := by omega
      rw [e3, e2]
      exact this
     refine ⟨_, rfl, _, rfl, a, _, _, _, rfl, rfl, hA1, b1, ?_⟩
     refine ⟨_, rfl, _, rfl, _, rfl, _, _, rfl, rfl, _, rfl, _, rfl, _, _, rfl, rfl, _, rfl, _, _, rfl, rfl, _, rfl, a, _, rfl, hA1, fun t ht => ?_⟩
     have htd : hd ≠ t := fun e => by rw [← e, upd_same] at ht; cases ht
     have s2 := s1.trans (Same.new (o := HO.lst (cutV (ns.map V.int) (some (((pre.length : Nat) : Int) + 1 + ((KM.argsOf k).length : Nat) + 1)) (some (((pre.length : Nat) : Int) + 1 + ((KM.argsOf k).length : Nat) + 1 + (l.length : Nat))))) ht)
     have hll := (hkok.row l hro).1
     refine ⟨hd, t, _, _, rfl, rfl, (by rw [upd_ne htd, upd_same]), upd_same, ?_, fun hd2 hhd2 => ?_⟩
     ·rw [a2, b2, List.length_map, List.length_map, sizeLine_eq]
      have : (KM.argsOf k).length ≤ 6 := by cases k <;> (show _ ≤ 6; simp [KM.argsOf])
      omega
     ·have hd2g : hd2 ≠ g := fun e => by
       rw [e, s2 _ _ hgl] at hhd2
       cases hhd2
      refine ⟨_, rfl, _, rfl, _, _, rfl, rfl, _, _, rfl, rfl, k' _ _ ⟨hd2, some (.int (l.length : Nat)), ?_, s2.trans (Same.new hhd2), hd2g, ?_⟩⟩
      ·show [_, _, _, _, _, _, some (V.int (((pre.length : Nat) : Int) + 1 + ((KM.argsOf k).length : Nat) + (1 + (l.length : Nat)))), _, _, _] = _
       have e2 : (((pre.length : Nat) : Int) + 1 + ((KM.argsOf k).length : Nat) + (1 + (l.length : Nat))) = ((pre.length + (KM.flat k).length : Nat) : Int) := by
        have f2 : (KM.flat k).length = 1 + (KM.argsOf k).length + (1 + l.length) := flen
        rw [f2]
        omega
       rw [e2]
      ·rw [upd_same, a2, b2]
       unfold hand
       rw [hro, List.map_append]
       rfl
   ·have e' : inV (.int (KM.codeOf k)) (([0, 8] : List Int).map V.int) = false := e
    rw [row_in k] at e'
    cases hro : KM.rowOf k with
    | some l => rw [hro] at e'; cases e'
    | none =>
     rw [hro] at flen
     refine k' _ _ ⟨hd, c4, ?_, Same.new hhd, hdg, ?_⟩
     ·show [_, _, _, _, _, _, some (V.int (((pre.length : Nat) : Int) + 1 + ((KM.argsOf k).length : Nat))), _, _, _] = _
      have e2 : (((pre.length : Nat) : Int) + 1 + ((KM.argsOf k).length : Nat)) = ((pre.length + (KM.flat k).length : Nat) : Int) := by
       have f2 : (KM.flat k).length = 1 + (KM.argsOf k).length + 0 := flen
       rw [f2]
       omega
      rw [e2]
     ·rw [upd_same, a2]
      unfold hand
      rw [hro]
      simp
   ·obtain ⟨hd, c4, rfl, sR, hdg, hhd⟩ := hR
    have hgR := sR _ _ hgl
    refine ⟨g, _, hgR, trivial, fun od => ?_⟩
    have sF : Same (hide H' g) (upd H2 g (.frz od (.lst (out.map V.int)))) := fun b o eb => by
     have nb : b ≠ g := fun q => by
      unfold hide at eb
      rw [if_pos q] at eb
      cases eb
     rw [hide_ne nb] at eb
     rw [upd_ne nb]
     exact sR _ _ eb
    refine ⟨_, rfl, _, rfl, _, rfl, sl, hd, st, k, rfl, hS.same sF, (by rw [upd_ne hdg]; exact hhd), hkok, fun H5 q kp hS5 hq hl => ?_⟩
    have hg5 : H5 g = some (.frz od (.lst (out.map V.int))) := kp _ _ upd_same (Ne.symm hgsl)
    have hqg : q ≠ g := fun e => by rw [e, upd_same] at hq; cases hq
    refine ⟨hg5, ?_⟩
    have hlen2 := play_len (s := st) rest k
    have htot : out.length + (KM.play st (k :: rest)).length ≤ 10000000 := by
     rw [← List.length_append, ← eplay]
     exact hbig
    have hl6 : (upd H5 g (.lst (out.map V.int))) q = some (.lst ((Vadomb.step st k).2.map V.int)) := by rw [upd_ne hqg]; exact hl
    refine ⟨_, rfl, .inl ⟨rfl, _, SqL.of upd_same⟩, _, rfl, q, _, rfl, .inl (SqL.of hl6), g, _, _, rfl, rfl, upd_same, (by rw [List.length_map, sizeLine_eq]; omega), ?_⟩
    refine ⟨_, rfl, .inl ⟨rfl, _, SqL.of upd_same⟩, _, rfl, g, q, _, _, rfl, rfl, upd_same, (by rw [upd_ne hqg]; exact hl6), ?_, ?_⟩
    ·rw [List.length_append, List.length_map, List.length_map, List.length_singleton, sizeLine_eq]
     omega
    ·refine ⟨_, rfl, ?_⟩
     refine ⟨⟨done ++ [k], rest, (Vadomb.step st k).1, out ++ (((Vadomb.step st k).2.length : Int) :: (Vadomb.step st k).2), some (.int (KM.codeOf k)), some (.int ((pre.length + (KM.flat k).length : Nat) : Int)), some (.ref hd), c4, some (.ref q), ?_, ?_, fun b o eb => ?_, ?_, ?_, ?_⟩, ?_⟩
     ·rw [List.append_assoc]
      exact eks
     ·show [_, _, _, _, some (V.int ((pre.length + (KM.flat k).length : Nat) : Int)), _, _, _, _, _] = _
      rw [List.flatMap_append, List.flatMap_cons, List.flatMap_nil, List.append_nil, hpl, List.length_append]
     ·have nb : b ≠ g := ne_of_none eb hgH
      have nbs : b ≠ sl := ne_of_none eb hsl
      rw [upd_ne nb, upd_ne nb, upd_ne nb]
      refine kp _ _ ?_ nbs
      rw [upd_ne nb]
      exact sR _ _ (sH _ _ eb)
     ·rw [hide_upd, hide_upd, hide_upd]
      exact slots_hide hS5 hg5
     ·rw [upd_same, List.map_append, List.map_cons, List.length_map]
      simp
     ·rw [eplay]
      show out ++ ((((Vadomb.step st k).2.length : Int) :: (Vadomb.step st k).2) ++ KM.play (Vadomb.step st k).1 rest) = _
      rw [List.append_assoc]
     ·show ns.length - ((pre.length + (KM.flat k).length : Nat) : Int).toNat < ns.length - ((pre.length : Nat) : Int).toNat
      rw [Int.toNat_natCast, Int.toNat_natCast]
      omega
end
end Kv
namespace Kv
open PySem PySem.Spec PyProof.Rows L2
open PySem.W (Codec)
def fromOf (k : Vadomb.Call) : Nat := if KM.codeOf k ≤ 13 then 0 else 1
def toOf (k : Vadomb.Call) : Nat := fromOf k + (KM.slotsOf k).length
theorem from_at (k : Vadomb.Call) : atI (([0, 0, 0, 0, 0, 0, 0, 0, 0, 0, 0, 0, 0, 0, 1, 1] : List Int).map V.int) (KM.codeOf k) = some (.int (fromOf k : Nat)) := by cases k <;> rfl
theorem to_at (k : Vadomb.Call) : atI (([1, 1, 1, 1, 1, 1, 3, 3, 3, 2, 3, 3, 3, 2, 5, 3] : List Int).map V.int) (KM.codeOf k) = some (.int (toOf k : Nat)) := by cases k <;> rfl
theorem test_in (k : Vadomb.Call) : inV (.int (KM.codeOf k)) (([14, 15] : List Int).map V.int) = decide (14 ≤ KM.codeOf k) := by cases k <;> rfl
def firstArg (k : Vadomb.Call) : Int := (KM.argsOf k).headD 0
theorem first_at (k : Vadomb.Call) : (hand k)[0]? = some (firstArg k) := by cases k <;> rfl
theorem cut_ab (xs : List V) {a b : Nat} (h : b ≤ xs.length) (hab : a ≤ b) : cutV xs (some (a : Int)) (some (b : Int)) = (xs.drop a).take (b - a) := by
 unfold cutV
 rw [HT.sIx_nat, HT.sIx_nat, Nat.min_eq_left (by omega), Nat.min_eq_left (by omega)]
theorem cut_slots (k : Vadomb.Call) : cutV ((hand k).map V.int) (some ((fromOf k : Nat) : Int)) (some ((toOf k : Nat) : Int)) = (KM.slotsOf k).map V.int := by
 have hl : toOf k ≤ ((hand k).map V.int).length := by
  rw [List.length_map]
  cases k <;> (simp [toOf, fromOf, hand, KM.argsOf, KM.slotsOf, KM.codeOf, KM.rowOf])
 rw [cut_ab _ hl (by unfold toOf; omega)]
 cases k <;> rfl
theorem refuse_slot {s : Vadomb.State} {k : Vadomb.Call} (ht : 14 ≤ KM.codeOf k → 0 ≤ firstArg k ∧ firstArg k ≤ 3) (h : ∃ z ∈ KM.slotsOf k, ¬ KM.Slot z) : Vadomb.step s k = (s, [-2]) := by
 by_cases hc : KM.codeOf k ≤ 13
 ·exact KM.step_bad hc h
 ·cases k with
  | test t n m a b => exact KM.test_bad (ht (by show (14 : Int) ≤ 14; omega)) (.inl h)
  | verdict t a b => exact KM.verdict_bad (ht (by show (14 : Int) ≤ 15; omega)) h
  | _ => exact absurd (by first | (show (0 : Int) ≤ 13; omega) | (show (1 : Int) ≤ 13; omega) | (show (2 : Int) ≤ 13; omega) | (show (3 : Int) ≤ 13; omega) | (show (4 : Int) ≤ 13; omega) | (show (5 : Int) ≤ 13; omega) | (show (6 : Int) ≤ 13; omega) | (show (7 : Int) ≤ 13; omega) | (show (8 : Int) ≤ 13; omega) | (show (9 : Int) ≤ 13; omega) | (show (10 : Int) ≤ 13; omega) | (show (11 : Int) ≤ 13; omega) | (show (12 : Int) ≤ 13; omega) | (show (13 : Int) ≤ 13; omega)) hc
theorem refuse_test {s : Vadomb.State} {k : Vadomb.Call} (hc : 14 ≤ KM.codeOf k) (h : ¬ (0 ≤ firstArg k ∧ firstArg k ≤ 3)) : Vadomb.step s k = (s, [-3]) := by
 cases k with
 | test t n m a b => exact KM.test_no h
 | verdict t a b => exact KM.verdict_no h
 | _ => exact absurd hc (by first | (show ¬ (14 : Int) ≤ 0; omega) | (show ¬ (14 : Int) ≤ 1; omega) | (show ¬ (14 : Int) ≤ 2; omega) | (show ¬ (14 : Int) ≤ 3; omega) | (show ¬ (14 : Int) ≤ 4; omega) | (show ¬ (14 : Int) ≤ 5; omega) | (show ¬ (14 : Int) ≤ 6; omega) | (show ¬ (14 : Int) ≤ 7; omega) | (show ¬ (14 : Int) ≤ 8; omega) | (show ¬ (14 : Int) ≤ 9; omega) | (show ¬ (14 : Int) ≤ 10; omega) | (show ¬ (14 : Int) ≤ 11; omega) | (show ¬ (14 : Int) ≤ 12; omega) | (show ¬ (14 : Int) ≤ 13; omega))
section
variable {P : Program} {w : World} {K : PySem.W.Frag} {mg : Str → Option Value} {base : Heap}
theorem ok_answer_call {x : Fs} (D : Ds K mg x) : FnOk P w K mg base CX0 15 x.a_answer_call x.f_answer_call ["slots", "call", "handed"] (spAC x.C) := by
 obtain ⟨_, h_SLOTS⟩ := D.cl.txt.h_SLOTS
 obtain ⟨_, h_TESTS⟩ := D.cl.txt.h_TESTS
 obtain ⟨_, h_NO_SLOT⟩ := D.cl.txt.h_NO_SLOT
 obtain ⟨_, h_NO_TEST⟩ := D.cl.txt.h_NO_TEST
 have A_of : FnOk P w K mg base CX0 14 _ _ ["slots", "handed"] (spAnswer x.C _) := (ok_answer_of D).mono (by decide)
 have A_parts : FnOk P w K mg base CX0 14 _ _ ["slots", "handed"] (spAnswer x.C _) := (ok_answer_parts D).mono (by decide)
 have A_told : FnOk P w K mg base CX0 14 _ _ ["slots", "handed"] (spAnswer x.C _) := (ok_answer_told D).mono (by decide)
 have A_has : FnOk P w K mg base CX0 14 _ _ ["slots", "handed"] (spAnswer x.C _) := (ok_answer_has D).mono (by decide)
 have A_count : FnOk P w K mg base CX0 14 _ _ ["slots", "handed"] (spAnswer x.C _) := (ok_answer_count D).mono (by decide)
 have A_first : FnOk P w K mg base CX0 14 _ _ ["slots", "handed"] (spAnswer x.C _) := (ok_answer_first D).mono (by decide)
 have A_join : FnOk P w K mg base CX0 14 _ _ ["slots", "handed"] (spAnswer x.C _) := (ok_answer_join D).mono (by decide)
 have A_meet : FnOk P w K mg base CX0 14 _ _ ["slots", "handed"] (spAnswer x.C _) := (ok_answer_meet D).mono (by decide)
 refine D.d_answer_call.fn.ok sc_answer_call (fun vs H Q E h => ?_) (fun cdv A outer s H vs Q E hr h => ?_)
 ·obtain ⟨sl, hd, s, k, rfl, _⟩ := h
  rfl
 ·obtain ⟨sl, hd, st, k, rfl, hS, hh, hok, kQ⟩ := h
  refine ⟨_, (pss_cons (ps_if (PW.pt (pw_and (pt_cmpR op_in_seq (pv 1) (pe_glob (v := .ref x.g_CALLS_WITH_A_TEST) rfl D.h_CALLS_WITH_A_TEST rfl) (by with_unfolding_all rfl)) (pw_and1 (PW.pt (pw_or (pt_cmpR op_lt (pe_ix ix_list (pv 2) pe_int (fun _ _ => rfl)) pe_int (nomark _)) (pw_or1 (pt_cmpR op_ge (pe_ix ix_list (pv 2) pe_int (fun _ _ => rfl)) (pe_glob (v := .int 4) rfl h_TESTS ⟨_, rfl⟩) (nomark _)))))))) (pss_one (ps_ret (pe_lst (pa_cons (pe_glob (v := .int (-3)) rfl h_NO_TEST ⟨_, rfl⟩) pa_nil)))) pss_nil)
 (pss_cons (ps_for PassesOwn.never rfl (pi_list (pe_slice sl_list (pv 2) (po_some (pe_ix ix_tup (pe_glob (v := .ref x.g_SLOTS_FROM) rfl D.h_SLOTS_FROM rfl) (pv 1) (fun _ _ => rfl))) (po_some (pe_ix ix_tup (pe_glob (v := .ref x.g_SLOTS_UP_TO) rfl D.h_SLOTS_UP_TO rfl) (pv 1) (fun _ _ => rfl))))) (pg_name (i := 3) sc_answer_call.nd rfl (Or.inl rfl)) (pss_one (ps_if (PW.pt (pw_or (pt_cmpR op_lt (pv 3) pe_int (nomark _)) (pw_or1 (pt_cmpR op_ge (pv 3) (pe_glob (v := .int 6) rfl h_SLOTS ⟨_, rfl⟩) (nomark _))))) (pss_one (ps_ret (pe_lst (pa_cons (pe_glob (v := .int (-2)) rfl h_NO_SLOT ⟨_, rfl⟩) pa_nil)))) pss_nil)))
 (pss_cons (ps_set (i := 4) sc_answer_call.nd rfl (Or.inl rfl) (pe_ix ix_tup (pe_glob (v := .ref x.g_ANSWERERS) rfl D.h_ANSWERERS rfl) (pv 1) (fun _ _ => rfl)))
 (pss_one (ps_ret (pe_callV (i := 4) hr (pa_cons (pv 0) (pa_cons (pv 2) pa_nil)))))))), ?_⟩
  refine ⟨_, rfl, _, _, rfl, .inr (D.t_CALLS_WITH_A_TEST H), rfl, flat_ints _, _, rfl, ?_⟩
  refine ifAndT (decide (firstArg k < 0) || decide (firstArg k ≥ 4)) (fun e Q' k' => ?_) ?_
  ·refine ⟨_, rfl, hd, _, _, _, rfl, rfl, SqL.of hh, ix_hand (j := 0) (first_at k), _, _, rfl, rfl, _, rfl, ?_⟩
   refine ifOrT (decide (firstArg k ≥ 4)) (fun e Q2 k2 => ⟨_, rfl, hd, _, _, _, rfl, rfl, SqL.of hh, ix_hand (j := 0) (first_at k), _, _, rfl, rfl, _, rfl, k2⟩) k'
  show if (inV (.int (KM.codeOf k)) (([14, 15] : List Int).map V.int) && (decide (firstArg k < 0) || decide (firstArg k ≥ 4))) = true then _ else _
  rw [test_in k]
  refine ifBT (fun hb => ?_) (fun hb => ?_)
  ·rw [Bool.and_eq_true, decide_eq_true_eq, Bool.or_eq_true, decide_eq_true_eq, decide_eq_true_eq] at hb
   rw [refuse_test hb.1 (by omega)] at kQ
   exact ⟨by show 1 ≤ sizeLine; decide, fun q hq => Ans.new kQ hS hq⟩
  have ht : 14 ≤ KM.codeOf k → 0 ≤ firstArg k ∧ firstArg k ≤ 3 := fun h => by
   rw [decide_eq_true h, Bool.true_and, Bool.or_eq_false_iff, decide_eq_false_iff_not, decide_eq_false_iff_not] at hb
   omega
  refine ⟨_, rfl, _, rfl, x.g_SLOTS_FROM, _, _, _, rfl, rfl, D.t_SLOTS_FROM H, from_at k, _, rfl, _, rfl, x.g_SLOTS_UP_TO, _, _, _, rfl, rfl, D.t_SLOTS_UP_TO H, to_at k, _, rfl, hd, _, rfl, SqL.of hh, fun nb hnb => ?_⟩
  have hnl : upd H nb (.lst (cutV ((hand k).map V.int) (some ((fromOf k : Nat) : Int)) (some ((toOf k : Nat) : Int)))) nb = some (.lst ((KM.slotsOf k).map V.int)) := by
   rw [upd_same, cut_slots]
  have s1 : Same H (upd H nb (.lst (cutV ((hand k).map V.int) (some ((fromOf k : Nat) : Int)) (some ((toOf k : Nat) : Int))))) := Same.new hnb
  generalize upd H nb (.lst (cutV ((hand k).map V.int) (some ((fromOf k : Nat) : Int)) (some ((toOf k : Nat) : Int)))) = H1 at hnl s1 ⊢
  refine ⟨nb, rfl, ⟨_, SqL.of hnl⟩, for_list (K := K) (a := nb) (xs := (KM.slotsOf k).map V.int) (fun i σ H' => H' = H1 ∧ (∀ z ∈ (KM.slotsOf k).take i, KM.Slot z) ∧ ∃ c : Option V, σ = [some (.ref sl), some (.int (KM.codeOf k)), some (.ref hd), c, none])
   ⟨rfl, (fun z hz => by rw [List.take_zero] at hz; cases hz), none, rfl⟩ (fun i σ H' _ h => by rw [h.1]; exact SqL.of hnl) ?_ ?_⟩
  ·rintro i y σ H' hi ⟨rfl, hz0, c, rfl⟩
   obtain ⟨z, hz, rfl⟩ := of_map hi
   refine ⟨_, rfl, _, _, rfl, rfl, _, rfl, ?_⟩
   refine ifOrT (decide (z ≥ 6)) (fun e Q' k' => ⟨_, rfl, _, _, rfl, rfl, _, rfl, k'⟩) ?_
   refine ifBT (fun hb => ?_) (fun hb => ?_)
   ·rw [Bool.or_eq_true, decide_eq_true_eq, decide_eq_true_eq] at hb
    have hns : ¬ KM.Slot z := fun q => by
     have := q.1
     have := q.2
     omega
    rw [refuse_slot ht ⟨z, List.mem_of_getElem? hz, hns⟩] at kQ
    refine ⟨by show 1 ≤ sizeLine; decide, fun q hq => ?_⟩
    have s2 := s1.trans (Same.new (o := HO.lst (([-2] : List Int).map V.int)) hq)
    exact kQ _ q (s2.kept sl) (hS.same s2) (s1.free hq) upd_same
   ·rw [Bool.or_eq_false_iff, decide_eq_false_iff_not, decide_eq_false_iff_not] at hb
    refine ⟨rfl, fun u hu => ?_, _, rfl⟩
    rw [take_snoc hz] at hu
    rcases List.mem_append.mp hu with m | m
    ·exact hz0 u m
    ·rw [List.mem_singleton] at m
     subst m
     exact ⟨by omega, by omega⟩
  ·rintro σ H' ⟨rfl, hz0, c, rfl⟩
   rw [List.length_map, List.take_length] at hz0
   have hS1 := hS.same s1
   have hh1 := s1 _ _ hh
   have kA : Ans x.C H' sl (Vadomb.step st k) Q := fun H2 q kp hS2 hq hl => kQ H2 q ((s1.kept sl).trans kp) hS2 (s1.free hq) hl
   cases k with
   | of i l => exact ⟨_, rfl, x.g_ANSWERERS, _, _, _, rfl, rfl, D.t_ANSWERERS H', atI_nat (j := 0) rfl, x.a_answer_of, rfl, D.d_answer_of.fn.kp, _, rfl, _, rfl, _, _, _, A_of, D.d_answer_of.bd, sl, hd, st, _, rfl, hS1, hh1, ⟨i, l, rfl, hz0 i (List.mem_cons_self ..)⟩, hok, kA⟩
   | parts i lo hi m r z => exact ⟨_, rfl, x.g_ANSWERERS, _, _, _, rfl, rfl, D.t_ANSWERERS H', atI_nat (j := 1) rfl, x.a_answer_parts, rfl, D.d_answer_parts.fn.kp, _, rfl, _, rfl, _, _, _, A_parts, D.d_answer_parts.bd, sl, hd, st, _, rfl, hS1, hh1, ⟨i, lo, hi, m, r, z, rfl, hz0 i (List.mem_cons_self ..)⟩, hok, kA⟩
   | told i => exact ⟨_, rfl, x.g_ANSWERERS, _, _, _, rfl, rfl, D.t_ANSWERERS H', atI_nat (j := 2) rfl, x.a_answer_told, rfl, D.d_answer_told.fn.kp, _, rfl, _, rfl, _, _, _, A_told, D.d_answer_told.bd, sl, hd, st, _, rfl, hS1, hh1, ⟨i, rfl, hz0 i (List.mem_cons_self ..)⟩, hok, kA⟩
   | has i n => exact ⟨_, rfl, x.g_ANSWERERS, _, _, _, rfl, rfl, D.t_ANSWERERS H', atI_nat (j := 3) rfl, x.a_answer_has, rfl, D.d_answer_has.fn.kp, _, rfl, _, rfl, _, _, _, A_has, D.d_answer_has.bd, sl, hd, st, _, rfl, hS1, hh1, ⟨i, n, rfl, hz0 i (List.mem_cons_self ..)⟩, hok, kA⟩
   | count i => exact ⟨_, rfl, x.g_ANSWERERS, _, _, _, rfl, rfl, D.t_ANSWERERS H', atI_nat (j := 4) rfl, x.a_answer_count, rfl, D.d_answer_count.fn.kp, _, rfl, _, rfl, _, _, _, A_count, D.d_answer_count.bd, sl, hd, st, _, rfl, hS1, hh1, ⟨i, rfl, hz0 i (List.mem_cons_self ..)⟩, hok, kA⟩
   | first i n => exact ⟨_, rfl, x.g_ANSWERERS, _, _, _, rfl, rfl, D.t_ANSWERERS H', atI_nat (j := 5) rfl, x.a_answer_first, rfl, D.d_answer_first.fn.kp, _, rfl, _, rfl, _, _, _, A_first, D.d_answer_first.bd, sl, hd, st, _, rfl, hS1, hh1, ⟨i, n, rfl, hz0 i (List.mem_cons_self ..)⟩, hok, kA⟩
   | join n a b => exact ⟨_, rfl, x.g_ANSWERERS, _, _, _, rfl, rfl, D.t_ANSWERERS H', atI_nat (j := 6) rfl, x.a_answer_join, rfl, D.d_answer_join.fn.kp, _, rfl, _, rfl, _, _, _, A_join, D.d_answer_join.bd, sl, hd, st, _, rfl, hS1, hh1, ⟨n, a, b, rfl, hz0 n (by simp [KM.slotsOf]), hz0 a (by simp [KM.slotsOf]), hz0 b (by simp [KM.slotsOf])⟩, hok, kA⟩
   | meet n a b => exact ⟨_, rfl, x.g_ANSWERERS, _, _, _, rfl, rfl, D.t_ANSWERERS H', atI_nat (j := 7) rfl, x.a_answer_meet, rfl, D.d_answer_meet.fn.kp, _, rfl, _, rfl, _, _, _, A_meet, D.d_answer_meet.bd, sl, hd, st, _, rfl, hS1, hh1, ⟨n, a, b, rfl, hz0 n (by simp [KM.slotsOf]), hz0 a (by simp [KM.slotsOf]), hz0 b (by simp [KM.slotsOf])⟩, hok, kA⟩
   | widen n a b ts => exact ⟨_, rfl, x.g_ANSWERERS, _, _, _, rfl, rfl, D.t_ANSWERERS H', atI_nat (j := 8) rfl, x.a_answer_widen, rfl, D.d_answer_widen.fn.kp, _, rfl, _, rfl, _, _, _, ok_answer_widen D, D.d_answer_widen.bd, sl, hd, st, _, rfl, hS1, hh1, ⟨n, a, b, ts, rfl, hz0 n (by simp [KM.slotsOf]), hz0 a (by simp [KM.slotsOf]), hz0 b (by simp [KM.slotsOf])⟩, hok, kA⟩
   | within a b => exact ⟨_, rfl, x.g_ANSWERERS, _, _, _, rfl, rfl, D.t_ANSWERERS H', atI_nat (j := 9) rfl, x.a_answer_within, rfl, D.d_answer_within.fn.kp, _, rfl, _, rfl, _, _, _, ok_answer_within D, D.d_answer_within.bd, sl, hd, st, _, rfl, hS1, hh1, ⟨a, b, rfl, hz0 a (by simp [KM.slotsOf]), hz0 b (by simp [KM.slotsOf])⟩, hok, kA⟩
   | plus n a b => exact ⟨_, rfl, x.g_ANSWERERS, _, _, _, rfl, rfl, D.t_ANSWERERS H', atI_nat (j := 10) rfl, x.a_answer_plus, rfl, D.d_answer_plus.fn.kp, _, rfl, _, rfl, _, _, _, ok_answer_plus D, D.d_answer_plus.bd, sl, hd, st, _, rfl, hS1, hh1, ⟨n, a, b, rfl, hz0 n (by simp [KM.slotsOf]), hz0 a (by simp [KM.slotsOf]), hz0 b (by simp [KM.slotsOf])⟩, hok, kA⟩
   | minus n a b => exact ⟨_, rfl, x.g_ANSWERERS, _, _, _, rfl, rfl, D.t_ANSWERERS H', atI_nat (j := 11) rfl, x.a_answer_minus, rfl, D.d_answer_minus.fn.kp, _, rfl, _, rfl, _, _, _, ok_answer_minus D, D.d_answer_minus.bd, sl, hd, st, _, rfl, hS1, hh1, ⟨n, a, b, rfl, hz0 n (by simp [KM.slotsOf]), hz0 a (by simp [KM.slotsOf]), hz0 b (by simp [KM.slotsOf])⟩, hok, kA⟩
   | times n a b => exact ⟨_, rfl, x.g_ANSWERERS, _, _, _, rfl, rfl, D.t_ANSWERERS H', atI_nat (j := 12) rfl, x.a_answer_times, rfl, D.d_answer_times.fn.kp, _, rfl, _, rfl, _, _, _, ok_answer_times D, D.d_answer_times.bd, sl, hd, st, _, rfl, hS1, hh1, ⟨n, a, b, rfl, hz0 n (by simp [KM.slotsOf]), hz0 a (by simp [KM.slotsOf]), hz0 b (by simp [KM.slotsOf])⟩, hok, kA⟩
   | rem n a m => exact ⟨_, rfl, x.g_ANSWERERS, _, _, _, rfl, rfl, D.t_ANSWERERS H', atI_nat (j := 13) rfl, x.a_answer_rem, rfl, D.d_answer_rem.fn.kp, _, rfl, _, rfl, _, _, _, ok_answer_rem D, D.d_answer_rem.bd, sl, hd, st, _, rfl, hS1, hh1, ⟨n, a, m, rfl, hz0 n (by simp [KM.slotsOf]), hz0 a (by simp [KM.slotsOf])⟩, hok, kA⟩
   | test t n m a b => exact ⟨_, rfl, x.g_ANSWERERS, _, _, _, rfl, rfl, D.t_ANSWERERS H', atI_nat (j := 14) rfl, x.a_answer_test, rfl, D.d_answer_test.fn.kp, _, rfl, _, rfl, _, _, _, ok_answer_test D, D.d_answer_test.bd, sl, hd, st, _, rfl, hS1, hh1, ⟨t, n, m, a, b, rfl, ht (by show (14 : Int) ≤ 14; omega), hz0 n (by simp [KM.slotsOf]), hz0 m (by simp [KM.slotsOf]), hz0 a (by simp [KM.slotsOf]), hz0 b (by simp [KM.slotsOf])⟩, hok, kA⟩
   | verdict t a b => exact ⟨_, rfl, x.g_ANSWERERS, _, _, _, rfl, rfl, D.t_ANSWERERS H', atI_nat (j := 15) rfl, x.a_answer_verdict, rfl, D.d_answer_verdict.fn.kp, _, rfl, _, rfl, _, _, _, ok_answer_verdict D, D.d_answer_verdict.bd, sl, hd, st, _, rfl, hS1, hh1, ⟨t, a, b, rfl, ht (by show (14 : Int) ≤ 15; omega), hz0 a (by simp [KM.slotsOf]), hz0 b (by simp [KM.slotsOf])⟩, hok, kA⟩
end
end Kv
namespace Kv
open PySem PySem.Spec PyProof.Rows L2
open PySem.W (Codec)
theorem ok_all {P : Program} {w : World} {K : PySem.W.Frag} {mg : Str → Option Value} {base : Heap} {x : Fs} (D : Ds K mg x) : FnOk P w K mg base CX0 16 x.a_answers x.f_answers ["calls"] (spAns K) := ok_answers D (ok_answer_call D)
theorem all_mk {P : Program} {w : World} {K : PySem.W.Frag} {h : Heap} {mg : Str → Option Value} {fa : Addr} {C fI a0 a1 a2 a3 a4 a5 a6 a7 a8 a9 a10 a11 a12 a13 a14 a15 a16 a17 a18 a19 a20 a21 a22 a23 a24 a25 a26 a27 a28 a29 a30 a31 a32 a33 a34 a35 a36 a37 a38 a39 a40 a41 a42 a43 a44 a45 a46 a47 a48 a49 a50 a51 : Addr} {od_I an_I od0 an0 od1 an1 od2 an2 od3 an3 od4 an4 od5 an5 od6 an6 od7 an7 od8 an8 od9 an9 od10 an10 od11 an11 od12 an12 od13 an13 od14 an14 od15 an15 od16 an16 od17 an17 od18 an18 od19 an19 od20 an20 od21 an21 od22 an22 od23 an23 od24 an24 od25 an25 od26 an26 od27 an27 od28 an28 od29 an29 od30 an30 od31 an31 od32 an32 od33 an33 od34 an34 od35 an35 od36 an36 od37 an37 od38 an38 od39 an39 od40 an40 od41 an41 od42 an42 od43 an43 od44 an44 od45 an45 od46 an46 od47 an47 od48 an48 od49 an49 od50 an50 od51 an51 : Option Addr} {sl_I sl0 sl1 sl2 sl3 sl4 sl5 sl6 sl7 sl8 sl9 sl10 sl11 sl12 sl13 sl14 sl15 sl16 sl17 sl18 sl19 sl20 sl21 sl22 sl23 sl24 sl25 sl26 sl27 sl28 sl29 sl30 sl31 sl32 sl33 sl34 sl35 sl36 sl37 sl38 sl39 sl40 sl41 sl42 sl43 sl44 sl45 sl46 sl47 sl48 sl49 sl50 sl51 : Array (Option Value)} {oc_I kV_I dc_I pm_I cd_I ct_I oc0 kV0 dc0 pm0 cd0 ct0 oc1 kV1 dc1 pm1 cd1 ct1 oc2 kV2 dc2 pm2 cd2 ct2 oc3 kV3 dc3 pm3 cd3 ct3 oc4 kV4 dc4 pm4 cd4 ct4 oc5 kV5 dc5 pm5 cd5 ct5 oc6 kV6 dc6 pm6 cd6 ct6 oc7 kV7 dc7 pm7 cd7 ct7 oc8 kV8 dc8 pm8 cd8 ct8 oc9 kV9 dc9 pm9 cd9 ct9 oc10 kV10 dc10 pm10 cd10 ct10 oc11 kV11 dc11 pm11 cd11 ct11 oc12 kV12 dc12 pm12 cd12 ct12 oc13 kV13 dc13 pm13 cd13 ct13 oc14 kV14 dc14 pm14 cd14 ct14 oc15 kV15 dc15 pm15 cd15 ct15 oc16 kV16 dc16 pm16 cd16 ct16 oc17 kV17 dc17 pm17 cd17 ct17 oc18 kV18 dc18 pm18 cd18 ct18 oc19 kV19 dc19 pm19 cd19 ct19 oc20 kV20 dc20 pm20 cd20 ct20 oc21 kV21 dc21 pm21 cd21 ct21 oc22 kV22 dc22 pm22 cd22 ct22 oc23 kV23 dc23 pm23 cd23 ct23 oc24 kV24 dc24 pm24 cd24 ct24 oc25 kV25 dc25 pm25 cd25 ct25 oc26 kV26 dc26 pm26 cd26 ct26 oc27 kV27 dc27 pm27 cd27 ct27 oc28 kV28 dc28 pm28 cd28 ct28 oc29 kV29 dc29 pm29 cd29 ct29 oc30 kV30 dc30 pm30 cd30 ct30 oc31 kV31 dc31 pm31 cd31 ct31 oc32 kV32 dc32 pm32 cd32 ct32 oc33 kV33 dc33 pm33 cd33 ct33 oc34 kV34 dc34 pm34 cd34 ct34 oc35 kV35 dc35 pm35 cd35 ct35 oc36 kV36 dc36 pm36 cd36 ct36 oc37 kV37 dc37 pm37 cd37 ct37 oc38 kV38 dc38 pm38 cd38 ct38 oc39 kV39 dc39 pm39 cd39 ct39 oc40 kV40 dc40 pm40 cd40 ct40 oc41 kV41 dc41 pm41 cd41 ct41 oc42 kV42 dc42 pm42 cd42 ct42 oc43 kV43 dc43 pm43 cd43 ct43 oc44 kV44 dc44 pm44 cd44 ct44 oc45 kV45 dc45 pm45 cd45 ct45 oc46 kV46 dc46 pm46 cd46 ct46 oc47 kV47 dc47 pm47 cd47 ct47 oc48 kV48 dc48 pm48 cd48 ct48 oc49 kV49 dc49 pm49 cd49 ct49 oc50 kV50 dc50 pm50 cd50 ct50 oc51 kV51 dc51 pm51 cd51 ct51 : Value} {gq20 : Addr} {odq20 : Option Addr} {slq20 : Array (Option Value)} {epq20 : Nat} {gq21 : Addr} {odq21 : Option Addr} {slq21 : Array (Option Value)} {epq21 : Nat} {gq22 : Addr} {odq22 : Option Addr} {slq22 : Array (Option Value)} {epq22 : Nat} {gq23 : Addr} {odq23 : Option Addr} {slq23 : Array (Option Value)} {epq23 : Nat} {gq24 : Addr} {odq24 : Option Addr} {slq24 : Array (Option Value)} {epq24 : Nat} {gq25 : Addr} {odq25 : Option Addr} {slq25 : Array (Option Value)} {epq25 : Nat} {tkq1 tkq2 tkq3 tkq4 tkq5 tkq6 tkq7 tkq8 tkq9 tkq10 tkq11 tkq12 tkq13 tkq14 tkq15 tkq16 tkq17 tkq18 tkq19 tk20_0 tk20_1 tk20_2 tk20_3 tk20_4 tk20_5 tk20_6 tk20_7 tk20_8 tk20_9 tk20_10 tk20_11 tk20_12 tk20_13 tk20_14 tk20_15 tk21_0 tk21_1 tk21_2 tk21_3 tk21_4 tk21_5 tk21_6 tk21_7 tk21_8 tk21_9 tk21_10 tk21_11 tk21_12 tk21_13 tk21_14 tk21_15 tk22_0 tk22_1 tk22_2 tk22_3 tk22_4 tk22_5 tk22_6 tk22_7 tk22_8 tk22_9 tk22_10 tk22_11 tk22_12 tk22_13 tk22_14 tk22_15 tk23_0 tk23_1 tk24_0 tk24_1 : Tok}
  (X : K.In h) (G : h.Ns mainGlobals mg) (hfa : mg "answers" = some (.ref fa))
  (aC : PySem.W.nsIn K mainGlobals "Value" = some (some (.ref C)))
  (f_I : PySem.W.findIn K (.ref C) "__init__" = some (some (.ref fI)))
  (i_I : PySem.W.isFn K (.ref fI) = true)
  (l_I : K.lookup fI = some ⟨oc_I, od_I, .func (PySem.W.fnOf "__init__" "Value.__init__" (defArgs s_Value_init) (defBody s_Value_init) (defScope s_Value_init) .none kV_I dc_I pm_I an_I cd_I ct_I), sl_I⟩)
  (c_I : PySem.W.codeIn K cd_I "Value.__init__" = true)
  (k_I : PySem.W.keepIn K (.ref fI) = true)
  (n0 : PySem.W.nsIn K mainGlobals "greatest_divisor" = some (some (.ref a0)))
  (l0 : K.lookup a0 = some ⟨oc0, od0, .func (PySem.W.fnOf "greatest_divisor" "greatest_divisor" (defArgs s_greatest_divisor) (defBody s_greatest_divisor) (defScope s_greatest_divisor) .none kV0 dc0 pm0 an0 cd0 ct0), sl0⟩)
  (c0 : PySem.W.codeIn K cd0 "greatest_divisor" = true)
  (k0 : PySem.W.keepIn K (.ref a0) = true)
  (n1 : PySem.W.nsIn K mainGlobals "inverse" = some (some (.ref a1)))
  (l1 : K.lookup a1 = some ⟨oc1, od1, .func (PySem.W.fnOf "inverse" "inverse" (defArgs s_inverse) (defBody s_inverse) (defScope s_inverse) .none kV1 dc1 pm1 an1 cd1 ct1), sl1⟩)
  (c1 : PySem.W.codeIn K cd1 "inverse" = true)
  (k1 : PySem.W.keepIn K (.ref a1) = true)
  (n2 : PySem.W.nsIn K mainGlobals "shared_number" = some (some (.ref a2)))
  (l2 : K.lookup a2 = some ⟨oc2, od2, .func (PySem.W.fnOf "shared_number" "shared_number" (defArgs s_shared_number) (defBody s_shared_number) (defScope s_shared_number) .none kV2 dc2 pm2 an2 cd2 ct2), sl2⟩)
  (c2 : PySem.W.codeIn K cd2 "shared_number" = true)
  (k2 : PySem.W.keepIn K (.ref a2) = true)
  (n3 : PySem.W.nsIn K mainGlobals "is_beyond" = some (some (.ref a3)))
  (l3 : K.lookup a3 = some ⟨oc3, od3, .func (PySem.W.fnOf "is_beyond" "is_beyond" (defArgs s_is_beyond) (defBody s_is_beyond) (defScope s_is_beyond) .none kV3 dc3 pm3 an3 cd3 ct3), sl3⟩)
  (c3 : PySem.W.codeIn K cd3 "is_beyond" = true)
  (k3 : PySem.W.keepIn K (.ref a3) = true)
  (n4 : PySem.W.nsIn K mainGlobals "is_few" = some (some (.ref a4)))
  (l4 : K.lookup a4 = some ⟨oc4, od4, .func (PySem.W.fnOf "is_few" "is_few" (defArgs s_is_few) (defBody s_is_few) (defScope s_is_few) .none kV4 dc4 pm4 an4 cd4 ct4), sl4⟩)
  (c4 : PySem.W.codeIn K cd4 "is_few" = true)
  (k4 : PySem.W.keepIn K (.ref a4) = true)
  (n5 : PySem.W.nsIn K mainGlobals "common_distance" = some (some (.ref a5)))
  (l5 : K.lookup a5 = some ⟨oc5, od5, .func (PySem.W.fnOf "common_distance" "common_distance" (defArgs s_common_distance) (defBody s_common_distance) (defScope s_common_distance) .none kV5 dc5 pm5 an5 cd5 ct5), sl5⟩)
  (c5 : PySem.W.codeIn K cd5 "common_distance" = true)
  (k5 : PySem.W.keepIn K (.ref a5) = true)
  (n6 : PySem.W.nsIn K mainGlobals "few_of" = some (some (.ref a6)))
  (l6 : K.lookup a6 = some ⟨oc6, od6, .func (PySem.W.fnOf "few_of" "few_of" (defArgs s_few_of) (defBody s_few_of) (defScope s_few_of) .none kV6 dc6 pm6 an6 cd6 ct6), sl6⟩)
  (c6 : PySem.W.codeIn K cd6 "few_of" = true)
  (k6 : PySem.W.keepIn K (.ref a6) = true)
  (n7 : PySem.W.nsIn K mainGlobals "row_of" = some (some (.ref a7)))
  (l7 : K.lookup a7 = some ⟨oc7, od7, .func (PySem.W.fnOf "row_of" "row_of" (defArgs s_row_of) (defBody s_row_of) (defScope s_row_of) .none kV7 dc7 pm7 an7 cd7 ct7), sl7⟩)
  (c7 : PySem.W.codeIn K cd7 "row_of" = true)
  (k7 : PySem.W.keepIn K (.ref a7) = true)
  (n8 : PySem.W.nsIn K mainGlobals "made_of" = some (some (.ref a8)))
  (l8 : K.lookup a8 = some ⟨oc8, od8, .func (PySem.W.fnOf "made_of" "made_of" (defArgs s_made_of) (defBody s_made_of) (defScope s_made_of) .none kV8 dc8 pm8 an8 cd8 ct8), sl8⟩)
  (c8 : PySem.W.codeIn K cd8 "made_of" = true)
  (k8 : PySem.W.keepIn K (.ref a8) = true)
  (n9 : PySem.W.nsIn K mainGlobals "hull" = some (some (.ref a9)))
  (l9 : K.lookup a9 = some ⟨oc9, od9, .func (PySem.W.fnOf "hull" "hull" (defArgs s_hull) (defBody s_hull) (defScope s_hull) .none kV9 dc9 pm9 an9 cd9 ct9), sl9⟩)
  (c9 : PySem.W.codeIn K cd9 "hull" = true)
  (k9 : PySem.W.keepIn K (.ref a9) = true)
  (n10 : PySem.W.nsIn K mainGlobals "told" = some (some (.ref a10)))
  (l10 : K.lookup a10 = some ⟨oc10, od10, .func (PySem.W.fnOf "told" "told" (defArgs s_told) (defBody s_told) (defScope s_told) .none kV10 dc10 pm10 an10 cd10 ct10), sl10⟩)
  (c10 : PySem.W.codeIn K cd10 "told" = true)
  (k10 : PySem.W.keepIn K (.ref a10) = true)
  (n11 : PySem.W.nsIn K mainGlobals "has" = some (some (.ref a11)))
  (l11 : K.lookup a11 = some ⟨oc11, od11, .func (PySem.W.fnOf "has" "has" (defArgs s_has) (defBody s_has) (defScope s_has) .none kV11 dc11 pm11 an11 cd11 ct11), sl11⟩)
  (c11 : PySem.W.codeIn K cd11 "has" = true)
  (k11 : PySem.W.keepIn K (.ref a11) = true)
  (n12 : PySem.W.nsIn K mainGlobals "first_numbers" = some (some (.ref a12)))
  (l12 : K.lookup a12 = some ⟨oc12, od12, .func (PySem.W.fnOf "first_numbers" "first_numbers" (defArgs s_first_numbers) (defBody s_first_numbers) (defScope s_first_numbers) .none kV12 dc12 pm12 an12 cd12 ct12), sl12⟩)
  (c12 : PySem.W.codeIn K cd12 "first_numbers" = true)
  (k12 : PySem.W.keepIn K (.ref a12) = true)
  (n13 : PySem.W.nsIn K mainGlobals "between" = some (some (.ref a13)))
  (l13 : K.lookup a13 = some ⟨oc13, od13, .func (PySem.W.fnOf "between" "between" (defArgs s_between) (defBody s_between) (defScope s_between) .none kV13 dc13 pm13 an13 cd13 ct13), sl13⟩)
  (c13 : PySem.W.codeIn K cd13 "between" = true)
  (k13 : PySem.W.keepIn K (.ref a13) = true)
  (n14 : PySem.W.nsIn K mainGlobals "without" = some (some (.ref a14)))
  (l14 : K.lookup a14 = some ⟨oc14, od14, .func (PySem.W.fnOf "without" "without" (defArgs s_without) (defBody s_without) (defScope s_without) .none kV14 dc14 pm14 an14 cd14 ct14), sl14⟩)
  (c14 : PySem.W.codeIn K cd14 "without" = true)
  (k14 : PySem.W.keepIn K (.ref a14) = true)
  (n15 : PySem.W.nsIn K mainGlobals "negated" = some (some (.ref a15)))
  (l15 : K.lookup a15 = some ⟨oc15, od15, .func (PySem.W.fnOf "negated" "negated" (defArgs s_negated) (defBody s_negated) (defScope s_negated) .none kV15 dc15 pm15 an15 cd15 ct15), sl15⟩)
  (c15 : PySem.W.codeIn K cd15 "negated" = true)
  (k15 : PySem.W.keepIn K (.ref a15) = true)
  (n16 : PySem.W.nsIn K mainGlobals "join" = some (some (.ref a16)))
  (l16 : K.lookup a16 = some ⟨oc16, od16, .func (PySem.W.fnOf "join" "join" (defArgs s_join) (defBody s_join) (defScope s_join) .none kV16 dc16 pm16 an16 cd16 ct16), sl16⟩)
  (c16 : PySem.W.codeIn K cd16 "join" = true)
  (k16 : PySem.W.keepIn K (.ref a16) = true)
  (n17 : PySem.W.nsIn K mainGlobals "meet" = some (some (.ref a17)))
  (l17 : K.lookup a17 = some ⟨oc17, od17, .func (PySem.W.fnOf "meet" "meet" (defArgs s_meet) (defBody s_meet) (defScope s_meet) .none kV17 dc17 pm17 an17 cd17 ct17), sl17⟩)
  (c17 : PySem.W.codeIn K cd17 "meet" = true)
  (k17 : PySem.W.keepIn K (.ref a17) = true)
  (n18 : PySem.W.nsIn K mainGlobals "is_within" = some (some (.ref a18)))
  (l18 : K.lookup a18 = some ⟨oc18, od18, .func (PySem.W.fnOf "is_within" "is_within" (defArgs s_is_within) (defBody s_is_within) (defScope s_is_within) .none kV18 dc18 pm18 an18 cd18 ct18), sl18⟩)
  (c18 : PySem.W.codeIn K cd18 "is_within" = true)
  (k18 : PySem.W.keepIn K (.ref a18) = true)
  (n19 : PySem.W.nsIn K mainGlobals "handful" = some (some (.ref a19)))
  (l19 : K.lookup a19 = some ⟨oc19, od19, .func (PySem.W.fnOf "handful" "handful" (defArgs s_handful) (defBody s_handful) (defScope s_handful) .none kV19 dc19 pm19 an19 cd19 ct19), sl19⟩)
  (c19 : PySem.W.codeIn K cd19 "handful" = true)
  (k19 : PySem.W.keepIn K (.ref a19) = true)
  (n20 : PySem.W.nsIn K mainGlobals "few_plus" = some (some (.ref a20)))
  (l20 : K.lookup a20 = some ⟨oc20, od20, .func (PySem.W.fnOf "few_plus" "few_plus" (defArgs s_few_plus) (defBody s_few_plus) (defScope s_few_plus) .none kV20 dc20 pm20 an20 cd20 ct20), sl20⟩)
  (c20 : PySem.W.codeIn K cd20 "few_plus" = true)
  (k20 : PySem.W.keepIn K (.ref a20) = true)
  (n21 : PySem.W.nsIn K mainGlobals "plus" = some (some (.ref a21)))
  (l21 : K.lookup a21 = some ⟨oc21, od21, .func (PySem.W.fnOf "plus" "plus" (defArgs s_plus) (defBody s_plus) (defScope s_plus) .none kV21 dc21 pm21 an21 cd21 ct21), sl21⟩)
  (c21 : PySem.W.codeIn K cd21 "plus" = true)
  (k21 : PySem.W.keepIn K (.ref a21) = true)
  (n22 : PySem.W.nsIn K mainGlobals "minus" = some (some (.ref a22)))
  (l22 : K.lookup a22 = some ⟨oc22, od22, .func (PySem.W.fnOf "minus" "minus" (defArgs s_minus) (defBody s_minus) (defScope s_minus) .none kV22 dc22 pm22 an22 cd22 ct22), sl22⟩)
  (c22 : PySem.W.codeIn K cd22 "minus" = true)
  (k22 : PySem.W.keepIn K (.ref a22) = true)
  (n23 : PySem.W.nsIn K mainGlobals "few_times" = some (some (.ref a23)))
  (l23 : K.lookup a23 = some ⟨oc23, od23, .func (PySem.W.fnOf "few_times" "few_times" (defArgs s_few_times) (defBody s_few_times) (defScope s_few_times) .none kV23 dc23 pm23 an23 cd23 ct23), sl23⟩)
  (c23 : PySem.W.codeIn K cd23 "few_times" = true)
  (k23 : PySem.W.keepIn K (.ref a23) = true)
  (n24 : PySem.W.nsIn K mainGlobals "times" = some (some (.ref a24)))
  (l24 : K.lookup a24 = some ⟨oc24, od24, .func (PySem.W.fnOf "times" "times" (defArgs s_times) (defBody s_times) (defScope s_times) .none kV24 dc24 pm24 an24 cd24 ct24), sl24⟩)
  (c24 : PySem.W.codeIn K cd24 "times" = true)
  (k24 : PySem.W.keepIn K (.ref a24) = true)
  (n25 : PySem.W.nsIn K mainGlobals "rem" = some (some (.ref a25)))
  (l25 : K.lookup a25 = some ⟨oc25, od25, .func (PySem.W.fnOf "rem" "rem" (defArgs s_rem) (defBody s_rem) (defScope s_rem) .none kV25 dc25 pm25 an25 cd25 ct25), sl25⟩)
  (c25 : PySem.W.codeIn K cd25 "rem" = true)
  (k25 : PySem.W.keepIn K (.ref a25) = true)
  (n26 : PySem.W.nsIn K mainGlobals "widen" = some (some (.ref a26)))
  (l26 : K.lookup a26 = some ⟨oc26, od26, .func (PySem.W.fnOf "widen" "widen" (defArgs s_widen) (defBody s_widen) (defScope s_widen) .none kV26 dc26 pm26 an26 cd26 ct26), sl26⟩)
  (c26 : PySem.W.codeIn K cd26 "widen" = true)
  (k26 : PySem.W.keepIn K (.ref a26) = true)
  (n27 : PySem.W.nsIn K mainGlobals "left_unequal" = some (some (.ref a27)))
  (l27 : K.lookup a27 = some ⟨oc27, od27, .func (PySem.W.fnOf "left_unequal" "left_unequal" (defArgs s_left_unequal) (defBody s_left_unequal) (defScope s_left_unequal) .none kV27 dc27 pm27 an27 cd27 ct27), sl27⟩)
  (c27 : PySem.W.codeIn K cd27 "left_unequal" = true)
  (k27 : PySem.W.keepIn K (.ref a27) = true)
  (n28 : PySem.W.nsIn K mainGlobals "left_of_each" = some (some (.ref a28)))
  (l28 : K.lookup a28 = some ⟨oc28, od28, .func (PySem.W.fnOf "left_of_each" "left_of_each" (defArgs s_left_of_each) (defBody s_left_of_each) (defScope s_left_of_each) .none kV28 dc28 pm28 an28 cd28 ct28), sl28⟩)
  (c28 : PySem.W.codeIn K cd28 "left_of_each" = true)
  (k28 : PySem.W.keepIn K (.ref a28) = true)
  (n29 : PySem.W.nsIn K mainGlobals "left_of_both" = some (some (.ref a29)))
  (l29 : K.lookup a29 = some ⟨oc29, od29, .func (PySem.W.fnOf "left_of_both" "left_of_both" (defArgs s_left_of_both) (defBody s_left_of_both) (defScope s_left_of_both) .none kV29 dc29 pm29 an29 cd29 ct29), sl29⟩)
  (c29 : PySem.W.codeIn K cd29 "left_of_both" = true)
  (k29 : PySem.W.keepIn K (.ref a29) = true)
  (n30 : PySem.W.nsIn K mainGlobals "leaves_none" = some (some (.ref a30)))
  (l30 : K.lookup a30 = some ⟨oc30, od30, .func (PySem.W.fnOf "leaves_none" "leaves_none" (defArgs s_leaves_none) (defBody s_leaves_none) (defScope s_leaves_none) .none kV30 dc30 pm30 an30 cd30 ct30), sl30⟩)
  (c30 : PySem.W.codeIn K cd30 "leaves_none" = true)
  (k30 : PySem.W.keepIn K (.ref a30) = true)
  (n31 : PySem.W.nsIn K mainGlobals "leaves_none_opposite" = some (some (.ref a31)))
  (l31 : K.lookup a31 = some ⟨oc31, od31, .func (PySem.W.fnOf "leaves_none_opposite" "leaves_none_opposite" (defArgs s_leaves_none_opposite) (defBody s_leaves_none_opposite) (defScope s_leaves_none_opposite) .none kV31 dc31 pm31 an31 cd31 ct31), sl31⟩)
  (c31 : PySem.W.codeIn K cd31 "leaves_none_opposite" = true)
  (k31 : PySem.W.keepIn K (.ref a31) = true)
  (n32 : PySem.W.nsIn K mainGlobals "verdict" = some (some (.ref a32)))
  (l32 : K.lookup a32 = some ⟨oc32, od32, .func (PySem.W.fnOf "verdict" "verdict" (defArgs s_verdict) (defBody s_verdict) (defScope s_verdict) .none kV32 dc32 pm32 an32 cd32 ct32), sl32⟩)
  (c32 : PySem.W.codeIn K cd32 "verdict" = true)
  (k32 : PySem.W.keepIn K (.ref a32) = true)
  (n33 : PySem.W.nsIn K mainGlobals "keep" = some (some (.ref a33)))
  (l33 : K.lookup a33 = some ⟨oc33, od33, .func (PySem.W.fnOf "keep" "keep" (defArgs s_keep) (defBody s_keep) (defScope s_keep) .none kV33 dc33 pm33 an33 cd33 ct33), sl33⟩)
  (c33 : PySem.W.codeIn K cd33 "keep" = true)
  (k33 : PySem.W.keepIn K (.ref a33) = true)
  (n34 : PySem.W.nsIn K mainGlobals "answer_of" = some (some (.ref a34)))
  (l34 : K.lookup a34 = some ⟨oc34, od34, .func (PySem.W.fnOf "answer_of" "answer_of" (defArgs s_answer_of) (defBody s_answer_of) (defScope s_answer_of) .none kV34 dc34 pm34 an34 cd34 ct34), sl34⟩)
  (c34 : PySem.W.codeIn K cd34 "answer_of" = true)
  (k34 : PySem.W.keepIn K (.ref a34) = true)
  (n35 : PySem.W.nsIn K mainGlobals "answer_parts" = some (some (.ref a35)))
  (l35 : K.lookup a35 = some ⟨oc35, od35, .func (PySem.W.fnOf "answer_parts" "answer_parts" (defArgs s_answer_parts) (defBody s_answer_parts) (defScope s_answer_parts) .none kV35 dc35 pm35 an35 cd35 ct35), sl35⟩)
  (c35 : PySem.W.codeIn K cd35 "answer_parts" = true)
  (k35 : PySem.W.keepIn K (.ref a35) = true)
  (n36 : PySem.W.nsIn K mainGlobals "answer_told" = some (some (.ref a36)))
  (l36 : K.lookup a36 = some ⟨oc36, od36, .func (PySem.W.fnOf "answer_told" "answer_told" (defArgs s_answer_told) (defBody s_answer_told) (defScope s_answer_told) .none kV36 dc36 pm36 an36 cd36 ct36), sl36⟩)
  (c36 : PySem.W.codeIn K cd36 "answer_told" = true)
  (k36 : PySem.W.keepIn K (.ref a36) = true)
  (n37 : PySem.W.nsIn K mainGlobals "answer_has" = some (some (.ref a37)))
  (l37 : K.lookup a37 = some ⟨oc37, od37, .func (PySem.W.fnOf "answer_has" "answer_has" (defArgs s_answer_has) (defBody s_answer_has) (defScope s_answer_has) .none kV37 dc37 pm37 an37 cd37 ct37), sl37⟩)
  (c37 : PySem.W.codeIn K cd37 "answer_has" = true)
  (k37 : PySem.W.keepIn K (.ref a37) = true)
  (n38 : PySem.W.nsIn K mainGlobals "answer_count" = some (some (.ref a38)))
  (l38 : K.lookup a38 = some ⟨oc38, od38, .func (PySem.W.fnOf "answer_count" "answer_count" (defArgs s_answer_count) (defBody s_answer_count) (defScope s_answer_count) .none kV38 dc38 pm38 an38 cd38 ct38), sl38⟩)
  (c38 : PySem.W.codeIn K cd38 "answer_count" = true)
  (k38 : PySem.W.keepIn K (.ref a38) = true)
  (n39 : PySem.W.nsIn K mainGlobals "answer_first" = some (some (.ref a39)))
  (l39 : K.lookup a39 = some ⟨oc39, od39, .func (PySem.W.fnOf "answer_first" "answer_first" (defArgs s_answer_first) (defBody s_answer_first) (defScope s_answer_first) .none kV39 dc39 pm39 an39 cd39 ct39), sl39⟩)
  (c39 : PySem.W.codeIn K cd39 "answer_first" = true)
  (k39 : PySem.W.keepIn K (.ref a39) = true)
  (n40 : PySem.W.nsIn K mainGlobals "answer_join" = some (some (.ref a40)))
  (l40 : K.lookup a40 = some ⟨oc40, od40, .func (PySem.W.fnOf "answer_join" "answer_join" (defArgs s_answer_join) (defBody s_answer_join) (defScope s_answer_join) .none kV40 dc40 pm40 an40 cd40 ct40), sl40⟩)
  (c40 : PySem.W.codeIn K cd40 "answer_join" = true)
  (k40 : PySem.W.keepIn K (.ref a40) = true)
  (n41 : PySem.W.nsIn K mainGlobals "answer_meet" = some (some (.ref a41)))
  (l41 : K.lookup a41 = some ⟨oc41, od41, .func (PySem.W.fnOf "answer_meet" "answer_meet" (defArgs s_answer_meet) (defBody s_answer_meet) (defScope s_answer_meet) .none kV41 dc41 pm41 an41 cd41 ct41), sl41⟩)
  (c41 : PySem.W.codeIn K cd41 "answer_meet" = true)
  (k41 : PySem.W.keepIn K (.ref a41) = true)
  (n42 : PySem.W.nsIn K mainGlobals "answer_widen" = some (some (.ref a42)))
  (l42 : K.lookup a42 = some ⟨oc42, od42, .func (PySem.W.fnOf "answer_widen" "answer_widen" (defArgs s_answer_widen) (defBody s_answer_widen) (defScope s_answer_widen) .none kV42 dc42 pm42 an42 cd42 ct42), sl42⟩)
  (c42 : PySem.W.codeIn K cd42 "answer_widen" = true)
  (k42 : PySem.W.keepIn K (.ref a42) = true)
  (n43 : PySem.W.nsIn K mainGlobals "answer_within" = some (some (.ref a43)))
  (l43 : K.lookup a43 = some ⟨oc43, od43, .func (PySem.W.fnOf "answer_within" "answer_within" (defArgs s_answer_within) (defBody s_answer_within) (defScope s_answer_within) .none kV43 dc43 pm43 an43 cd43 ct43), sl43⟩)
  (c43 : PySem.W.codeIn K cd43 "answer_within" = true)
  (k43 : PySem.W.keepIn K (.ref a43) = true)
  (n44 : PySem.W.nsIn K mainGlobals "answer_plus" = some (some (.ref a44)))
  (l44 : K.lookup a44 = some ⟨oc44, od44, .func (PySem.W.fnOf "answer_plus" "answer_plus" (defArgs s_answer_plus) (defBody s_answer_plus) (defScope s_answer_plus) .none kV44 dc44 pm44 an44 cd44 ct44), sl44⟩)
  (c44 : PySem.W.codeIn K cd44 "answer_plus" = true)
  (k44 : PySem.W.keepIn K (.ref a44) = true)
  (n45 : PySem.W.nsIn K mainGlobals "answer_minus" = some (some (.ref a45)))
  (l45 : K.lookup a45 = some ⟨oc45, od45, .func (PySem.W.fnOf "answer_minus" "answer_minus" (defArgs s_answer_minus) (defBody s_answer_minus) (defScope s_answer_minus) .none kV45 dc45 pm45 an45 cd45 ct45), sl45⟩)
  (c45 : PySem.W.codeIn K cd45 "answer_minus" = true)
  (k45 : PySem.W.keepIn K (.ref a45) = true)
  (n46 : PySem.W.nsIn K mainGlobals "answer_times" = some (some (.ref a46)))
  (l46 : K.lookup a46 = some ⟨oc46, od46, .func (PySem.W.fnOf "answer_times" "answer_times" (defArgs s_answer_times) (defBody s_answer_times) (defScope s_answer_times) .none kV46 dc46 pm46 an46 cd46 ct46), sl46⟩)
  (c46 : PySem.W.codeIn K cd46 "answer_times" = true)
  (k46 : PySem.W.keepIn K (.ref a46) = true)
  (n47 : PySem.W.nsIn K mainGlobals "answer_rem" = some (some (.ref a47)))
  (l47 : K.lookup a47 = some ⟨oc47, od47, .func (PySem.W.fnOf "answer_rem" "answer_rem" (defArgs s_answer_rem) (defBody s_answer_rem) (defScope s_answer_rem) .none kV47 dc47 pm47 an47 cd47 ct47), sl47⟩)
  (c47 : PySem.W.codeIn K cd47 "answer_rem" = true)
  (k47 : PySem.W.keepIn K (.ref a47) = true)
  (n48 : PySem.W.nsIn K mainGlobals "answer_test" = some (some (.ref a48)))
  (l48 : K.lookup a48 = some ⟨oc48, od48, .func (PySem.W.fnOf "answer_test" "answer_test" (defArgs s_answer_test) (defBody s_answer_test) (defScope s_answer_test) .none kV48 dc48 pm48 an48 cd48 ct48), sl48⟩)
  (c48 : PySem.W.codeIn K cd48 "answer_test" = true)
  (k48 : PySem.W.keepIn K (.ref a48) = true)
  (n49 : PySem.W.nsIn K mainGlobals "answer_verdict" = some (some (.ref a49)))
  (l49 : K.lookup a49 = some ⟨oc49, od49, .func (PySem.W.fnOf "answer_verdict" "answer_verdict" (defArgs s_answer_verdict) (defBody s_answer_verdict) (defScope s_answer_verdict) .none kV49 dc49 pm49 an49 cd49 ct49), sl49⟩)
  (c49 : PySem.W.codeIn K cd49 "answer_verdict" = true)
  (k49 : PySem.W.keepIn K (.ref a49) = true)
  (n50 : PySem.W.nsIn K mainGlobals "answer_call" = some (some (.ref a50)))
  (l50 : K.lookup a50 = some ⟨oc50, od50, .func (PySem.W.fnOf "answer_call" "answer_call" (defArgs s_answer_call) (defBody s_answer_call) (defScope s_answer_call) .none kV50 dc50 pm50 an50 cd50 ct50), sl50⟩)
  (c50 : PySem.W.codeIn K cd50 "answer_call" = true)
  (k50 : PySem.W.keepIn K (.ref a50) = true)
  (n51 : PySem.W.nsIn K mainGlobals "answers" = some (some (.ref a51)))
  (l51 : K.lookup a51 = some ⟨oc51, od51, .func (PySem.W.fnOf "answers" "answers" (defArgs s_answers) (defBody s_answers) (defScope s_answers) .none kV51 dc51 pm51 an51 cd51 ct51), sl51⟩)
  (c51 : PySem.W.codeIn K cd51 "answers" = true)
  (k51 : PySem.W.keepIn K (.ref a51) = true)
  (pg : PySem.W.plainGet K C Str.empty = true)
  (hd : PySem.W.hasDictIn K C = true)
  (po : PySem.W.plainOver K C = true)
  (sa : PySem.W.findIn K (.ref C) "__setattr__" = some (some (.builtin "object.__setattr__")))
  (mk : PySem.W.makesIn K C = true)
  (kc : PySem.W.keepIn K (.ref C) = true)
  (no_size : PySem.W.findIn K (.ref C) "size" = some none)
  (no_least : PySem.W.findIn K (.ref C) "least" = some none)
  (no_greatest : PySem.W.findIn K (.ref C) "greatest" = some none)
  (no_modulus : PySem.W.findIn K (.ref C) "modulus" = some none)
  (no_remainder : PySem.W.findIn K (.ref C) "remainder" = some none)
  (no_zero : PySem.W.findIn K (.ref C) "zero" = some none)
  (no_numbers : PySem.W.findIn K (.ref C) "numbers" = some none)
  (z_len : PySem.W.nsIn K mainGlobals "len" = some none)
  (z_range : PySem.W.nsIn K mainGlobals "range" = some none)
  (z_min : PySem.W.nsIn K mainGlobals "min" = some none)
  (z_max : PySem.W.nsIn K mainGlobals "max" = some none)
  (z_abs : PySem.W.nsIn K mainGlobals "abs" = some none)
  (z_any : PySem.W.nsIn K mainGlobals "any" = some none)
  (z_set : PySem.W.nsIn K mainGlobals "set" = some none)
  (z_sorted : PySem.W.nsIn K mainGlobals "sorted" = some none)
  (z_reversed : PySem.W.nsIn K mainGlobals "reversed" = some none)
  (vq1 : PySem.W.nsIn K mainGlobals "BOUND" = some (some (.int 1000000 tkq1)))
  (vq2 : PySem.W.nsIn K mainGlobals "FEW" = some (some (.int 6 tkq2)))
  (vq3 : PySem.W.nsIn K mainGlobals "LESS" = some (some (.int 0 tkq3)))
  (vq4 : PySem.W.nsIn K mainGlobals "LESS_OR_EQUAL" = some (some (.int 1 tkq4)))
  (vq5 : PySem.W.nsIn K mainGlobals "EQUAL" = some (some (.int 2 tkq5)))
  (vq6 : PySem.W.nsIn K mainGlobals "UNEQUAL" = some (some (.int 3 tkq6)))
  (vq7 : PySem.W.nsIn K mainGlobals "TESTS" = some (some (.int 4 tkq7)))
  (vq8 : PySem.W.nsIn K mainGlobals "NEVER" = some (some (.int 0 tkq8)))
  (vq9 : PySem.W.nsIn K mainGlobals "ALWAYS" = some (some (.int 1 tkq9)))
  (vq10 : PySem.W.nsIn K mainGlobals "NOT_KNOWN" = some (some (.int 2 tkq10)))
  (vq11 : PySem.W.nsIn K mainGlobals "SLOTS" = some (some (.int 6 tkq11)))
  (vq12 : PySem.W.nsIn K mainGlobals "MOST_LISTED" = some (some (.int 40 tkq12)))
  (vq13 : PySem.W.nsIn K mainGlobals "MOST_FIRST" = some (some (.int 50 tkq13)))
  (vq14 : PySem.W.nsIn K mainGlobals "MOST_THRESHOLDS" = some (some (.int 8 tkq14)))
  (vq15 : PySem.W.nsIn K mainGlobals "MOST_DIVISOR" = some (some (.int 99 tkq15)))
  (vq16 : PySem.W.nsIn K mainGlobals "OUT_OF_RANGE" = some (some (.int (-1) tkq16)))
  (vq17 : PySem.W.nsIn K mainGlobals "NO_SLOT" = some (some (.int (-2) tkq17)))
  (vq18 : PySem.W.nsIn K mainGlobals "NO_TEST" = some (some (.int (-3) tkq18)))
  (vq19 : PySem.W.nsIn K mainGlobals "NO_COUNT" = some (some (.int (-4) tkq19)))
  (vq20 : PySem.W.nsIn K mainGlobals "WHOLE_NUMBERS" = some (some (.ref gq20)))
  (lq20 : K.lookup gq20 = some ⟨.type "tuple", odq20, .seq #[.int 1 tk20_0, .int 6 tk20_1, .int 1 tk20_2, .int 2 tk20_3, .int 1 tk20_4, .int 2 tk20_5, .int 3 tk20_6, .int 3 tk20_7, .int 3 tk20_8, .int 2 tk20_9, .int 3 tk20_10, .int 3 tk20_11, .int 3 tk20_12, .int 3 tk20_13, .int 5 tk20_14, .int 3 tk20_15] epq20, slq20⟩)
  (vq21 : PySem.W.nsIn K mainGlobals "SLOTS_FROM" = some (some (.ref gq21)))
  (lq21 : K.lookup gq21 = some ⟨.type "tuple", odq21, .seq #[.int 0 tk21_0, .int 0 tk21_1, .int 0 tk21_2, .int 0 tk21_3, .int 0 tk21_4, .int 0 tk21_5, .int 0 tk21_6, .int 0 tk21_7, .int 0 tk21_8, .int 0 tk21_9, .int 0 tk21_10, .int 0 tk21_11, .int 0 tk21_12, .int 0 tk21_13, .int 1 tk21_14, .int 1 tk21_15] epq21, slq21⟩)
  (vq22 : PySem.W.nsIn K mainGlobals "SLOTS_UP_TO" = some (some (.ref gq22)))
  (lq22 : K.lookup gq22 = some ⟨.type "tuple", odq22, .seq #[.int 1 tk22_0, .int 1 tk22_1, .int 1 tk22_2, .int 1 tk22_3, .int 1 tk22_4, .int 1 tk22_5, .int 3 tk22_6, .int 3 tk22_7, .int 3 tk22_8, .int 2 tk22_9, .int 3 tk22_10, .int 3 tk22_11, .int 3 tk22_12, .int 2 tk22_13, .int 5 tk22_14, .int 3 tk22_15] epq22, slq22⟩)
  (vq23 : PySem.W.nsIn K mainGlobals "CALLS_WITH_A_ROW" = some (some (.ref gq23)))
  (lq23 : K.lookup gq23 = some ⟨.type "tuple", odq23, .seq #[.int 0 tk23_0, .int 8 tk23_1] epq23, slq23⟩)
  (vq24 : PySem.W.nsIn K mainGlobals "CALLS_WITH_A_TEST" = some (some (.ref gq24)))
  (lq24 : K.lookup gq24 = some ⟨.type "tuple", odq24, .seq #[.int 14 tk24_0, .int 15 tk24_1] epq24, slq24⟩)
  (vq25 : PySem.W.nsIn K mainGlobals "ANSWERERS" = some (some (.ref gq25)))
  (lq25 : K.lookup gq25 = some ⟨.type "tuple", odq25, .seq #[.ref a34, .ref a35, .ref a36, .ref a37, .ref a38, .ref a39, .ref a40, .ref a41, .ref a42, .ref a43, .ref a44, .ref a45, .ref a46, .ref a47, .ref a48, .ref a49] epq25, slq25⟩)
  : ∃ fd : FuncData, (∀ (s : Shared) (us : List Value), us.length = (["calls"] : List Str).length → BindsTo s fd ⟨us, []⟩ ((["calls"] : List Str).zip us)) ∧ ∀ base : Heap, K.In base → base.Ns mainGlobals mg → FnOk P w K mg base CX0 16 fa fd ["calls"] (spAns K) := by
 have e := hfa.symm.trans (PySem.W.mg_of X G n51)
 have e2 : a51 = fa := by
  injection e with e
  injection e with e
  exact e.symm
 subst e2
 have FI := fun_mk (st := s_Value_init) l_I c_I k_I
 have F0 := fun_mk (st := s_greatest_divisor) l0 c0 k0
 have F1 := fun_mk (st := s_inverse) l1 c1 k1
 have F2 := fun_mk (st := s_shared_number) l2 c2 k2
 have F3 := fun_mk (st := s_is_beyond) l3 c3 k3
 have F4 := fun_mk (st := s_is_few) l4 c4 k4
 have F5 := fun_mk (st := s_common_distance) l5 c5 k5
 have F6 := fun_mk (st := s_few_of) l6 c6 k6
 have F7 := fun_mk (st := s_row_of) l7 c7 k7
 have F8 := fun_mk (st := s_made_of) l8 c8 k8
 have F9 := fun_mk (st := s_hull) l9 c9 k9
 have F10 := fun_mk (st := s_told) l10 c10 k10
 have F11 := fun_mk (st := s_has) l11 c11 k11
 have F12 := fun_mk (st := s_first_numbers) l12 c12 k12
 have F13 := fun_mk (st := s_between) l13 c13 k13
 have F14 := fun_mk (st := s_without) l14 c14 k14
 have F15 := fun_mk (st := s_negated) l15 c15 k15
 have F16 := fun_mk (st := s_join) l16 c16 k16
 have F17 := fun_mk (st := s_meet) l17 c17 k17
 have F18 := fun_mk (st := s_is_within) l18 c18 k18
 have F19 := fun_mk (st := s_handful) l19 c19 k19
 have F20 := fun_mk (st := s_few_plus) l20 c20 k20
 have F21 := fun_mk (st := s_plus) l21 c21 k21
 have F22 := fun_mk (st := s_minus) l22 c22 k22
 have F23 := fun_mk (st := s_few_times) l23 c23 k23
 have F24 := fun_mk (st := s_times) l24 c24 k24
 have F25 := fun_mk (st := s_rem) l25 c25 k25
 have F26 := fun_mk (st := s_widen) l26 c26 k26
 have F27 := fun_mk (st := s_left_unequal) l27 c27 k27
 have F28 := fun_mk (st := s_left_of_each) l28 c28 k28
 have F29 := fun_mk (st := s_left_of_both) l29 c29 k29
 have F30 := fun_mk (st := s_leaves_none) l30 c30 k30
 have F31 := fun_mk (st := s_leaves_none_opposite) l31 c31 k31
 have F32 := fun_mk (st := s_verdict) l32 c32 k32
 have F33 := fun_mk (st := s_keep) l33 c33 k33
 have F34 := fun_mk (st := s_answer_of) l34 c34 k34
 have F35 := fun_mk (st := s_answer_parts) l35 c35 k35
 have F36 := fun_mk (st := s_answer_told) l36 c36 k36
 have F37 := fun_mk (st := s_answer_has) l37 c37 k37
 have F38 := fun_mk (st := s_answer_count) l38 c38 k38
 have F39 := fun_mk (st := s_answer_first) l39 c39 k39
 have F40 := fun_mk (st := s_answer_join) l40 c40 k40
 have F41 := fun_mk (st := s_answer_meet) l41 c41 k41
 have F42 := fun_mk (st := s_answer_widen) l42 c42 k42
 have F43 := fun_mk (st := s_answer_within) l43 c43 k43
 have F44 := fun_mk (st := s_answer_plus) l44 c44 k44
 have F45 := fun_mk (st := s_answer_minus) l45 c45 k45
 have F46 := fun_mk (st := s_answer_times) l46 c46 k46
 have F47 := fun_mk (st := s_answer_rem) l47 c47 k47
 have F48 := fun_mk (st := s_answer_test) l48 c48 k48
 have F49 := fun_mk (st := s_answer_verdict) l49 c49 k49
 have F50 := fun_mk (st := s_answer_call) l50 c50 k50
 have F51 := fun_mk (st := s_answers) l51 c51 k51
 have T : Txt K mg C := ⟨⟨pg, hd, po, sa⟩, no_size, no_least, no_greatest, no_modulus, no_remainder, no_zero, no_numbers, PySem.W.mg_of X G aC, ⟨_, PySem.W.mg_of X G vq1⟩, ⟨_, PySem.W.mg_of X G vq2⟩, ⟨_, PySem.W.mg_of X G vq3⟩, ⟨_, PySem.W.mg_of X G vq4⟩, ⟨_, PySem.W.mg_of X G vq5⟩, ⟨_, PySem.W.mg_of X G vq6⟩, ⟨_, PySem.W.mg_of X G vq7⟩, ⟨_, PySem.W.mg_of X G vq8⟩, ⟨_, PySem.W.mg_of X G vq9⟩, ⟨_, PySem.W.mg_of X G vq10⟩, ⟨_, PySem.W.mg_of X G vq11⟩, ⟨_, PySem.W.mg_of X G vq12⟩, ⟨_, PySem.W.mg_of X G vq13⟩, ⟨_, PySem.W.mg_of X G vq14⟩, ⟨_, PySem.W.mg_of X G vq15⟩, ⟨_, PySem.W.mg_of X G vq16⟩, ⟨_, PySem.W.mg_of X G vq17⟩, ⟨_, PySem.W.mg_of X G vq18⟩, ⟨_, PySem.W.mg_of X G vq19⟩, PySem.W.mg_none_of X G z_len, PySem.W.mg_none_of X G z_range, PySem.W.mg_none_of X G z_min, PySem.W.mg_none_of X G z_max, PySem.W.mg_none_of X G z_abs, PySem.W.mg_none_of X G z_any, PySem.W.mg_none_of X G z_set, PySem.W.mg_none_of X G z_sorted, PySem.W.mg_none_of X G z_reversed⟩
 have CL : Cl K mg C fI _ := ⟨T, ⟨mk, f_I, i_I, kc⟩, FI, FI.binds (ps := ["self", "size", "least", "greatest", "modulus", "remainder", "zero", "numbers"]) fun _ _ _ _ _ _ us hl => match us, hl with | [_, _, _, _, _, _, _, _], _ => rfl⟩
 have DD : Ds K mg { C := C, fI := fI, fdI := _, a_greatest_divisor := a0, f_greatest_divisor := _, a_inverse := a1, f_inverse := _, a_shared_number := a2, f_shared_number := _, a_is_beyond := a3, f_is_beyond := _, a_is_few := a4, f_is_few := _, a_common_distance := a5, f_common_distance := _, a_few_of := a6, f_few_of := _, a_row_of := a7, f_row_of := _, a_made_of := a8, f_made_of := _, a_hull := a9, f_hull := _, a_told := a10, f_told := _, a_has := a11, f_has := _, a_first_numbers := a12, f_first_numbers := _, a_between := a13, f_between := _, a_without := a14, f_without := _, a_negated := a15, f_negated := _, a_join := a16, f_join := _, a_meet := a17, f_meet := _, a_is_within := a18, f_is_within := _, a_handful := a19, f_handful := _, a_few_plus := a20, f_few_plus := _, a_plus := a21, f_plus := _, a_minus := a22, f_minus := _, a_few_times := a23, f_few_times := _, a_times := a24, f_times := _, a_rem := a25, f_rem := _, a_widen := a26, f_widen := _, a_left_unequal := a27, f_left_unequal := _, a_left_of_each := a28, f_left_of_each := _, a_left_of_both := a29, f_left_of_both := _, a_leaves_none := a30, f_leaves_none := _, a_leaves_none_opposite := a31, f_leaves_none_opposite := _, a_verdict := a32, f_verdict := _, a_keep := a33, f_keep := _, a_answer_of := a34, f_answer_of := _, a_answer_parts := a35, f_answer_parts := _, a_answer_told := a36, f_answer_told := _, a_answer_has := a37, f_answer_has := _, a_answer_count := a38, f_answer_count := _, a_answer_first := a39, f_answer_first := _, a_answer_join := a40, f_answer_join := _, a_answer_meet := a41, f_answer_meet := _, a_answer_widen := a42, f_answer_widen := _, a_answer_within := a43, f_answer_within := _, a_answer_plus := a44, f_answer_plus := _, a_answer_minus := a45, f_answer_minus := _, a_answer_times := a46, f_answer_times := _, a_answer_rem := a47, f_answer_rem := _, a_answer_test := a48, f_answer_test := _, a_answer_verdict := a49, f_answer_verdict := _, a_answer_call := a50, f_answer_call := _, a_answers := a51, f_answers := _, g_WHOLE_NUMBERS := gq20, g_SLOTS_FROM := gq21, g_SLOTS_UP_TO := gq22, g_CALLS_WITH_A_ROW := gq23, g_CALLS_WITH_A_TEST := gq24, g_ANSWERERS := gq25 } := {
  cl := CL
  d_greatest_divisor := ⟨F0, F0.binds (ps := ["one", "other"]) fun _ _ _ _ _ _ us hl => match us, hl with | [_, _], _ => rfl, PySem.W.mg_of X G n0⟩
  d_inverse := ⟨F1, F1.binds (ps := ["number", "modulus"]) fun _ _ _ _ _ _ us hl => match us, hl with | [_, _], _ => rfl, PySem.W.mg_of X G n1⟩
  d_shared_number := ⟨F2, F2.binds (ps := ["remainder", "modulus", "other_remainder", "other_modulus"]) fun _ _ _ _ _ _ us hl => match us, hl with | [_, _, _, _], _ => rfl, PySem.W.mg_of X G n2⟩
  d_is_beyond := ⟨F3, F3.binds (ps := ["number"]) fun _ _ _ _ _ _ us hl => match us, hl with | [_], _ => rfl, PySem.W.mg_of X G n3⟩
  d_is_few := ⟨F4, F4.binds (ps := ["value"]) fun _ _ _ _ _ _ us hl => match us, hl with | [_], _ => rfl, PySem.W.mg_of X G n4⟩
  d_common_distance := ⟨F5, F5.binds (ps := ["rising"]) fun _ _ _ _ _ _ us hl => match us, hl with | [_], _ => rfl, PySem.W.mg_of X G n5⟩
  d_few_of := ⟨F6, F6.binds (ps := ["rising"]) fun _ _ _ _ _ _ us hl => match us, hl with | [_], _ => rfl, PySem.W.mg_of X G n6⟩
  d_row_of := ⟨F7, F7.binds (ps := ["least", "greatest", "modulus", "zero"]) fun _ _ _ _ _ _ us hl => match us, hl with | [_, _, _, _], _ => rfl, PySem.W.mg_of X G n7⟩
  d_made_of := ⟨F8, F8.binds (ps := ["lo", "hi", "modulus", "remainder", "zero"]) fun _ _ _ _ _ _ us hl => match us, hl with | [_, _, _, _, _], _ => rfl, PySem.W.mg_of X G n8⟩
  d_hull := ⟨F9, F9.binds (ps := ["numbers"]) fun _ _ _ _ _ _ us hl => match us, hl with | [_], _ => rfl, PySem.W.mg_of X G n9⟩
  d_told := ⟨F10, F10.binds (ps := ["value"]) fun _ _ _ _ _ _ us hl => match us, hl with | [_], _ => rfl, PySem.W.mg_of X G n10⟩
  d_has := ⟨F11, F11.binds (ps := ["value", "number"]) fun _ _ _ _ _ _ us hl => match us, hl with | [_, _], _ => rfl, PySem.W.mg_of X G n11⟩
  d_first_numbers := ⟨F12, F12.binds (ps := ["value", "limit"]) fun _ _ _ _ _ _ us hl => match us, hl with | [_, _], _ => rfl, PySem.W.mg_of X G n12⟩
  d_between := ⟨F13, F13.binds (ps := ["value", "low", "high"]) fun _ _ _ _ _ _ us hl => match us, hl with | [_, _, _], _ => rfl, PySem.W.mg_of X G n13⟩
  d_without := ⟨F14, F14.binds (ps := ["value", "number"]) fun _ _ _ _ _ _ us hl => match us, hl with | [_, _], _ => rfl, PySem.W.mg_of X G n14⟩
  d_negated := ⟨F15, F15.binds (ps := ["value"]) fun _ _ _ _ _ _ us hl => match us, hl with | [_], _ => rfl, PySem.W.mg_of X G n15⟩
  d_join := ⟨F16, F16.binds (ps := ["one", "other"]) fun _ _ _ _ _ _ us hl => match us, hl with | [_, _], _ => rfl, PySem.W.mg_of X G n16⟩
  d_meet := ⟨F17, F17.binds (ps := ["one", "other"]) fun _ _ _ _ _ _ us hl => match us, hl with | [_, _], _ => rfl, PySem.W.mg_of X G n17⟩
  d_is_within := ⟨F18, F18.binds (ps := ["one", "other"]) fun _ _ _ _ _ _ us hl => match us, hl with | [_, _], _ => rfl, PySem.W.mg_of X G n18⟩
  d_handful := ⟨F19, F19.binds (ps := ["value", "number"]) fun _ _ _ _ _ _ us hl => match us, hl with | [_, _], _ => rfl, PySem.W.mg_of X G n19⟩
  d_few_plus := ⟨F20, F20.binds (ps := ["few", "other"]) fun _ _ _ _ _ _ us hl => match us, hl with | [_, _], _ => rfl, PySem.W.mg_of X G n20⟩
  d_plus := ⟨F21, F21.binds (ps := ["one", "other"]) fun _ _ _ _ _ _ us hl => match us, hl with | [_, _], _ => rfl, PySem.W.mg_of X G n21⟩
  d_minus := ⟨F22, F22.binds (ps := ["one", "other"]) fun _ _ _ _ _ _ us hl => match us, hl with | [_, _], _ => rfl, PySem.W.mg_of X G n22⟩
  d_few_times := ⟨F23, F23.binds (ps := ["few", "other"]) fun _ _ _ _ _ _ us hl => match us, hl with | [_, _], _ => rfl, PySem.W.mg_of X G n23⟩
  d_times := ⟨F24, F24.binds (ps := ["one", "other"]) fun _ _ _ _ _ _ us hl => match us, hl with | [_, _], _ => rfl, PySem.W.mg_of X G n24⟩
  d_rem := ⟨F25, F25.binds (ps := ["value", "divisor"]) fun _ _ _ _ _ _ us hl => match us, hl with | [_, _], _ => rfl, PySem.W.mg_of X G n25⟩
  d_widen := ⟨F26, F26.binds (ps := ["value", "other", "thresholds"]) fun _ _ _ _ _ _ us hl => match us, hl with | [_, _, _], _ => rfl, PySem.W.mg_of X G n26⟩
  d_left_unequal := ⟨F27, F27.binds (ps := ["value", "other"]) fun _ _ _ _ _ _ us hl => match us, hl with | [_, _], _ => rfl, PySem.W.mg_of X G n27⟩
  d_left_of_each := ⟨F28, F28.binds (ps := ["which", "one", "other"]) fun _ _ _ _ _ _ us hl => match us, hl with | [_, _, _], _ => rfl, PySem.W.mg_of X G n28⟩
  d_left_of_both := ⟨F29, F29.binds (ps := ["which", "one", "other"]) fun _ _ _ _ _ _ us hl => match us, hl with | [_, _, _], _ => rfl, PySem.W.mg_of X G n29⟩
  d_leaves_none := ⟨F30, F30.binds (ps := ["which", "one", "other"]) fun _ _ _ _ _ _ us hl => match us, hl with | [_, _, _], _ => rfl, PySem.W.mg_of X G n30⟩
  d_leaves_none_opposite := ⟨F31, F31.binds (ps := ["which", "one", "other"]) fun _ _ _ _ _ _ us hl => match us, hl with | [_, _, _], _ => rfl, PySem.W.mg_of X G n31⟩
  d_verdict := ⟨F32, F32.binds (ps := ["which", "one", "other"]) fun _ _ _ _ _ _ us hl => match us, hl with | [_, _, _], _ => rfl, PySem.W.mg_of X G n32⟩
  d_keep := ⟨F33, F33.binds (ps := ["slots", "new", "value"]) fun _ _ _ _ _ _ us hl => match us, hl with | [_, _, _], _ => rfl, PySem.W.mg_of X G n33⟩
  d_answer_of := ⟨F34, F34.binds (ps := ["slots", "handed"]) fun _ _ _ _ _ _ us hl => match us, hl with | [_, _], _ => rfl, PySem.W.mg_of X G n34⟩
  d_answer_parts := ⟨F35, F35.binds (ps := ["slots", "handed"]) fun _ _ _ _ _ _ us hl => match us, hl with | [_, _], _ => rfl, PySem.W.mg_of X G n35⟩
  d_answer_told := ⟨F36, F36.binds (ps := ["slots", "handed"]) fun _ _ _ _ _ _ us hl => match us, hl with | [_, _], _ => rfl, PySem.W.mg_of X G n36⟩
  d_answer_has := ⟨F37, F37.binds (ps := ["slots", "handed"]) fun _ _ _ _ _ _ us hl => match us, hl with | [_, _], _ => rfl, PySem.W.mg_of X G n37⟩
  d_answer_count := ⟨F38, F38.binds (ps := ["slots", "handed"]) fun _ _ _ _ _ _ us hl => match us, hl with | [_, _], _ => rfl, PySem.W.mg_of X G n38⟩
  d_answer_first := ⟨F39, F39.binds (ps := ["slots", "handed"]) fun _ _ _ _ _ _ us hl => match us, hl with | [_, _], _ => rfl, PySem.W.mg_of X G n39⟩
  d_answer_join := ⟨F40, F40.binds (ps := ["slots", "handed"]) fun _ _ _ _ _ _ us hl => match us, hl with | [_, _], _ => rfl, PySem.W.mg_of X G n40⟩
  d_answer_meet := ⟨F41, F41.binds (ps := ["slots", "handed"]) fun _ _ _ _ _ _ us hl => match us, hl with | [_, _], _ => rfl, PySem.W.mg_of X G n41⟩
  d_answer_widen := ⟨F42, F42.binds (ps := ["slots", "handed"]) fun _ _ _ _ _ _ us hl => match us, hl with | [_, _], _ => rfl, PySem.W.mg_of X G n42⟩
  d_answer_within := ⟨F43, F43.binds (ps := ["slots", "handed"]) fun _ _ _ _ _ _ us hl => match us, hl with | [_, _], _ => rfl, PySem.W.mg_of X G n43⟩
  d_answer_plus := ⟨F44, F44.binds (ps := ["slots", "handed"]) fun _ _ _ _ _ _ us hl => match us, hl with | [_, _], _ => rfl, PySem.W.mg_of X G n44⟩
  d_answer_minus := ⟨F45, F45.binds (ps := ["slots", "handed"]) fun _ _ _ _ _ _ us hl => match us, hl with | [_, _], _ => rfl, PySem.W.mg_of X G n45⟩
  d_answer_times := ⟨F46, F46.binds (ps := ["slots", "handed"]) fun _ _ _ _ _ _ us hl => match us, hl with | [_, _], _ => rfl, PySem.W.mg_of X G n46⟩
  d_answer_rem := ⟨F47, F47.binds (ps := ["slots", "handed"]) fun _ _ _ _ _ _ us hl => match us, hl with | [_, _], _ => rfl, PySem.W.mg_of X G n47⟩
  d_answer_test := ⟨F48, F48.binds (ps := ["slots", "handed"]) fun _ _ _ _ _ _ us hl => match us, hl with | [_, _], _ => rfl, PySem.W.mg_of X G n48⟩
  d_answer_verdict := ⟨F49, F49.binds (ps := ["slots", "handed"]) fun _ _ _ _ _ _ us hl => match us, hl with | [_, _], _ => rfl, PySem.W.mg_of X G n49⟩
  d_answer_call := ⟨F50, F50.binds (ps := ["slots", "call", "handed"]) fun _ _ _ _ _ _ us hl => match us, hl with | [_, _, _], _ => rfl, PySem.W.mg_of X G n50⟩
  d_answers := ⟨F51, F51.binds (ps := ["calls"]) fun _ _ _ _ _ _ us hl => match us, hl with | [_], _ => rfl, PySem.W.mg_of X G n51⟩
  h_WHOLE_NUMBERS := PySem.W.mg_of X G vq20
  t_WHOLE_NUMBERS := fun H => .inr ⟨_, _, _, lq20, rfl, rfl, by show 16 ≤ sizeLine; decide, (.cons ⟨_, rfl⟩ (.cons ⟨_, rfl⟩ (.cons ⟨_, rfl⟩ (.cons ⟨_, rfl⟩ (.cons ⟨_, rfl⟩ (.cons ⟨_, rfl⟩ (.cons ⟨_, rfl⟩ (.cons ⟨_, rfl⟩ (.cons ⟨_, rfl⟩ (.cons ⟨_, rfl⟩ (.cons ⟨_, rfl⟩ (.cons ⟨_, rfl⟩ (.cons ⟨_, rfl⟩ (.cons ⟨_, rfl⟩ (.cons ⟨_, rfl⟩ (.cons ⟨_, rfl⟩ .nil))))))))))))))))⟩
  h_SLOTS_FROM := PySem.W.mg_of X G vq21
  t_SLOTS_FROM := fun H => .inr ⟨_, _, _, lq21, rfl, rfl, by show 16 ≤ sizeLine; decide, (.cons ⟨_, rfl⟩ (.cons ⟨_, rfl⟩ (.cons ⟨_, rfl⟩ (.cons ⟨_, rfl⟩ (.cons ⟨_, rfl⟩ (.cons ⟨_, rfl⟩ (.cons ⟨_, rfl⟩ (.cons ⟨_, rfl⟩ (.cons ⟨_, rfl⟩ (.cons ⟨_, rfl⟩ (.cons ⟨_, rfl⟩ (.cons ⟨_, rfl⟩ (.cons ⟨_, rfl⟩ (.cons ⟨_, rfl⟩ (.cons ⟨_, rfl⟩ (.cons ⟨_, rfl⟩ .nil))))))))))))))))⟩
  h_SLOTS_UP_TO := PySem.W.mg_of X G vq22
  t_SLOTS_UP_TO := fun H => .inr ⟨_, _, _, lq22, rfl, rfl, by show 16 ≤ sizeLine; decide, (.cons ⟨_, rfl⟩ (.cons ⟨_, rfl⟩ (.cons ⟨_, rfl⟩ (.cons ⟨_, rfl⟩ (.cons ⟨_, rfl⟩ (.cons ⟨_, rfl⟩ (.cons ⟨_, rfl⟩ (.cons ⟨_, rfl⟩ (.cons ⟨_, rfl⟩ (.cons ⟨_, rfl⟩ (.cons ⟨_, rfl⟩ (.cons ⟨_, rfl⟩ (.cons ⟨_, rfl⟩ (.cons ⟨_, rfl⟩ (.cons ⟨_, rfl⟩ (.cons ⟨_, rfl⟩ .nil))))))))))))))))⟩
  h_CALLS_WITH_A_ROW := PySem.W.mg_of X G vq23
  t_CALLS_WITH_A_ROW := fun H => .inr ⟨_, _, _, lq23, rfl, rfl, by show 2 ≤ sizeLine; decide, (.cons ⟨_, rfl⟩ (.cons ⟨_, rfl⟩ .nil))⟩
  h_CALLS_WITH_A_TEST := PySem.W.mg_of X G vq24
  t_CALLS_WITH_A_TEST := fun H => .inr ⟨_, _, _, lq24, rfl, rfl, by show 2 ≤ sizeLine; decide, (.cons ⟨_, rfl⟩ (.cons ⟨_, rfl⟩ .nil))⟩
  h_ANSWERERS := PySem.W.mg_of X G vq25
  t_ANSWERERS := fun H => .inr ⟨_, _, _, lq25, rfl, rfl, by show 16 ≤ sizeLine; decide, (.cons rfl (.cons rfl (.cons rfl (.cons rfl (.cons rfl (.cons rfl (.cons rfl (.cons rfl (.cons rfl (.cons rfl (.cons rfl (.cons rfl (.cons rfl (.cons rfl (.cons rfl (.cons rfl .nil))))))))))))))))⟩
 }
 exact ⟨_, fun s us hu => match us, hu with | [_], _ => .of_eq rfl, fun base _ _ => ok_all DD⟩
end Kv
open PySem PySem.W PyProof.Rows
set_option maxRecDepth 100000 in
set_option maxHeartbeats 0 in
theorem PySem.Challenge.cw_knownof_s01_answers_holds : PySem.Challenge.rw_knownof_s01_answers.Holds := by
 w_on
 refine holds_os (XP := XL Kv.QQ []) (YP := Hook.says (kHook Kv.KK Kv.KA Kv.KH)) Kv.left0 (Hook.of (kHook Kv.KK Kv.KA Kv.KH)) (Hook.keeps (kHook Kv.KK Kv.KA Kv.KH))
  (fun s e => xl_of s (Bool.and_eq_true_iff.mp e).1) XL.keeps (by rfl) (by rfl) (by rfl) (fun s e => recFacts_of (Bool.and_eq_true_iff.mp e).2) os_shapes
  (by decide +kernel) (by decide +kernel) ⟨rfl, rfl, rfl, rfl, rfl, by decide +kernel⟩ ⟨[.list [.int 2, .int 0]], by decide +kernel, by decide +kernel⟩ ?hc
 k_fillS
 refine L2.walk_specK (r := PySem.Challenge.rw_knownof_s01_answers) (k := 16) (CX := L2.CX0) (ps := ["calls"]) (sp := Kv.spAns) (by decide +kernel) rfl rfl ⟨rfl, by decide, by decide⟩ (fun w h Y => PySem.W.kIn_of Y) ?F ?S (fun _ _ _ _ z => z)
 case F =>
  intro w mg fa h Y KX G hmg
  refine' Kv.all_mk KX G hmg ?aC ?f_I ?i_I ?l_I ?c_I ?k_I ?n0 ?l0 ?c0 ?k0 ?n1 ?l1 ?c1 ?k1 ?n2 ?l2 ?c2 ?k2 ?n3 ?l3 ?c3 ?k3 ?n4 ?l4 ?c4 ?k4 ?n5 ?l5 ?c5 ?k5 ?n6 ?l6 ?c6 ?k6 ?n7 ?l7 ?c7 ?k7 ?n8 ?l8 ?c8 ?k8 ?n9 ?l9 ?c9 ?k9 ?n10 ?l10 ?c10 ?k10 ?n11 ?l11 ?c11 ?k11 ?n12 ?l12 ?c12 ?k12 ?n13 ?l13 ?c13 ?k13 ?n14 ?l14 ?c14 ?k14 ?n15 ?l15 ?c15 ?k15 ?n16 ?l16 ?c16 ?k16 ?n17 ?l17 ?c17 ?k17 ?n18 ?l18 ?c18 ?k18 ?n19 ?l19 ?c19 ?k19 ?n20 ?l20 ?c20 ?k20 ?n21 ?l21 ?c21 ?k21 ?n22 ?l22 ?c22 ?k22 ?n23 ?l23 ?c23 ?k23 ?n24 ?l24 ?c24 ?k24 ?n25 ?l25 ?c25 ?k25 ?n26 ?l26 ?c26 ?k26 ?n27 ?l27 ?c27 ?k27 ?n28 ?l28 ?c28 ?k28 ?n29 ?l29 ?c29 ?k29 ?n30 ?l30 ?c30 ?k30 ?n31 ?l31 ?c31 ?k31 ?n32 ?l32 ?c32 ?k32 ?n33 ?l33 ?c33 ?k33 ?n34 ?l34 ?c34 ?k34 ?n35 ?l35 ?c35 ?k35 ?n36 ?l36 ?c36 ?k36 ?n37 ?l37 ?c37 ?k37 ?n38 ?l38 ?c38 ?k38 ?n39 ?l39 ?c39 ?k39 ?n40 ?l40 ?c40 ?k40 ?n41 ?l41 ?c41 ?k41 ?n42 ?l42 ?c42 ?k42 ?n43 ?l43 ?c43 ?k43 ?n44 ?l44 ?c44 ?k44 ?n45 ?l45 ?c45 ?k45 ?n46 ?l46 ?c46 ?k46 ?n47 ?l47 ?c47 ?k47 ?n48 ?l48 ?c48 ?k48 ?n49 ?l49 ?c49 ?k49 ?n50 ?l50 ?c50 ?k50 ?n51 ?l51 ?c51 ?k51 ?pg ?hd ?po ?sa ?mk ?kc ?no_size ?no_least ?no_greatest ?no_modulus ?no_remainder ?no_zero ?no_numbers ?z_len ?z_range ?z_min ?z_max ?z_abs ?z_any ?z_set ?z_sorted ?z_reversed ?vq1 ?vq2 ?vq3 ?vq4 ?vq5 ?vq6 ?vq7 ?vq8 ?vq9 ?vq10 ?vq11 ?vq12 ?vq13 ?vq14 ?vq15 ?vq16 ?vq17 ?vq18 ?vq19 ?vq20 ?lq20 ?vq21 ?lq21 ?vq22 ?lq22 ?vq23 ?lq23 ?vq24 ?lq24 ?vq25 ?lq25
  case aC => k_is
  case f_I => k_is
  case i_I => k_is
  case l_I => k_is
  case c_I => k_is
  case k_I => k_is
  case n0 => k_is
  case l0 => k_is
  case c0 => k_is
  case k0 => k_is
  case n1 => k_is
  case l1 => k_is
  case c1 => k_is
  case k1 => k_is
  case n2 => k_is
  case l2 => k_is
  case c2 => k_is
  case k2 => k_is
  case n3 => k_is
  case l3 => k_is
  case c3 => k_is
  case k3 => k_is
  case n4 => k_is
  case l4 => k_is
  case c4 => k_is
  case k4 => k_is
  case n5 => k_is
  case l5 => k_is
  case c5 => k_is
  case k5 => k_is
  case n6 => k_is
  case l6 => k_is
  case c6 => k_is
  case k6 => k_is
  case n7 => k_is
  case l7 => k_is
  case c7 => k_is
  case k7 => k_is
  case n8 => k_is
  case l8 => k_is
  case c8 => k_is
  case k8 => k_is
  case n9 => k_is
  case l9 => k_is
  case c9 => k_is
  case k9 => k_is
  case n10 => k_is
  case l10 => k_is
  case c10 => k_is
  case k10 => k_is
  case n11 => k_is
  case l11 => k_is
  case c11 => k_is
  case k11 => k_is
  case n12 => k_is
  case l12 => k_is
  case c12 => k_is
  case k12 => k_is
  case n13 => k_is
  case l13 => k_is
  case c13 => k_is
  case k13 => k_is
  case n14 => k_is
  case l14 => k_is
  case c14 => k_is
  case k14 => k_is
  case n15 => k_is
  case l15 => k_is
  case c15 => k_is
  case k15 => k_is
  case n16 => k_is
  case l16 => k_is
  case c16 => k_is
  case k16 => k_is
  case n17 => k_is
  case l17 => k_is
  case c17 => k_is
  case k17 => k_is
  case n18 => k_is
  case l18 => k_is
  case c18 => k_is
  case k18 => k_is
  case n19 => k_is
  case l19 => k_is
  case c19 => k_is
  case k19 => k_is
  case n20 => k_is
  case l20 => k_is
  case c20 => k_is
  case k20 => k_is
  case n21 => k_is
  case l21 => k_is
  case c21 => k_is
  case k21 => k_is
  case n22 => k_is
  case l22 => k_is
  case c22 => k_is
  case k22 => k_is
  case n23 => k_is
  case l23 => k_is
  case c23 => k_is
  case k23 => k_is
  case n24 => k_is
  case l24 => k_is
  case c24 => k_is
  case k24 => k_is
  case n25 => k_is
  case l25 => k_is
  case c25 => k_is
  case k25 => k_is
  case n26 => k_is
  case l26 => k_is
  case c26 => k_is
  case k26 => k_is
  case n27 => k_is
  case l27 => k_is
  case c27 => k_is
  case k27 => k_is
  case n28 => k_is
  case l28 => k_is
  case c28 => k_is
  case k28 => k_is
  case n29 => k_is
  case l29 => k_is
  case c29 => k_is
  case k29 => k_is
  case n30 => k_is
  case l30 => k_is
  case c30 => k_is
  case k30 => k_is
  case n31 => k_is
  case l31 => k_is
  case c31 => k_is
  case k31 => k_is
  case n32 => k_is
  case l32 => k_is
  case c32 => k_is
  case k32 => k_is
  case n33 => k_is
  case l33 => k_is
  case c33 => k_is
  case k33 => k_is
  case n34 => k_is
  case l34 => k_is
  case c34 => k_is
  case k34 => k_is
  case n35 => k_is
  case l35 => k_is
  case c35 => k_is
  case k35 => k_is
  case n36 => k_is
  case l36 => k_is
  case c36 => k_is
  case k36 => k_is
  case n37 => k_is
  case l37 => k_is
  case c37 => k_is
  case k37 => k_is
  case n38 => k_is
  case l38 => k_is
  case c38 => k_is
  case k38 => k_is
  case n39 => k_is
  case l39 => k_is
  case c39 => k_is
  case k39 => k_is
  case n40 => k_is
  case l40 => k_is
  case c40 => k_is
  case k40 => k_is
  case n41 => k_is
  case l41 => k_is
  case c41 => k_is
  case k41 => k_is
  case n42 => k_is
  case l42 => k_is
  case c42 => k_is
  case k42 => k_is
  case n43 => k_is
  case l43 => k_is
  case c43 => k_is
  case k43 => k_is
  case n44 => k_is
  case l44 => k_is
  case c44 => k_is
  case k44 => k_is
  case n45 => k_is
  case l45 => k_is
  case c45 => k_is
  case k45 => k_is
  case n46 => k_is
  case l46 => k_is
  case c46 => k_is
  case k46 => k_is
  case n47 => k_is
  case l47 => k_is
  case c47 => k_is
  case k47 => k_is
  case n48 => k_is
  case l48 => k_is
  case c48 => k_is
  case k48 => k_is
  case n49 => k_is
  case l49 => k_is
  case c49 => k_is
  case k49 => k_is
  case n50 => k_is
  case l50 => k_is
  case c50 => k_is
  case k50 => k_is
  case n51 => k_is
  case l51 => k_is
  case c51 => k_is
  case k51 => k_is
  case pg => k_is
  case hd => k_is
  case po => k_is
  case sa => k_is
  case mk => k_is
  case kc => k_is
  case no_size => k_is
  case no_least => k_is
  case no_greatest => k_is
  case no_modulus => k_is
  case no_remainder => k_is
  case no_zero => k_is
  case no_numbers => k_is
  case z_len => k_is
  case z_range => k_is
  case z_min => k_is
  case z_max => k_is
  case z_abs => k_is
  case z_any => k_is
  case z_set => k_is
  case z_sorted => k_is
  case z_reversed => k_is
  case vq1 => k_is
  case vq2 => k_is
  case vq3 => k_is
  case vq4 => k_is
  case vq5 => k_is
  case vq6 => k_is
  case vq7 => k_is
  case vq8 => k_is
  case vq9 => k_is
  case vq10 => k_is
  case vq11 => k_is
  case vq12 => k_is
  case vq13 => k_is
  case vq14 => k_is
  case vq15 => k_is
  case vq16 => k_is
  case vq17 => k_is
  case vq18 => k_is
  case vq19 => k_is
  case vq20 => k_is
  case lq20 => k_is
  case vq21 => k_is
  case lq21 => k_is
  case vq22 => k_is
  case lq22 => k_is
  case vq23 => k_is
  case lq23 => k_is
  case vq24 => k_is
  case lq24 => k_is
  case vq25 => k_is
  case lq25 => k_is
 case S =>
  intro K H xs a hO hwi hask hx
  cases hx with
  | cons h1 h2 =>
   cases h2
   cases h1 with
   | lst hs ha =>
    have e := L2.ints_dw a.1 _ ha
    subst e
    have q : ((Codec.inLen 0 17000 a.1 && a.1.all (Codec.inInt (-1000000000000000000) 1000000000000000000)) && true) = true := hwi
    rw [Bool.and_eq_true, Bool.and_eq_true] at q
    exact ⟨_, a.1, rfl, hs, hask, (Codec.inNat_iff.mp q.1.1).2, fun H' p hp => .lst (L2.SqL.of hp) (L2.dw_ints _)⟩
