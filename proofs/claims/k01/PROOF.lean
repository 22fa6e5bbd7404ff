import PyProof.Rows.All
import Wide.All
import OpenK.AllK
import Wide.FinOn
import HandS.ForMost
import HandS.ForExc
import HandS.ExcField
import HandS.ExcIs
import HandS.ExcInit
import HandS.Words
import HandS.Head0
import HandS.Head1
import HandS.Head2
import HandS.Head3
import HandS.HeadEnd
import HandS.HeadHook1
import HandS.HeadHook2
import HandS.Wide
import HandS.Gcd
import HandS.IsInst
import HandS.TupAny
import HandS.TupMul
import HandS.CallSlots
import HandS.Zip
import HandS.Evl
import HandS.Style
import HandS.Defaults
import HandS.Star
import KE.KTupSum
import KE.DataMinMax
import HandS.TryMany
import HandS.NoneIn
import HandS.ExcOwn
import KE.GoesEnum
import KE.GoesZip
import KE.GoesComp
import KE.GoesRaise
import KE.KDictZip
import PySem.Challenge.RW_dicewins_k01_areas_leads_and_fractions
set_option Elab.async false
set_option linter.all false
set_option autoImplicit false
set_option maxRecDepth 100000
set_option maxHeartbeats 0
namespace KV
open PySem PySem.Spec PyProof.Rows L2
def xsE : List Str := ["DiceError", "BadNumber", "BadDie", "BadWeights", "OtherSize"]
def flE : List Str := ["name", "place", "first", "second"]
def sbE (x y : Str) : Bool := x == y || y == "DiceError"
def top (i : Nat) : Stmt := PySem.Challenge.pw_dicewins_k01_areas_leads_and_fractions.main.body.getD i (.Pass ⟨0, 0, 0, 0⟩)
abbrev st_is_int : Stmt := top 8
abbrev st_is_row : Stmt := top 9
abbrev st_check_int : Stmt := top 10
abbrev st_check_between : Stmt := top 11
abbrev st_common_divisor : Stmt := top 12
abbrev st_shortened : Stmt := top 13
abbrev st_weights_of : Stmt := top 14
abbrev st_wrong_place : Stmt := top 16
abbrev st_die_of : Stmt := top 17
abbrev st_two_dice : Stmt := top 18
abbrev st_running_counts : Stmt := top 19
abbrev st_below : Stmt := top 20
abbrev st_belows : Stmt := top 21
abbrev st_one_faced : Stmt := top 22
abbrev st_is_like : Stmt := top 23
abbrev st_short_die : Stmt := top 24
abbrev st_lowest : Stmt := top 27
abbrev st_fraction : Stmt := top 28
abbrev st_both_fractions : Stmt := top 29
abbrev st_added : Stmt := top 30
abbrev st_taken_off : Stmt := top 31
abbrev st_multiplied : Stmt := top 32
abbrev st_divided : Stmt := top 33
abbrev st_is_less : Stmt := top 34
abbrev st_is_equal : Stmt := top 35
abbrev st_rank_leads : Stmt := top 37
abbrev st_paired_sum : Stmt := top 38
abbrev st_wins : Stmt := top 39
abbrev st_ties : Stmt := top 40
abbrev st_lead : Stmt := top 41
abbrev st_chance : Stmt := top 42
abbrev st_half_chance : Stmt := top 43
abbrev st_areas : Stmt := top 44
abbrev st_law_draws : Stmt := top 46
abbrev st_law_take : Stmt := top 47
abbrev st_law_int : Stmt := top 48
abbrev st_law_divisor : Stmt := top 49
abbrev st_law_is_fraction : Stmt := top 50
abbrev st_law_same_worth : Stmt := top 51
abbrev st_law_die : Stmt := top 52
abbrev st_law_dice : Stmt := top 53
abbrev st_law_sizes : Stmt := top 54
abbrev st_law_like : Stmt := top 55
abbrev st_law_count : Stmt := top 56
abbrev st_law_areas_hold : Stmt := top 57
abbrev st_law_throws_hold : Stmt := top 58
abbrev st_law_fractions_hold : Stmt := top 59
abbrev st_law_moved_holds : Stmt := top 60
abbrev st_law_single_holds : Stmt := top 61
abbrev st_law_like_holds : Stmt := top 63
abbrev st_law_bad_die : Stmt := top 66
abbrev st_law_told_of_two : Stmt := top 65
abbrev st_mixed_die : Stmt := top 25
abbrev st_law_mixed_holds : Stmt := top 62
abbrev st_law_told : Stmt := top 64
abbrev st_law_refuses_dice : Stmt := top 67
abbrev st_law_refuses_numbers : Stmt := top 68
abbrev st_law : Stmt := top 69
abbrev st_init_BadNumber : Stmt := inClass (top 3) 0
theorem sc_init_BadNumber : FnScope ["self", "name"] ["self", "name"] (defScope st_init_BadNumber) := ⟨rfl, rfl, rfl, by decide +kernel, rfl, by decide +kernel, by decide +kernel⟩
abbrev st_init_BadDie : Stmt := inClass (top 4) 0
theorem sc_init_BadDie : FnScope ["self", "place"] ["self", "place"] (defScope st_init_BadDie) := ⟨rfl, rfl, rfl, by decide +kernel, rfl, by decide +kernel, by decide +kernel⟩
abbrev st_init_BadWeights : Stmt := inClass (top 5) 0
theorem sc_init_BadWeights : FnScope ["self", "place"] ["self", "place"] (defScope st_init_BadWeights) := ⟨rfl, rfl, rfl, by decide +kernel, rfl, by decide +kernel, by decide +kernel⟩
abbrev st_init_OtherSize : Stmt := inClass (top 6) 0
theorem sc_init_OtherSize : FnScope ["self", "first", "second"] ["self", "first", "second"] (defScope st_init_OtherSize) := ⟨rfl, rfl, rfl, by decide +kernel, rfl, by decide +kernel, by decide +kernel⟩
def hd_is_int : He.DefD := ⟨("is_int", none), "is_int", "is_int", defArgs st_is_int, defBody st_is_int, defScope st_is_int, [], []⟩
def hd_is_row : He.DefD := ⟨("is_row", none), "is_row", "is_row", defArgs st_is_row, defBody st_is_row, defScope st_is_row, [], []⟩
def hd_check_int : He.DefD := ⟨("check_int", none), "check_int", "check_int", defArgs st_check_int, defBody st_check_int, defScope st_check_int, [], []⟩
def hd_check_between : He.DefD := ⟨("check_between", none), "check_between", "check_between", defArgs st_check_between, defBody st_check_between, defScope st_check_between, [], []⟩
def hd_common_divisor : He.DefD := ⟨("common_divisor", none), "common_divisor", "common_divisor", defArgs st_common_divisor, defBody st_common_divisor, defScope st_common_divisor, [], []⟩
def hd_shortened : He.DefD := ⟨("shortened", none), "shortened", "shortened", defArgs st_shortened, defBody st_shortened, defScope st_shortened, [], []⟩
def hd_weights_of : He.DefD := ⟨("weights_of", none), "weights_of", "weights_of", defArgs st_weights_of, defBody st_weights_of, defScope st_weights_of, [], []⟩
def hd_wrong_place : He.DefD := ⟨("wrong_place", none), "wrong_place", "wrong_place", defArgs st_wrong_place, defBody st_wrong_place, defScope st_wrong_place, [], []⟩
def hd_die_of : He.DefD := ⟨("die_of", none), "die_of", "die_of", defArgs st_die_of, defBody st_die_of, defScope st_die_of, [], []⟩
def hd_two_dice : He.DefD := ⟨("two_dice", none), "two_dice", "two_dice", defArgs st_two_dice, defBody st_two_dice, defScope st_two_dice, [], []⟩
def hd_running_counts : He.DefD := ⟨("running_counts", none), "running_counts", "running_counts", defArgs st_running_counts, defBody st_running_counts, defScope st_running_counts, [], []⟩
def hd_below : He.DefD := ⟨("below", none), "below", "below", defArgs st_below, defBody st_below, defScope st_below, [], []⟩
def hd_belows : He.DefD := ⟨("belows", none), "belows", "belows", defArgs st_belows, defBody st_belows, defScope st_belows, [], []⟩
def hd_one_faced : He.DefD := ⟨("one_faced", none), "one_faced", "one_faced", defArgs st_one_faced, defBody st_one_faced, defScope st_one_faced, [], []⟩
def hd_is_like : He.DefD := ⟨("is_like", none), "is_like", "is_like", defArgs st_is_like, defBody st_is_like, defScope st_is_like, [], []⟩
def hd_short_die : He.DefD := ⟨("short_die", none), "short_die", "short_die", defArgs st_short_die, defBody st_short_die, defScope st_short_die, [], []⟩
def hd_mixed_die : He.DefD := ⟨("mixed_die", none), "mixed_die", "mixed_die", defArgs st_mixed_die, defBody st_mixed_die, defScope st_mixed_die, [], []⟩
def hd_lowest : He.DefD := ⟨("lowest", none), "lowest", "lowest", defArgs st_lowest, defBody st_lowest, defScope st_lowest, [], []⟩
def hd_fraction : He.DefD := ⟨("fraction", none), "fraction", "fraction", defArgs st_fraction, defBody st_fraction, defScope st_fraction, [], []⟩
def hd_both_fractions : He.DefD := ⟨("both_fractions", none), "both_fractions", "both_fractions", defArgs st_both_fractions, defBody st_both_fractions, defScope st_both_fractions, [], []⟩
def hd_added : He.DefD := ⟨("added", none), "added", "added", defArgs st_added, defBody st_added, defScope st_added, [], []⟩
def hd_taken_off : He.DefD := ⟨("taken_off", none), "taken_off", "taken_off", defArgs st_taken_off, defBody st_taken_off, defScope st_taken_off, [], []⟩
def hd_multiplied : He.DefD := ⟨("multiplied", none), "multiplied", "multiplied", defArgs st_multiplied, defBody st_multiplied, defScope st_multiplied, [], []⟩
def hd_divided : He.DefD := ⟨("divided", none), "divided", "divided", defArgs st_divided, defBody st_divided, defScope st_divided, [], []⟩
def hd_is_less : He.DefD := ⟨("is_less", none), "is_less", "is_less", defArgs st_is_less, defBody st_is_less, defScope st_is_less, [], []⟩
def hd_is_equal : He.DefD := ⟨("is_equal", none), "is_equal", "is_equal", defArgs st_is_equal, defBody st_is_equal, defScope st_is_equal, [], []⟩
def hd_rank_leads : He.DefD := ⟨("rank_leads", none), "rank_leads", "rank_leads", defArgs st_rank_leads, defBody st_rank_leads, defScope st_rank_leads, [], []⟩
def hd_paired_sum : He.DefD := ⟨("paired_sum", none), "paired_sum", "paired_sum", defArgs st_paired_sum, defBody st_paired_sum, defScope st_paired_sum, [], []⟩
def hd_wins : He.DefD := ⟨("wins", none), "wins", "wins", defArgs st_wins, defBody st_wins, defScope st_wins, [], []⟩
def hd_ties : He.DefD := ⟨("ties", none), "ties", "ties", defArgs st_ties, defBody st_ties, defScope st_ties, [], []⟩
def hd_lead : He.DefD := ⟨("lead", none), "lead", "lead", defArgs st_lead, defBody st_lead, defScope st_lead, [], []⟩
def hd_chance : He.DefD := ⟨("chance", none), "chance", "chance", defArgs st_chance, defBody st_chance, defScope st_chance, [], []⟩
def hd_half_chance : He.DefD := ⟨("half_chance", none), "half_chance", "half_chance", defArgs st_half_chance, defBody st_half_chance, defScope st_half_chance, [], []⟩
def hd_areas : He.DefD := ⟨("areas", none), "areas", "areas", defArgs st_areas, defBody st_areas, defScope st_areas, [], []⟩
def hd_law_draws : He.DefD := ⟨("_law_draws", none), "_law_draws", "_law_draws", defArgs st_law_draws, defBody st_law_draws, defScope st_law_draws, [], []⟩
def hd_law_take : He.DefD := ⟨("_law_take", none), "_law_take", "_law_take", defArgs st_law_take, defBody st_law_take, defScope st_law_take, [], []⟩
def hd_law_int : He.DefD := ⟨("_law_int", none), "_law_int", "_law_int", defArgs st_law_int, defBody st_law_int, defScope st_law_int, [], []⟩
def hd_law_divisor : He.DefD := ⟨("_law_divisor", none), "_law_divisor", "_law_divisor", defArgs st_law_divisor, defBody st_law_divisor, defScope st_law_divisor, [], []⟩
def hd_law_is_fraction : He.DefD := ⟨("_law_is_fraction", none), "_law_is_fraction", "_law_is_fraction", defArgs st_law_is_fraction, defBody st_law_is_fraction, defScope st_law_is_fraction, [], []⟩
def hd_law_same_worth : He.DefD := ⟨("_law_same_worth", none), "_law_same_worth", "_law_same_worth", defArgs st_law_same_worth, defBody st_law_same_worth, defScope st_law_same_worth, [], []⟩
def hd_law_die : He.DefD := ⟨("_law_die", none), "_law_die", "_law_die", defArgs st_law_die, defBody st_law_die, defScope st_law_die, [], []⟩
def hd_law_dice : He.DefD := ⟨("_law_dice", none), "_law_dice", "_law_dice", defArgs st_law_dice, defBody st_law_dice, defScope st_law_dice, [], []⟩
def hd_law_sizes : He.DefD := ⟨("_law_sizes", none), "_law_sizes", "_law_sizes", defArgs st_law_sizes, defBody st_law_sizes, defScope st_law_sizes, [], []⟩
def hd_law_like : He.DefD := ⟨("_law_like", none), "_law_like", "_law_like", defArgs st_law_like, defBody st_law_like, defScope st_law_like, [], []⟩
def hd_law_count : He.DefD := ⟨("_law_count", none), "_law_count", "_law_count", defArgs st_law_count, defBody st_law_count, defScope st_law_count, [], []⟩
def hd_law_areas_hold : He.DefD := ⟨("_law_areas_hold", none), "_law_areas_hold", "_law_areas_hold", defArgs st_law_areas_hold, defBody st_law_areas_hold, defScope st_law_areas_hold, [], []⟩
def hd_law_throws_hold : He.DefD := ⟨("_law_throws_hold", none), "_law_throws_hold", "_law_throws_hold", defArgs st_law_throws_hold, defBody st_law_throws_hold, defScope st_law_throws_hold, [], []⟩
def hd_law_fractions_hold : He.DefD := ⟨("_law_fractions_hold", none), "_law_fractions_hold", "_law_fractions_hold", defArgs st_law_fractions_hold, defBody st_law_fractions_hold, defScope st_law_fractions_hold, [], []⟩
def hd_law_moved_holds : He.DefD := ⟨("_law_moved_holds", none), "_law_moved_holds", "_law_moved_holds", defArgs st_law_moved_holds, defBody st_law_moved_holds, defScope st_law_moved_holds, [], []⟩
def hd_law_single_holds : He.DefD := ⟨("_law_single_holds", none), "_law_single_holds", "_law_single_holds", defArgs st_law_single_holds, defBody st_law_single_holds, defScope st_law_single_holds, [], []⟩
def hd_law_mixed_holds : He.DefD := ⟨("_law_mixed_holds", none), "_law_mixed_holds", "_law_mixed_holds", defArgs st_law_mixed_holds, defBody st_law_mixed_holds, defScope st_law_mixed_holds, [], []⟩
def hd_law_like_holds : He.DefD := ⟨("_law_like_holds", none), "_law_like_holds", "_law_like_holds", defArgs st_law_like_holds, defBody st_law_like_holds, defScope st_law_like_holds, [], []⟩
def hd_law_told : He.DefD := ⟨("_law_told", none), "_law_told", "_law_told", defArgs st_law_told, defBody st_law_told, defScope st_law_told, [], []⟩
def hd_law_told_of_two : He.DefD := ⟨("_law_told_of_two", none), "_law_told_of_two", "_law_told_of_two", defArgs st_law_told_of_two, defBody st_law_told_of_two, defScope st_law_told_of_two, [], []⟩
def hd_law_bad_die : He.DefD := ⟨("_law_bad_die", none), "_law_bad_die", "_law_bad_die", defArgs st_law_bad_die, defBody st_law_bad_die, defScope st_law_bad_die, [], []⟩
def hd_law_refuses_dice : He.DefD := ⟨("_law_refuses_dice", none), "_law_refuses_dice", "_law_refuses_dice", defArgs st_law_refuses_dice, defBody st_law_refuses_dice, defScope st_law_refuses_dice, [], []⟩
def hd_law_refuses_numbers : He.DefD := ⟨("_law_refuses_numbers", none), "_law_refuses_numbers", "_law_refuses_numbers", defArgs st_law_refuses_numbers, defBody st_law_refuses_numbers, defScope st_law_refuses_numbers, [], []⟩
def hd_law : He.DefD := ⟨("law", none), "law", "law", defArgs st_law, defBody st_law, defScope st_law, [], []⟩
def hd_init_BadNumber : He.DefD := ⟨("BadNumber", some "__init__"), "__init__", "BadNumber.__init__", defArgs st_init_BadNumber, defBody st_init_BadNumber, defScope st_init_BadNumber, [], []⟩
def hd_init_BadDie : He.DefD := ⟨("BadDie", some "__init__"), "__init__", "BadDie.__init__", defArgs st_init_BadDie, defBody st_init_BadDie, defScope st_init_BadDie, [], []⟩
def hd_init_BadWeights : He.DefD := ⟨("BadWeights", some "__init__"), "__init__", "BadWeights.__init__", defArgs st_init_BadWeights, defBody st_init_BadWeights, defScope st_init_BadWeights, [], []⟩
def hd_init_OtherSize : He.DefD := ⟨("OtherSize", some "__init__"), "__init__", "OtherSize.__init__", defArgs st_init_OtherSize, defBody st_init_OtherSize, defScope st_init_OtherSize, [], []⟩
def hfn : List He.DefD := [hd_is_int, hd_is_row, hd_check_int, hd_check_between, hd_common_divisor, hd_shortened, hd_weights_of, hd_wrong_place, hd_die_of, hd_two_dice, hd_running_counts, hd_below, hd_belows, hd_one_faced, hd_is_like, hd_short_die, hd_mixed_die, hd_lowest, hd_fraction, hd_both_fractions, hd_added, hd_taken_off, hd_multiplied, hd_divided, hd_is_less, hd_is_equal, hd_rank_leads, hd_paired_sum, hd_wins, hd_ties, hd_lead, hd_chance, hd_half_chance, hd_areas, hd_law_draws, hd_law_take, hd_law_int, hd_law_divisor, hd_law_is_fraction, hd_law_same_worth, hd_law_die, hd_law_dice, hd_law_sizes, hd_law_like, hd_law_count, hd_law_areas_hold, hd_law_throws_hold, hd_law_fractions_hold, hd_law_moved_holds, hd_law_single_holds, hd_law_mixed_holds, hd_law_like_holds, hd_law_told, hd_law_told_of_two, hd_law_bad_die, hd_law_refuses_dice, hd_law_refuses_numbers, hd_law, hd_init_BadNumber, hd_init_BadDie, hd_init_BadWeights, hd_init_OtherSize]
def hfa : List He.Fa := [.glo "is_int", .glo "is_row", .glo "check_int", .glo "check_between", .glo "common_divisor", .glo "shortened", .glo "weights_of", .glo "wrong_place", .glo "die_of", .glo "two_dice", .glo "running_counts", .glo "below", .glo "belows", .glo "one_faced", .glo "is_like", .glo "short_die", .glo "mixed_die", .glo "lowest", .glo "fraction", .glo "both_fractions", .glo "added", .glo "taken_off", .glo "multiplied", .glo "divided", .glo "is_less", .glo "is_equal", .glo "rank_leads", .glo "paired_sum", .glo "wins", .glo "ties", .glo "lead", .glo "chance", .glo "half_chance", .glo "areas", .glo "_law_draws", .glo "_law_take", .glo "_law_int", .glo "_law_divisor", .glo "_law_is_fraction", .glo "_law_same_worth", .glo "_law_die", .glo "_law_dice", .glo "_law_sizes", .glo "_law_like", .glo "_law_count", .glo "_law_areas_hold", .glo "_law_throws_hold", .glo "_law_fractions_hold", .glo "_law_moved_holds", .glo "_law_single_holds", .glo "_law_mixed_holds", .glo "_law_like_holds", .glo "_law_told", .glo "_law_told_of_two", .glo "_law_bad_die", .glo "_law_refuses_dice", .glo "_law_refuses_numbers", .glo "law", .glo "DiceError", .glo "BadNumber", .glo "BadDie", .glo "BadWeights", .glo "OtherSize", .free "len", .free "sum", .free "max", .free "min", .free "abs", .free "int", .free "bool", .free "list", .free "tuple", .free "isinstance", .free "range", .free "zip", .free "enumerate"]
def tyB (o : Option Value) (s : String) : Bool := match o with
  | some (.type t) => decide (t = s)
  | _ => false
theorem tyB_ok {o : Option Value} {s : String} (h : tyB o s = true) : o = some (.type s) := by
  unfold tyB at h
  split at h
  · rw [of_decide_eq_true h]
  · cases h
/-- an own error class, as the hand layer wants it -/
def oexB (K : PySem.W.Frag) (C : Addr) : Bool := (match K.lookup C with
  | some ⟨.type "type", _, .cls cd, sl⟩ => (match cd.mro, sl.toList with
    | .ref C' :: bm, [_, _, _, _, some (.builtin n), _] => C' == C && n == "ValueError.__new__" && !cd.hasDel && cd.hasDict && PySem.HandSPX.refsVE bm
    | _, _ => false)
  | _ => false) && (He.eqO (PySem.W.findIn K (.ref C) "__setattr__") (some (some (.builtin "object.__setattr__"))) && (decide (PySem.W.subIn K (.ref C) (.type "BaseException") = some true) && (decide (PySem.W.typeIn K (.ref C) = some (.type "type")) && PySem.W.keepIn K (.ref C))))
def excB (K : PySem.W.Frag) (C : Addr) : Bool := xfB K C && (He.eqO (PySem.W.findIn K (.ref C) "__class__") (some (some (.builtin "object.__class__"))) && (He.eqO (PySem.W.specialIn K (.builtin "object.__class__") "__get__") (some (some (.builtin "getset_descriptor.__get__"))) && (decide (PySem.W.takesIn K (.builtin "object.__class__") = some true) && decide (PySem.W.mroIn K C (.type "object") = some true))))
def raisedE : List Str := ["BadNumber", "BadDie", "BadWeights", "OtherSize"]
def moreB (K : PySem.W.Frag) : Bool := He.eqO (PySem.W.nsIn K mainGlobals "gcd") (some (some (.builtin "math.gcd"))) && ((xsE.all fun x => excB K (He.ga K x)) && ((raisedE.all fun x => oexB K (He.ga K x) && (He.eqO (PySem.W.findIn K (.ref (He.ga K x)) "__init__") (some (some (.ref (He.ma K (He.ga K x) "__init__")))) && decide (PySem.W.typeIn K (.ref (He.ma K (He.ga K x) "__init__")) = some (.type "function")))) &&
  ((xsE.all fun x => flE.all fun f => He.eqO (PySem.W.findIn K (.ref (He.ga K x)) f) (some none)) && (xsE.all fun x => xsE.all fun y => decide (PySem.W.exmOne K (.ref (He.ga K x)) (.ref (He.ga K y)) = some (sbE x y)) && decide (PySem.W.kitOne K (.ref (He.ga K x)) (.ref (He.ga K y)) = some (sbE x y))))))
def obsK (fa : List He.Fa) (fn : List He.DefD) (K : PySem.W.Frag) : He.AlD := ((He.obsD fa fn K).1 && moreB K, (He.obsD fa fn K).2)
def SaysK (fa : List He.Fa) (fn : List He.DefD) (K : PySem.W.Frag) : Prop := obsK fa fn K = He.valD fn
theorem SaysK.d {fa : List He.Fa} {fn : List He.DefD} {K : PySem.W.Frag} (h : SaysK fa fn K) : He.SaysD fa fn K ∧ moreB K = true := by
  have h1 : ((He.obsD fa fn K).1 && moreB K) = true := congrArg (fun z : He.AlD => z.1) h
  obtain ⟨a, b⟩ := He.ba h1
  have h2 : (obsK fa fn K).2 = (He.valD fn).2 := congrArg (fun z : He.AlD => z.2) h
  exact ⟨Prod.ext a h2, b⟩
def obsKG (n : Nat) (fa : List He.Fa) (fn : List He.DefD) (g : Addr → Option Obj) : He.AlD := obsK fa fn (He.frG g (He.asD g n))
def hookK (n : Nat) (fa : List He.Fa) (fn : List He.DefD) : PySem.W.Hook where
  α := He.AlD
  obs := fun s => obsKG n fa fn s.heap.get?
  val := fun _ => He.valD fn
  says := fun _ h => ∃ K : PySem.W.Frag, K.In h ∧ SaysK fa fn K
  of := fun _ _ e => ⟨_, He.frG_in, e⟩
  keeps := fun _ _ _ ⟨K, hK, c⟩ k => ⟨K, PySem.W.Frag.In.keeps hK k, c⟩
theorem obsKG_eq {n : Nat} {fa : List He.Fa} {fn : List He.DefD} {g : Addr → Option Obj} {s : Shared} (h : ∀ a, g a = s.heap.get? a) : obsKG n fa fn g = (hookK n fa fn).obs s := by
  have e : g = s.heap.get? := funext h
  rw [e] <;> rfl
abbrev Rk : PySem.W.OpenRow := PySem.W.OpenLaw.row PySem.Challenge.rw_dicewins_k01_areas_leads_and_fractions
abbrev hkk : PySem.W.Hook := hookK 6 hfa hfn
def obk (s : PySem.W.SharedT) : He.AlD := obsKG 6 hfa hfn (HandSHeadRun.getT s)
theorem obk_eq (s : PySem.W.SharedT) : obk s = hkk.obs s.abs := obsKG_eq (HandSHeadRun.getT_eq s)
def looseK : List Str := (["DiceError", "BadNumber", "BadDie", "BadWeights", "OtherSize", "is_int", "is_row", "check_int", "check_between", "common_divisor"] : List Str) ++ (["shortened", "weights_of", "wrong_place", "die_of", "two_dice", "running_counts", "below", "belows", "one_faced", "is_like"] : List Str) ++ (["short_die", "mixed_die", "lowest", "fraction", "both_fractions", "added", "taken_off", "multiplied", "divided", "is_less"] : List Str) ++ (["is_equal", "rank_leads", "paired_sum", "wins", "ties", "lead", "chance", "half_chance", "areas", "_law_draws"] : List Str) ++ (["_law_take", "_law_int", "_law_divisor", "_law_is_fraction", "_law_same_worth", "_law_die", "_law_dice", "_law_sizes", "_law_like", "_law_count"] : List Str) ++ (["_law_areas_hold", "_law_throws_hold", "_law_fractions_hold", "_law_moved_holds", "_law_single_holds", "_law_mixed_holds", "_law_like_holds", "_law_told", "_law_told_of_two", "_law_bad_die"] : List Str) ++ (["_law_refuses_dice", "_law_refuses_numbers"] : List Str)
theorem runK (w : World) : HandSHeadRun.RunEqI Rk (PySem.W.view Rk.prog [0, 69]) hkk obk 12000 looseK w := by
  unfold HandSHeadRun.RunEqI
  kernel_rfl
end KV
set_option Elab.async false
set_option linter.all false
set_option autoImplicit false
set_option maxRecDepth 100000
set_option maxHeartbeats 2000000
/-! A layer over HandS: every expression and statement has a plain function over data; what the function gives, the machine gives. -/
namespace KV
open PySem PySem.Spec PyProof.Rows L2

/-! ### data -/
/-- the written part that the script may stand in -/
class KK where
  K : PySem.W.Frag
variable [KK]
inductive D where
  | non | bl (b : Bool) | int (i : Int) | str (s : Str) | lst (xs : List D) | tup (xs : List D) | scr (ns : List Int) | ty (n : String)
  deriving Inhabited

mutual
inductive Rp (B : Hp) : V → D → Prop
  | non : Rp B .non .non
  | bl (b : Bool) : Rp B (.bl b) (.bl b)
  | int (i : Int) : Rp B (.int i) (.int i)
  | str (x : Str) : Rp B (.str x) (.str x)
  | ty (n : String) : Rp B (.ty n) (.ty n)
  | lst {a : Addr} {xs : List V} {ds : List D} : B a = some (.lst xs) → RpL B xs ds → Rp B (.ref a) (.lst ds)
  | tup {a : Addr} {xs : List V} {ds : List D} : B a = some (.tup xs) → RpL B xs ds → Rp B (.ref a) (.tup ds)
  | scr {a : Addr} {ns : List Int} : SqL KK.K B a (ns.map V.int) → Rp B (.ref a) (.scr ns)
inductive RpL (B : Hp) : List V → List D → Prop
  | nil : RpL B [] []
  | cons {v : V} {vs : List V} {d : D} {ds : List D} : Rp B v d → RpL B vs ds → RpL B (v :: vs) (d :: ds)
end

def Ex (H H' : Hp) : Prop := ∀ a o, H a = some o → H' a = some o
theorem Ex.refl (H : Hp) : Ex H H := fun _ _ h => h
theorem Ex.trans {H H1 H2 : Hp} (a : Ex H H1) (b : Ex H1 H2) : Ex H H2 := fun x o h => b x o (a x o h)
theorem Ex.new {H : Hp} {p : Addr} {o : HO} (h : H p = none) : Ex H (upd H p o) := fun a u e => by
  rw [upd_ne (ne_of_none e h)]
  exact e
theorem Ex.mut {H H' : Hp} {p : Addr} {o : HO} (e : Ex H H') (h : H p = none) : Ex H (upd H' p o) := fun a u ha => by
  rw [upd_ne (ne_of_none ha h)]
  exact e a u ha
theorem Ex.upd2 {H H' : Hp} {p : Addr} {o : HO} (e : Ex H H') : Ex (upd H p o) (upd H' p o) := fun a u ha => by
  by_cases h : a = p
  · subst h
    rw [upd_same] at ha ⊢
    exact ha
  · rw [upd_ne h] at ha ⊢
    exact e a u ha
theorem Ex.none {H H' : Hp} {p : Addr} (e : Ex H H') (h : H' p = none) : H p = none := by
  cases h1 : H p with
  | none => rfl
  | some o =>
    rw [e p o h1] at h
    cases h

theorem sqL_mono {K : PySem.W.Frag} {H H' : Hp} {a : Addr} {xs : List V} (e : Ex H H') (h : SqL K H a xs) : SqL K H' a xs := by
  rcases h with (h | ⟨o, h⟩) | h
  · exact .inl (.inl (e _ _ h))
  · exact .inl (.inr ⟨o, e _ _ h⟩)
  · exact .inr h
mutual
theorem Rp.mono {B B' : Hp} (e : Ex B B') : ∀ {d : D} {v : V}, Rp B v d → Rp B' v d
  | .non, _, .non => .non
  | .bl _, _, .bl _ => .bl _
  | .int _, _, .int _ => .int _
  | .str _, _, .str _ => .str _
  | .ty _, _, .ty _ => .ty _
  | .lst _, _, .lst h hs => .lst (e _ _ h) (RpL.mono e hs)
  | .tup _, _, .tup h hs => .tup (e _ _ h) (RpL.mono e hs)
  | .scr _, _, .scr h => .scr (sqL_mono e h)
theorem RpL.mono {B B' : Hp} (e : Ex B B') : ∀ {ds : List D} {vs : List V}, RpL B vs ds → RpL B' vs ds
  | [], _, .nil => .nil
  | _ :: _, _, .cons h hs => .cons (Rp.mono e h) (RpL.mono e hs)
end
theorem RpL.length {B : Hp} : ∀ {vs : List V} {ds : List D}, RpL B vs ds → vs.length = ds.length
  | _, _, .nil => rfl
  | _, _, .cons _ hs => congrArg (· + 1) (RpL.length hs)
theorem RpL.get {B : Hp} : ∀ {vs : List V} {ds : List D} {i : Nat} {d : D}, RpL B vs ds → ds[i]? = some d → ∃ v, vs[i]? = some v ∧ Rp B v d
  | _, _, _, _, .nil, e => by simp at e
  | _, _, 0, _, .cons r _, e => by simp at e; subst e; exact ⟨_, rfl, r⟩
  | _, _, i + 1, d, .cons _ t, e => by
    obtain ⟨v, h1, h2⟩ := RpL.get (i := i) (d := d) t (by simpa using e)
    exact ⟨v, by simpa using h1, h2⟩
theorem RpL.getV {B : Hp} : ∀ {vs : List V} {ds : List D} {i : Nat} {v : V}, RpL B vs ds → vs[i]? = some v → ∃ d, ds[i]? = some d ∧ Rp B v d
  | _, _, _, _, .nil, e => by simp at e
  | _, _, 0, _, .cons r _, e => by simp at e; subst e; exact ⟨_, rfl, r⟩
  | _, _, i + 1, d, .cons _ t, e => by
    obtain ⟨v, h1, h2⟩ := RpL.getV (i := i) (v := d) t (by simpa using e)
    exact ⟨v, by simpa using h1, h2⟩
theorem RpL.append {B : Hp} : ∀ {vs ws : List V} {ds es : List D}, RpL B vs ds → RpL B ws es → RpL B (vs ++ ws) (ds ++ es)
  | _, _, _, _, .nil, h => h
  | _, _, _, _, .cons r t, h => .cons r (RpL.append t h)
theorem RpL.take {B : Hp} : ∀ {vs : List V} {ds : List D} (n : Nat), RpL B vs ds → RpL B (vs.take n) (ds.take n)
  | _, _, 0, _ => by simp; exact .nil
  | _, _, _ + 1, .nil => .nil
  | _, _, n + 1, .cons r t => .cons r (RpL.take n t)
theorem RpL.drop {B : Hp} : ∀ {vs : List V} {ds : List D} (n : Nat), RpL B vs ds → RpL B (vs.drop n) (ds.drop n)
  | _, _, 0, r => r
  | _, _, _ + 1, .nil => .nil
  | _, _, n + 1, .cons _ t => RpL.drop n t
theorem RpL.set {B : Hp} {v : V} {d : D} (r : Rp B v d) : ∀ {vs : List V} {ds : List D} (i : Nat), RpL B vs ds → RpL B (vs.set i v) (ds.set i d)
  | _, _, _, .nil => .nil
  | _, _, 0, .cons _ t => .cons r t
  | _, _, i + 1, .cons q t => .cons q (RpL.set r i t)
theorem RpL.reverse {B : Hp} : ∀ {vs : List V} {ds : List D}, RpL B vs ds → RpL B vs.reverse ds.reverse
  | _, _, .nil => .nil
  | _, _, .cons r t => by
    rw [List.reverse_cons, List.reverse_cons]
    exact RpL.append (RpL.reverse t) (.cons r .nil)
theorem RpL.ints {B : Hp} : ∀ {ns : List Int} {vs : List V}, RpL B vs (ns.map D.int) → vs = ns.map V.int
  | [], vs, h => by cases h; rfl
  | n :: ns, vs, h => by
    cases h with
    | cons r t =>
      cases r
      rw [RpL.ints t]
      rfl
theorem RpL.of_ints {B : Hp} : ∀ {ns : List Int}, RpL B (ns.map V.int) (ns.map D.int)
  | [] => .nil
  | n :: ns => .cons (.int n) RpL.of_ints

/-! ### the slots: unassigned, data that does not change, a list of the def's own -/
inductive Sl where
  | un | sh (d : D) | ow (ds : List D)
  deriving Inhabited
abbrev Env := List Sl
/-- a slot's value: in B what stands still, in H all; a list of one's own stands outside of B -/
def RpS (B H : Hp) (o : Option V) : Sl → Prop
  | .un => True
  | .sh d => ∃ v, o = some v ∧ Rp B v d
  | .ow ds => ∃ a xs, o = some (.ref a) ∧ B a = none ∧ H a = some (.lst xs) ∧ RpL B xs ds
structure Rep (B H : Hp) (ρ : Env) (σ : L2.St) : Prop where
  ex : Ex B H
  len : ρ.length = σ.length
  at_ : ∀ (i : Nat) (s : Sl), ρ[i]? = some s → RpS B H ((σ[i]?).getD none) s
  apart : ∀ (i j : Nat) (ds es : List D), i ≠ j → ρ[i]? = some (Sl.ow ds) → ρ[j]? = some (Sl.ow es) → (σ[i]?).getD none ≠ (σ[j]?).getD none

theorem RpS.mono {B H B' H' : Hp} {o : Option V} (eB : Ex B B') (hk : ∀ a xs, B a = none → H a = some (.lst xs) → o = some (.ref a) → B' a = none ∧ H' a = some (.lst xs)) : ∀ {s : Sl}, RpS B H o s → RpS B' H' o s
  | .un, _ => trivial
  | .sh d, ⟨v, e, r⟩ => ⟨v, e, r.mono eB⟩
  | .ow ds, ⟨a, xs, e, n, h, r⟩ => ⟨a, xs, e, (hk a xs n h e).1, (hk a xs n h e).2, r.mono eB⟩
/-- something new, kept by all -/
theorem Rep.new {B H : Hp} {ρ : Env} {σ : L2.St} (R : Rep B H ρ σ) {p : Addr} {o : HO} (hp : H p = none) : Rep (upd B p o) (upd H p o) ρ σ :=
  ⟨R.ex.upd2, R.len, fun i s h => (R.at_ i s h).mono (Ex.new (R.ex.none hp)) fun a xs n e _ => by
    have hne : a ≠ p := ne_of_none e hp
    exact ⟨by rw [upd_ne hne]; exact n, by rw [upd_ne hne]; exact e⟩, R.apart⟩
/-- something new, not kept -/
theorem Rep.newH {B H : Hp} {ρ : Env} {σ : L2.St} (R : Rep B H ρ σ) {p : Addr} {o : HO} (hp : H p = none) : Rep B (upd H p o) ρ σ :=
  ⟨R.ex.trans (Ex.new hp), R.len, fun i s h => (R.at_ i s h).mono (Ex.refl B) fun a xs n e _ => by
    have hne : a ≠ p := ne_of_none e hp
    exact ⟨n, by rw [upd_ne hne]; exact e⟩, R.apart⟩

/-! ### what a step keeps -/
def Own (ρ : Env) (σ : L2.St) (a : Addr) : Prop := ∃ (i : Nat) (ds : List D), ρ[i]? = some (Sl.ow ds) ∧ (σ[i]?).getD none = some (V.ref a)
structure Go (B H : Hp) (o : Addr → Prop) (B' H' : Hp) (o' : Addr → Prop) : Prop where
  ex : Ex B B'
  fr : ∀ a u, H a = some u → ¬ o a → H' a = some u
  nb : ∀ a u, H a = some u → B a = none → ¬ o a → B' a = none
  ow : ∀ a, o' a → o a ∨ H a = none
  th : ∀ a, H' a = none → H a = none
theorem Go.refl (B H : Hp) (o : Addr → Prop) : Go B H o B H o := ⟨Ex.refl B, fun _ _ h _ => h, fun _ _ _ h _ => h, fun _ h => .inl h, fun _ h => h⟩
theorem Go.trans {B H B1 H1 B2 H2 : Hp} {o o1 o2 : Addr → Prop} (g : Go B H o B1 H1 o1) (k : Go B1 H1 o1 B2 H2 o2) : Go B H o B2 H2 o2 := by
  have key : ∀ a u, H a = some u → ¬ o a → ¬ o1 a := fun a u h n z => by
    rcases g.ow a z with q | q
    · exact n q
    · rw [h] at q; cases q
  refine ⟨g.ex.trans k.ex, fun a u h n => k.fr a u (g.fr a u h n) (key a u h n), fun a u h hb n => k.nb a u (g.fr a u h n) (g.nb a u h hb n) (key a u h n), fun a h => ?_, fun a h => g.th a (k.th a h)⟩
  rcases k.ow a h with q | q
  · exact g.ow a q
  · by_cases z : o a
    · exact .inl z
    · refine .inr ?_
      cases e : H a with
      | none => rfl
      | some u => rw [g.fr a u e z] at q; cases q
theorem Go.back {B H B' H' : Hp} {o o' : Addr → Prop} (g : Go B H o B' H' o') {p : Addr} (h : o' p ∨ H' p = none) : o p ∨ H p = none := by
  rcases h with h | h
  · exact g.ow p h
  · exact .inr (g.th p h)
/-- something new, kept by all -/
theorem Go.new {B H : Hp} {o : Addr → Prop} {p : Addr} {u : HO} (e : Ex B H) (hp : H p = none) : Go B H o (upd B p u) (upd H p u) o :=
  ⟨Ex.new (e.none hp), fun a v h _ => Ex.new hp a v h, fun a v h hb _ => by rw [upd_ne (ne_of_none h hp)]; exact hb, fun _ h => .inl h, fun a h => (Ex.new hp).none h⟩
theorem Go.newH {B H : Hp} {o : Addr → Prop} {p : Addr} {u : HO} (hp : H p = none) : Go B H o B (upd H p u) o :=
  ⟨Ex.refl B, fun a v h _ => Ex.new hp a v h, fun _ _ _ hb _ => hb, fun _ h => .inl h, fun a h => (Ex.new hp).none h⟩

/-! ### outcomes -/
structure Er where
  cls : Str
  fs : List (Str × D)
inductive Out (α : Type) where
  | ok (a : α)
  | er (e : Er) (ρ : Env)
  | st
def Out.bind {α β : Type} : Out α → (α → Out β) → Out β
  | .ok a, k => k a
  | .er e ρ, _ => .er e ρ
  | .st, _ => .st
def Out.wp {α : Type} (o : Out α) (Q : α → Prop) (E : Er → Env → Prop) : Prop := match o with
  | .ok a => Q a
  | .er e ρ => E e ρ
  | .st => False
theorem wp_bind {α β : Type} {o : Out α} {k : α → Out β} {Q : β → Prop} {E : Er → Env → Prop} : (o.bind k).wp Q E = o.wp (fun a => (k a).wp Q E) E := by
  cases o <;> rfl
theorem Out.wp.mono {α : Type} {o : Out α} {Q Q' : α → Prop} {E E' : Er → Env → Prop} (h : o.wp Q E) (hQ : ∀ a, Q a → Q' a) (hE : ∀ e ρ, E e ρ → E' e ρ) : o.wp Q' E' := by
  cases o with
  | ok a => exact hQ a h
  | er e ρ => exact hE e ρ h
  | st => exact h

/-! ### the strongest readings -/
def tAny (X : Cx) (e : Expr) : TE := fun σ H Q => ∃ t, PE X e t ∧ t σ H Q
theorem pe_any {X : Cx} {e : Expr} : PE X e (tAny X e) := ⟨fun pins s σ H Q I ⟨_, p, h⟩ => p.run pins s σ H Q I h⟩
def tAnyT (X : Cx) (e : Expr) : TT := fun σ H Q => ∃ t, PT X e t ∧ t σ H Q
theorem pt_any {X : Cx} {e : Expr} : PT X e (tAnyT X e) := ⟨fun pins s σ H Q I ⟨_, p, h⟩ => p.run pins s σ H Q I h⟩
def tAnyW (X : Cx) (e : Expr) : TT := fun σ H Q => ∃ t, PW X e t ∧ t σ H Q
theorem pw_any {X : Cx} {e : Expr} : PW X e (tAnyW X e) := ⟨fun wh pins s σ H Q I ⟨_, p, h⟩ => p.run wh pins s σ H Q I h⟩
def tAnyA (X : Cx) (es : List Expr) : TA := fun σ H Q => ∃ t, PA X es t ∧ t σ H Q
theorem pa_any {X : Cx} {es : List Expr} : PA X es (tAnyA X es) := ⟨fun pos pins s σ H Q I ⟨_, p, h⟩ => p.run pos pins s σ H Q I h⟩
def tAnyS (X : Cx) (st : Stmt) : TS := fun D σ H => ∃ t, PS X st t ∧ t D σ H
theorem ps_any {X : Cx} {st : Stmt} : PS X st (tAnyS X st) := ⟨fun pins s σ H D I ⟨_, p, h⟩ => p.run pins s σ H D I h⟩
def tAnySs (X : Cx) (st : List Stmt) : TS := fun D σ H => ∃ t, PSs X st t ∧ t D σ H
theorem pss_any {X : Cx} {st : List Stmt} : PSs X st (tAnySs X st) := ⟨fun pins s σ H D I ⟨_, p, h⟩ => p.run pins s σ H D I h⟩
def tAnyG (X : Cx) (e : Expr) : TG := fun v σ H Q => ∃ t, PG X e t ∧ t v σ H Q
theorem pg_any {X : Cx} {e : Expr} : PG X e (tAnyG X e) := ⟨fun pins s σ H v u Q I r ⟨_, p, h⟩ => p.run pins s σ H v u Q I r h⟩
def tAnyI (X : Cx) (tg it : Expr) : TI := fun σ H R => ∃ t, PI X tg it t ∧ t σ H R
theorem pi_any {X : Cx} {tg it : Expr} : PI X tg it (tAnyI X tg it) := ⟨fun pins s σ H R I ⟨_, p, h⟩ => p.run pins s σ H R I h⟩

/-! ### what an error leaves -/
def ErR (mg : Str → Option Value) (er : Er) (cls : Value) (dd : Option Addr) (B H : Hp) : Prop :=
  ∃ C d fs, cls = .ref C ∧ mg er.cls = some (.ref C) ∧ dd = some d ∧ B d = none ∧ H d = some (.xd fs) ∧ fs.map (·.1) = er.fs.map (·.1) ∧ RpL B (fs.map (·.2)) (er.fs.map (·.2))

/-! ### the judgements -/
abbrev FE := Env → Out (D × Env)
abbrev FF := Env → Out (List D × Env)
abbrev FT := Env → Out (Bool × Env)
abbrev FA := Env → Out (List D × Env)
/-- what is asked behind an expression's value -/
def AskV (B H : Hp) (o : Addr → Prop) (σ : L2.St) (Q : VK) (r : D × Env) : Prop := ∀ B' H' v, Go B H o B' H' (Own r.2 σ) → Rep B' H' r.2 σ → Rp B' v r.1 → Q v H'
def AskE (X : Cx) (W : WX) (B H : Hp) (o : Addr → Prop) (σ : L2.St) (e : Er) (ρ : Env) : Prop := ∀ B' H' cls dd, Go B H o B' H' (Own ρ σ) → Rep B' H' ρ σ → ErR X.mg e cls dd B' H' → W cls dd σ H'
/-- e does what f says -/
def SE (X : Cx) (W : WX) (e : Expr) (f : FE) : Prop :=
  ∀ B H ρ σ, Rep B H ρ σ → ∀ Q : VK, (f ρ).wp (AskV B H (Own ρ σ) σ Q) (AskE X W B H (Own ρ σ) σ) → tAny X e σ H Q
def AskF (B H : Hp) (o : Addr → Prop) (σ : L2.St) (Q : VK) (r : List D × Env) : Prop := ∀ B' H' p xs, Go B H o B' H' (Own r.2 σ) → Rep B' H' r.2 σ → B' p = none → H' p = some (.lst xs) → RpL B' xs r.1 → ¬ Own r.2 σ p → (o p ∨ H p = none) → Q (.ref p) H'
/-- e makes a new list -/
def SF (X : Cx) (W : WX) (e : Expr) (f : FF) : Prop :=
  ∀ B H ρ σ, Rep B H ρ σ → ∀ Q : VK, (f ρ).wp (AskF B H (Own ρ σ) σ Q) (AskE X W B H (Own ρ σ) σ) → tAny X e σ H Q
def AskT (B H : Hp) (o : Addr → Prop) (σ : L2.St) (Q : Bool → Hp → Prop) (r : Bool × Env) : Prop := ∀ B' H', Go B H o B' H' (Own r.2 σ) → Rep B' H' r.2 σ → Q r.1 H'
def SB (X : Cx) (W : WX) (e : Expr) (f : FT) : Prop :=
  ∀ B H ρ σ, Rep B H ρ σ → ∀ Q : Bool → Hp → Prop, (f ρ).wp (AskT B H (Own ρ σ) σ Q) (AskE X W B H (Own ρ σ) σ) → tAnyT X e σ H Q
def SW (X : Cx) (W : WX) (e : Expr) (f : FT) : Prop :=
  ∀ B H ρ σ, Rep B H ρ σ → ∀ Q : Bool → Hp → Prop, (f ρ).wp (AskT B H (Own ρ σ) σ Q) (AskE X W B H (Own ρ σ) σ) → tAnyW X e σ H Q
def AskA (B H : Hp) (o : Addr → Prop) (σ : L2.St) (Q : List V → Hp → Prop) (r : List D × Env) : Prop := ∀ B' H' vs, Go B H o B' H' (Own r.2 σ) → Rep B' H' r.2 σ → RpL B' vs r.1 → Q vs H'
def SA (X : Cx) (W : WX) (es : List Expr) (f : FA) : Prop :=
  ∀ B H ρ σ, Rep B H ρ σ → ∀ Q : List V → Hp → Prop, (f ρ).wp (AskA B H (Own ρ σ) σ Q) (AskE X W B H (Own ρ σ) σ) → tAnyA X es σ H Q

section
variable {X : Cx} {W : WX} {B H B' H' : Hp} {o o' : Addr → Prop} {σ : L2.St}
theorem AskV.ext {Q : VK} {r : D × Env} (e : Go B H o B' H' o') (h : AskV B H o σ Q r) : AskV B' H' o' σ Q r := fun B2 H2 v e2 => h B2 H2 v (e.trans e2)
theorem AskE.ext {er : Er} {ρ : Env} (e : Go B H o B' H' o') (h : AskE X W B H o σ er ρ) : AskE X W B' H' o' σ er ρ := fun B2 H2 c d e2 => h B2 H2 c d (e.trans e2)
theorem AskT.ext {Q : Bool → Hp → Prop} {r : Bool × Env} (e : Go B H o B' H' o') (h : AskT B H o σ Q r) : AskT B' H' o' σ Q r := fun B2 H2 e2 => h B2 H2 (e.trans e2)
theorem AskA.ext {Q : List V → Hp → Prop} {r : List D × Env} (e : Go B H o B' H' o') (h : AskA B H o σ Q r) : AskA B' H' o' σ Q r := fun B2 H2 vs e2 => h B2 H2 vs (e.trans e2)
theorem Rep.own_some {ρ : Env} (R : Rep B H ρ σ) {a : Addr} (h : Own ρ σ a) : B a = none ∧ ∃ xs, H a = some (.lst xs) := by
  obtain ⟨i, ds, h1, h2⟩ := h
  obtain ⟨b, xs, e, n, hh, r⟩ := R.at_ i _ h1
  rw [h2] at e
  cases e
  exact ⟨n, xs, hh⟩
theorem Rep.not_own {ρ : Env} (R : Rep B H ρ σ) {a : Addr} (h : H a = none) : ¬ Own ρ σ a := fun z => by
  obtain ⟨_, xs, q⟩ := R.own_some z
  rw [h] at q
  cases q
theorem AskF.ext {Q : VK} {r : List D × Env} (e : Go B H o B' H' o') (h : AskF B H o σ Q r) : AskF B' H' o' σ Q r := fun B2 H2 p xs e2 R2 n2 h2 r2 o2 hp => h B2 H2 p xs (e.trans e2) R2 n2 h2 r2 o2 (e.back hp)

/-- a part first, then what follows it -/
theorem SE.then {e : Expr} {f : FE} {α : Type} {k : D × Env → Out α} {A : Hp → Hp → (Addr → Prop) → α → Prop} (h : SE X W e f) {ρ : Env} (R : Rep B H ρ σ) {Q : VK} (hw : ((f ρ).bind k).wp (A B H (Own ρ σ)) (AskE X W B H (Own ρ σ) σ))
    (hA : ∀ {B' H' o' a}, Go B H (Own ρ σ) B' H' o' → A B H (Own ρ σ) a → A B' H' o' a)
    (hk : ∀ B1 H1 ρ1 v d, Go B H (Own ρ σ) B1 H1 (Own ρ1 σ) → Rep B1 H1 ρ1 σ → Rp B1 v d → (k (d, ρ1)).wp (A B1 H1 (Own ρ1 σ)) (AskE X W B1 H1 (Own ρ1 σ) σ) → Q v H1) : tAny X e σ H Q := by
  rw [wp_bind] at hw
  refine h B H ρ σ R Q (hw.mono (fun a ha B1 H1 v e1 R1 r1 => ?_) fun _ _ z => z)
  exact hk B1 H1 a.2 v a.1 e1 R1 r1 (ha.mono (fun _ q => hA e1 q) fun _ _ q => q.ext e1)
theorem SA.then {es : List Expr} {f : FA} {α : Type} {k : List D × Env → Out α} {A : Hp → Hp → (Addr → Prop) → α → Prop} (h : SA X W es f) {ρ : Env} (R : Rep B H ρ σ) {Q : List V → Hp → Prop} (hw : ((f ρ).bind k).wp (A B H (Own ρ σ)) (AskE X W B H (Own ρ σ) σ))
    (hA : ∀ {B' H' o' a}, Go B H (Own ρ σ) B' H' o' → A B H (Own ρ σ) a → A B' H' o' a)
    (hk : ∀ B1 H1 ρ1 vs ds, Go B H (Own ρ σ) B1 H1 (Own ρ1 σ) → Rep B1 H1 ρ1 σ → RpL B1 vs ds → (k (ds, ρ1)).wp (A B1 H1 (Own ρ1 σ)) (AskE X W B1 H1 (Own ρ1 σ) σ) → Q vs H1) : tAnyA X es σ H Q := by
  rw [wp_bind] at hw
  refine h B H ρ σ R Q (hw.mono (fun a ha B1 H1 v e1 R1 r1 => ?_) fun _ _ z => z)
  exact hk B1 H1 a.2 v a.1 e1 R1 r1 (ha.mono (fun _ q => hA e1 q) fun _ _ q => q.ext e1)
theorem SB.then {e : Expr} {f : FT} {α : Type} {k : Bool × Env → Out α} {A : Hp → Hp → (Addr → Prop) → α → Prop} (h : SB X W e f) {ρ : Env} (R : Rep B H ρ σ) {Q : Bool → Hp → Prop} (hw : ((f ρ).bind k).wp (A B H (Own ρ σ)) (AskE X W B H (Own ρ σ) σ))
    (hA : ∀ {B' H' o' a}, Go B H (Own ρ σ) B' H' o' → A B H (Own ρ σ) a → A B' H' o' a)
    (hk : ∀ B1 H1 ρ1 b, Go B H (Own ρ σ) B1 H1 (Own ρ1 σ) → Rep B1 H1 ρ1 σ → (k (b, ρ1)).wp (A B1 H1 (Own ρ1 σ)) (AskE X W B1 H1 (Own ρ1 σ) σ) → Q b H1) : tAnyT X e σ H Q := by
  rw [wp_bind] at hw
  refine h B H ρ σ R Q (hw.mono (fun a ha B1 H1 e1 R1 => ?_) fun _ _ z => z)
  exact hk B1 H1 a.2 a.1 e1 R1 (ha.mono (fun _ q => hA e1 q) fun _ _ q => q.ext e1)
theorem SF.then {e : Expr} {f : FF} {α : Type} {k : List D × Env → Out α} {A : Hp → Hp → (Addr → Prop) → α → Prop} (h : SF X W e f) {ρ : Env} (R : Rep B H ρ σ) {Q : VK} (hw : ((f ρ).bind k).wp (A B H (Own ρ σ)) (AskE X W B H (Own ρ σ) σ))
    (hA : ∀ {B' H' o' a}, Go B H (Own ρ σ) B' H' o' → A B H (Own ρ σ) a → A B' H' o' a)
    (hk : ∀ B1 H1 ρ1 p xs ds, Go B H (Own ρ σ) B1 H1 (Own ρ1 σ) → Rep B1 H1 ρ1 σ → B1 p = none → H1 p = some (.lst xs) → RpL B1 xs ds → ¬ Own ρ1 σ p → (Own ρ σ p ∨ H p = none) → (k (ds, ρ1)).wp (A B1 H1 (Own ρ1 σ)) (AskE X W B1 H1 (Own ρ1 σ) σ) → Q (.ref p) H1) : tAny X e σ H Q := by
  rw [wp_bind] at hw
  refine h B H ρ σ R Q (hw.mono (fun a ha B1 H1 p xs e1 R1 n1 h1 r1 o1 hp => ?_) fun _ _ z => z)
  exact hk B1 H1 a.2 p xs a.1 e1 R1 n1 h1 r1 o1 hp (ha.mono (fun _ q => hA e1 q) fun _ _ q => q.ext e1)

/-! ### a new list handed on: it stands still from now on -/
theorem Rep.freeze {ρ : Env} {p : Addr} {xs : List V} (R : Rep B H ρ σ) (hn : B p = none) (hp : H p = some (.lst xs)) (ho : ¬ Own ρ σ p) : Rep (upd B p (.lst xs)) H ρ σ := by
  refine ⟨fun a o h => ?_, R.len, fun i s h => ?_, R.apart⟩
  · by_cases e : a = p
    · subst e
      rw [upd_same] at h
      rw [hp]
      exact h
    · rw [upd_ne e] at h
      exact R.ex a o h
  · have q := R.at_ i s h
    cases s with
    | un => trivial
    | sh d =>
      obtain ⟨v, e, r⟩ := q
      exact ⟨v, e, r.mono (Ex.new hn)⟩
    | ow ds =>
      obtain ⟨a, ys, e, n, h2, r⟩ := q
      have hne : a ≠ p := fun z => ho ⟨i, ds, h, by rw [e, z]⟩
      exact ⟨a, ys, e, by rw [upd_ne hne]; exact n, h2, r.mono (Ex.new hn)⟩
theorem Go.frz {ρ : Env} {p : Addr} {xs : List V} (g : Go B H o B' H' (Own ρ σ)) (hn : B' p = none) (hp : o p ∨ H p = none) : Go B H o (upd B' p (.lst xs)) H' (Own ρ σ) :=
  ⟨g.ex.trans (Ex.new hn), g.fr, fun a u h hb z => by
    have hne : a ≠ p := fun e => by
      rcases hp with q | q
      · exact z (by rw [e]; exact q)
      · rw [e, q] at h; cases h
    rw [upd_ne hne]
    exact g.nb a u h hb z, g.ow, g.th⟩
def eFrz (f : FF) : FE := fun ρ => (f ρ).bind fun r => .ok (.lst r.1, r.2)
theorem se_frz {e : Expr} {f : FF} (h : SF X W e f) : SE X W e (eFrz f) := by
  intro B H ρ σ R Q hw
  unfold eFrz at hw
  rw [wp_bind] at hw
  refine h B H ρ σ R Q (hw.mono (fun a ha B1 H1 p xs e1 R1 n1 h1 r1 o1 hp => ?_) fun _ _ z => z)
  exact ha (upd B1 p (.lst xs)) H1 (.ref p) (e1.frz n1 hp) (R1.freeze n1 h1 o1) (.lst upd_same (r1.mono (Ex.new n1)))

/-! ### a slot's list handed on -/
theorem Own.of_set {ρ : Env} {i : Nat} {d : D} {a : Addr} (h : Own (ρ.set i (.sh d)) σ a) : Own ρ σ a := by
  obtain ⟨j, ds, h1, h2⟩ := h
  by_cases e : i = j
  · subst e
    rw [List.getElem?_set_self'] at h1
    cases q : ρ[i]? with
    | none => rw [q] at h1; cases h1
    | some s => rw [q] at h1; cases h1
  · rw [List.getElem?_set_ne e] at h1
    exact ⟨j, ds, h1, h2⟩
theorem Rep.freezeAt {ρ : Env} {i : Nat} {ds : List D} (R : Rep B H ρ σ) (h : ρ[i]? = some (Sl.ow ds)) :
    ∃ p xs, (σ[i]?).getD none = some (V.ref p) ∧ Rep (upd B p (.lst xs)) H (ρ.set i (.sh (.lst ds))) σ ∧ Rp (upd B p (.lst xs)) (.ref p) (.lst ds) ∧ Go B H (Own ρ σ) (upd B p (.lst xs)) H (Own (ρ.set i (.sh (.lst ds))) σ) := by
  obtain ⟨p, xs, e, n, hp, r⟩ := R.at_ i _ h
  have own : Own ρ σ p := ⟨i, ds, h, e⟩
  have rl : Rp (upd B p (.lst xs)) (.ref p) (.lst ds) := .lst upd_same (r.mono (Ex.new n))
  refine ⟨p, xs, e, ⟨fun a u q => ?_, by rw [List.length_set]; exact R.len, fun j s hj => ?_, fun j k es fs hjk hj hk => ?_⟩, rl, ⟨Ex.new n, fun _ _ q _ => q, fun a u q hb z => ?_, fun a z => .inl z.of_set, fun _ q => q⟩⟩
  · by_cases z : a = p
    · subst z
      rw [upd_same] at q
      rw [hp]
      exact q
    · rw [upd_ne z] at q
      exact R.ex a u q
  · by_cases z : i = j
    · subst z
      rw [List.getElem?_set_self', h] at hj
      cases hj
      exact ⟨.ref p, e, rl⟩
    · rw [List.getElem?_set_ne z] at hj
      have q := R.at_ j s hj
      cases s with
      | un => trivial
      | sh d =>
        obtain ⟨v, e2, r2⟩ := q
        exact ⟨v, e2, r2.mono (Ex.new n)⟩
      | ow es =>
        obtain ⟨a, ys, e2, n2, h2, r2⟩ := q
        have hne : a ≠ p := fun y => R.apart i j ds es z h hj (by rw [e, e2, y])
        exact ⟨a, ys, e2, by rw [upd_ne hne]; exact n2, h2, r2.mono (Ex.new n)⟩
  · have f1 : ∀ {j : Nat} {es : List D}, (ρ.set i (.sh (.lst ds)))[j]? = some (Sl.ow es) → ρ[j]? = some (Sl.ow es) := fun {j es} q => by
      by_cases z : i = j
      · subst z
        rw [List.getElem?_set_self', h] at q
        cases q
      · rw [List.getElem?_set_ne z] at q
        exact q
    exact R.apart j k es fs hjk (f1 hj) (f1 hk)
  · have hne : a ≠ p := fun y => z (by rw [y]; exact own)
    rw [upd_ne hne]
    exact hb
end
end KV
set_option Elab.async false
set_option linter.all false
set_option autoImplicit false
set_option maxRecDepth 100000
set_option maxHeartbeats 2000000
namespace KV
open PySem PySem.Spec PyProof.Rows L2
variable [KK]

/-! ### unions of rules -/
section
variable {X : Cx}
def rOr (r1 r2 : R2) : R2 := fun x y H Q => r1 x y H Q ∨ r2 x y H Q
theorem op_or {f : Value → Value → Sem Value} {r1 r2 : R2} (h1 : OpR X f r1) (h2 : OpR X f r2) : OpR X f (rOr r1 r2) := fun pins s σ H x y v u Q I rx ry h => by
  rcases h with h | h
  · exact h1 pins s σ H x y v u Q I rx ry h
  · exact h2 pins s σ H x y v u Q I rx ry h
theorem ix_or {r1 r2 : R2} (h1 : IxR X r1) (h2 : IxR X r2) : IxR X (rOr r1 r2) := fun va sl pins s σ H x y v u Q I rx ry h hs => by
  rcases h with h | h
  · exact h1 va sl pins s σ H x y v u Q I rx ry h hs
  · exact h2 va sl pins s σ H x y v u Q I rx ry h hs
def rSOr (r1 r2 : V → Option Int → Option Int → Hp → VK → Prop) : V → Option Int → Option Int → Hp → VK → Prop := fun x lo hi H Q => r1 x lo hi H Q ∨ r2 x lo hi H Q
theorem sl_or {r1 r2 : V → Option Int → Option Int → Hp → VK → Prop} (h1 : SlR X r1) (h2 : SlR X r2) : SlR X (rSOr r1 r2) := fun pins s σ H x v vl vu lo hi sl Q I rx hs pl pu h => by
  rcases h with h | h
  · exact h1 pins s σ H x v vl vu lo hi sl Q I rx hs pl pu h
  · exact h2 pins s σ H x v vl vu lo hi sl Q I rx hs pl pu h
def rCOr (r1 r2 : List V → Hp → VK → Prop) : List V → Hp → VK → Prop := fun vs H Q => r1 vs H Q ∨ r2 vs H Q
theorem call_or {f : Value} {r1 r2 : List V → Hp → VK → Prop} (h1 : CallR X f r1) (h2 : CallR X f r2) : CallR X f (rCOr r1 r2) := fun pins s σ H xs us Q I r h => by
  rcases h with h | h
  · exact h1 pins s σ H xs us Q I r h
  · exact h2 pins s σ H xs us Q I r h
end

section
variable {X : Cx} {W : WX} {e a b c : Expr} {f g h : FE}

/-! ### names, constants -/
def eVar (i : Nat) : FE := fun ρ => match ρ[i]? with
  | some (.sh d) => .ok (d, ρ)
  | some (.ow ds) => .ok (.lst ds, ρ.set i (.sh (.lst ds)))
  | _ => .st
theorem getD_some {σ : L2.St} {i : Nat} {v : V} (h : (σ[i]?).getD none = some v) : σ[i]? = some (some v) := by
  cases e : σ[i]? with
  | none => rw [e] at h; cases h
  | some o =>
    rw [e] at h
    exact congrArg some h
theorem se_var {i : Nat} (p : PE X e (tVar i)) : SE X W e (eVar i) := by
  intro B H ρ σ R Q hw
  refine ⟨_, p, ?_⟩
  unfold eVar at hw
  cases q : ρ[i]? with
  | none => rw [q] at hw; exact hw.elim
  | some s =>
    rw [q] at hw
    cases s with
    | un => exact hw.elim
    | sh d =>
      obtain ⟨v, e1, r⟩ := R.at_ i _ q
      exact ⟨v, getD_some e1, hw B H v (Go.refl ..) R r⟩
    | ow ds =>
      obtain ⟨p, xs, e1, R1, r1, g1⟩ := R.freezeAt q
      exact ⟨_, getD_some e1, hw _ _ _ g1 R1 r1⟩
def eC (d : D) : FE := fun ρ => .ok (d, ρ)
theorem se_c {v : V} {d : D} (p : PE X e (tC v)) (r : ∀ B, Rp B v d) : SE X W e (eC d) := fun B H ρ σ R Q hw => ⟨_, p, hw B H v (Go.refl ..) R (r B)⟩
theorem se_int {i : Int} {j : Nat} {pos : Pos} : SE X W (.Constant (.int i) j pos) (eC (.int i)) := se_c pe_int fun _ => .int i
theorem se_bl {i : Bool} {j : Nat} {pos : Pos} : SE X W (.Constant (.bool i) j pos) (eC (.bl i)) := se_c pe_bl fun _ => .bl i
theorem se_non {j : Nat} {pos : Pos} : SE X W (.Constant .none j pos) (eC .non) := se_c pe_non fun _ => .non
theorem se_str {x : Str} {j : Nat} {pos : Pos} : SE X W (.Constant (.str x) j pos) (eC (.str x)) := se_c pe_str fun _ => .str x

/-! ### two operands -/
def opt {α : Type} (o : Option α) (k : α → Out (α × Env)) : Out (α × Env) := match o with
  | some a => k a
  | none => .st
def eBin (k : D → D → Option D) (f g : FE) : FE := fun ρ => (f ρ).bind fun r => (g r.2).bind fun s => match k r.1 s.1 with
  | some d => .ok (d, s.2)
  | none => .st
/-- a rule on values does what k says -/
def OpD (r : R2) (k : D → D → Option D) : Prop := ∀ (B H : Hp) (ρ : Env) (σ : L2.St) (v u : V) (x y d : D), Rep B H ρ σ → Rp B v x → Rp B u y → k x y = some d → ∀ Q : VK, AskV B H (Own ρ σ) σ Q (d, ρ) → r v u H Q
theorem se_op2 {r : R2} {k : D → D → Option D} (hk : OpD r k) (hpe : ∀ ta tb, PE X a ta → PE X b tb → PE X e (tOp r ta tb)) (ha : SE X W a f) (hb : SE X W b g) : SE X W e (eBin k f g) := by
  intro B H ρ σ R Q hw
  refine ⟨_, hpe _ _ pe_any pe_any, ?_⟩
  unfold eBin at hw
  refine ha.then (A := fun B H o => AskV B H o σ Q) R hw (fun e q => q.ext e) fun B1 H1 ρ1 v x g1 R1 r1 hw1 => ?_
  refine hb.then (A := fun B H o => AskV B H o σ Q) R1 hw1 (fun e q => q.ext e) fun B2 H2 ρ2 u y g2 R2 r2 hw2 => ?_
  dsimp only at hw2
  cases q : k x y with
  | none => rw [q] at hw2; exact hw2.elim
  | some d =>
    rw [q] at hw2
    exact hk B2 H2 ρ2 σ v u x y d R2 (r1.mono g2.ex) r2 q Q hw2
theorem se_op {op : Operator} {r : R2} {k : D → D → Option D} {pos : Pos} (ho : OpR X (binaryOp op) r) (hk : OpD r k) (ha : SE X W a f) (hb : SE X W b g) : SE X W (.BinOp a op b pos) (eBin k f g) := se_op2 hk (fun _ _ pa pb => pe_op ho pa pb) ha hb
theorem se_cmp {op : CmpOp} {r : R2} {k : D → D → Option D} {pos : Pos} (ho : OpR X (compareOp op) r) (hk : OpD r k) (ha : SE X W a f) (hb : SE X W b g) (hm : behindInMarks op b = false) : SE X W (.Compare a [op] [b] pos) (eBin k f g) := se_op2 hk (fun _ _ pa pb => pe_cmpR ho pa pb hm) ha hb
theorem se_ix {r : R2} {k : D → D → Option D} {pos : Pos} (ho : IxR X r) (hk : OpD r k) (ha : SE X W a f) (hb : SE X W b g) (hs : PlainIx b) : SE X W (.Subscript a b pos) (eBin k f g) := se_op2 hk (fun _ _ pa pb => pe_ix ho pa pb hs) ha hb
theorem OpD.or {r1 r2 : R2} {k1 k2 : D → D → Option D} (h1 : OpD r1 k1) (h2 : OpD r2 k2) : OpD (rOr r1 r2) (fun x y => (k1 x y).orElse fun _ => k2 x y) := fun B H ρ σ v u x y d R rx ry hd Q q => by
  dsimp only at hd
  cases e : k1 x y with
  | some d1 =>
    rw [e] at hd
    exact .inl (h1 B H ρ σ v u x y d R rx ry (e.trans hd) Q q)
  | none =>
    rw [e] at hd
    exact .inr (h2 B H ρ σ v u x y d R rx ry hd Q q)

/-! ### the operators -/
def kI (g : Int → Int → Option D) : D → D → Option D
  | .int i, .int j => g i j
  | _, _ => none
theorem opD_I0 {g : Int → Int → V} {k : Int → Int → D} (h : ∀ B i j, Rp B (g i j) (k i j)) : OpD (rI0 g) (kI fun i j => some (k i j)) := by
  intro B H ρ σ v u x y d R rx ry hd Q q
  cases x <;> first | (cases y <;> first | (cases rx; cases ry; cases hd; exact ⟨_, _, rfl, rfl, q B H _ (Go.refl ..) R (h B _ _)⟩) | cases hd) | cases hd
theorem opD_I {C : Int → Int → Prop} {g : Int → Int → V} {k : Int → Int → Option D} (h : ∀ B i j d, k i j = some d → C i j ∧ Rp B (g i j) d) : OpD (rI C g) (kI k) := by
  intro B H ρ σ v u x y d R rx ry hd Q q
  cases x <;> first | (cases y <;> first | (cases rx; cases ry; obtain ⟨h1, h2⟩ := h B _ _ d hd; exact ⟨_, _, rfl, rfl, h1, q B H _ (Go.refl ..) R h2⟩) | cases hd) | cases hd
def small (i : Int) : Bool := decide (i.natAbs < 2 ^ 4000)
def dAdd : D → D → Option D := kI fun i j => some (.int (i + j))
def dSub : D → D → Option D := kI fun i j => some (.int (i - j))
def dMul : D → D → Option D := kI fun i j => if small i && small j then some (.int (i * j)) else none
def dMod : D → D → Option D := kI fun i j => if decide (0 < j) then some (.int (i % j)) else none
def dFdiv : D → D → Option D := kI fun i j => if decide (j ≠ 0) && small j then some (.int (i.fdiv j)) else none
def CDivZ (_ j : Int) : Prop := j ≠ 0 ∧ j.natAbs.log2 < 9000
theorem op_fdivZ : OpR X (binaryOp .FloorDiv) (rI CDivZ fun i j => .int (i.fdiv j)) := opI fun i j _ _ _ _ _ hc q => floordiv_int hc.1 q (.inl (PyProof.noPylong_of_log2 hc.2))
def dPow : D → D → Option D := kI fun i j => if decide (0 ≤ j) && decide (j ≤ 1000) && decide (i.natAbs < 2 ^ 64) then some (.int (i ^ j.toNat)) else none
def dLt : D → D → Option D := kI fun i j => some (.bl (decide (i < j)))
def dLe : D → D → Option D := kI fun i j => some (.bl (decide (i ≤ j)))
def dGt : D → D → Option D := kI fun i j => some (.bl (decide (j < i)))
def dGe : D → D → Option D := kI fun i j => some (.bl (decide (j ≤ i)))
theorem opD_add : OpD (rI0 fun i j => .int (i + j)) dAdd := opD_I0 fun _ _ _ => .int _
theorem opD_sub : OpD (rI0 fun i j => .int (i - j)) dSub := opD_I0 fun _ _ _ => .int _
theorem opD_mul : OpD (rI CMulW fun i j => .int (i * j)) dMul := opD_I fun B i j d h => by
  by_cases c : (small i && small j) = true
  · rw [if_pos c] at h
    cases h
    obtain ⟨c1, c2⟩ := Bool.and_eq_true_iff.mp c
    exact ⟨wide_mul (of_decide_eq_true c1) (of_decide_eq_true c2) (by decide) (by decide) (by decide), .int _⟩
  · rw [if_neg c] at h; cases h
theorem opD_mod : OpD (rI (fun _ j => 0 < j) fun i j => .int (i % j)) dMod := opD_I fun B i j d h => by
  by_cases c : decide (0 < j) = true
  · rw [if_pos c] at h
    cases h
    exact ⟨of_decide_eq_true c, .int _⟩
  · rw [if_neg c] at h; cases h
theorem opD_fdiv : OpD (rI CDivZ fun i j => .int (i.fdiv j)) dFdiv := opD_I fun B i j d h => by
  by_cases c : (decide (j ≠ 0) && small j) = true
  · rw [if_pos c] at h
    cases h
    obtain ⟨c1, c2⟩ := Bool.and_eq_true_iff.mp c
    exact ⟨⟨of_decide_eq_true c1, Nat.lt_of_lt_of_le (PySem.Flt.log2_lt_of (by decide) (of_decide_eq_true c2)) (by decide)⟩, .int _⟩
  · rw [if_neg c] at h; cases h
theorem opD_pow : OpD (rI CPow fun i j => .int (i ^ j.toNat)) dPow := opD_I fun B i j d h => by
  by_cases c : (decide (0 ≤ j) && decide (j ≤ 1000) && decide (i.natAbs < 2 ^ 64)) = true
  · rw [if_pos c] at h
    cases h
    obtain ⟨c1, c2⟩ := Bool.and_eq_true_iff.mp c
    obtain ⟨c0, c1⟩ := Bool.and_eq_true_iff.mp c1
    have z0 : (0 : Int) ≤ j := of_decide_eq_true c0
    have z1 : j ≤ 1000 := of_decide_eq_true c1
    exact ⟨⟨z0, by omega, of_decide_eq_true c2⟩, .int _⟩
  · rw [if_neg c] at h; cases h
theorem opD_lt : OpD (rI0 fun i j => .bl (decide (i < j))) dLt := opD_I0 fun _ _ _ => .bl _
theorem opD_le : OpD (rI0 fun i j => .bl (decide (i ≤ j))) dLe := opD_I0 fun _ _ _ => .bl _
theorem opD_gt : OpD (rI0 fun i j => .bl (decide (j < i))) dGt := opD_I0 fun _ _ _ => .bl _
theorem opD_ge : OpD (rI0 fun i j => .bl (decide (j ≤ i))) dGe := opD_I0 fun _ _ _ => .bl _

/-! ### == of data -/
mutual
def toP : D → PyData
  | .non => .none
  | .bl b => .bool b
  | .int i => .int i
  | .str s => .str s
  | .lst xs => .list (toPL xs)
  | .tup xs => .tuple (toPL xs)
  | .scr _ => .none
  | .ty _ => .none
def toPL : List D → List PyData
  | [] => []
  | x :: xs => toP x :: toPL xs
end
mutual
def noScr : D → Bool
  | .scr _ => false
  | .ty _ => false
  | .lst xs => noScrL xs
  | .tup xs => noScrL xs
  | _ => true
def noScrL : List D → Bool
  | [] => true
  | x :: xs => noScr x && noScrL xs
end
mutual
theorem dp_of {K : PySem.W.Frag} {B H : Hp} (e : Ex B H) : ∀ {d : D} {v : V}, noScr d = true → Rp B v d → Dp K H v (toP d)
  | .non, _, _, .non => .non
  | .bl _, _, _, .bl _ => .bl _
  | .int _, _, _, .int _ => .int _
  | .str _, _, _, .str _ => .str _
  | .lst _, _, n, .lst h hs => .lst (SqL.of (e _ _ h)) (dpL_of e n hs)
  | .tup _, _, n, .tup h hs => .tup (SqT.of (e _ _ h)) (dpL_of e n hs)
  | .scr _, _, n, _ => by cases n
  | .ty _, _, n, _ => by cases n
theorem dpL_of {K : PySem.W.Frag} {B H : Hp} (e : Ex B H) : ∀ {ds : List D} {vs : List V}, noScrL ds = true → RpL B vs ds → DpAll K H vs (toPL ds)
  | [], _, _, .nil => .nil
  | _ :: _, _, n, .cons h hs => .cons (dp_of e (Bool.and_eq_true_iff.mp n).1 h) (dpL_of e (Bool.and_eq_true_iff.mp n).2 hs)
end
def eqOk (d : D) : Bool := noScr d && SeqAt.shaped (toP d)
def eqD (x y : D) : Bool := PyData.eqv (toP x) (toP y)
def dEq (x y : D) : Option D := if eqOk x && eqOk y then some (.bl (eqD x y)) else none
def dNe (x y : D) : Option D := if eqOk x && eqOk y then some (.bl (!eqD x y)) else none
theorem opD_eq {K : PySem.W.Frag} : OpD (rEqD K) dEq := by
  intro B H ρ σ v u x y d R rx ry hd Q q
  unfold dEq at hd
  by_cases c : (eqOk x && eqOk y) = true
  · rw [if_pos c] at hd
    cases hd
    obtain ⟨c1, c2⟩ := Bool.and_eq_true_iff.mp c
    obtain ⟨n1, s1⟩ := Bool.and_eq_true_iff.mp c1
    obtain ⟨n2, s2⟩ := Bool.and_eq_true_iff.mp c2
    exact ⟨_, _, dp_of R.ex n1 rx, dp_of R.ex n2 ry, s1, s2, q B H _ (Go.refl ..) R (.bl _)⟩
  · rw [if_neg c] at hd; cases hd
theorem opD_ne {K : PySem.W.Frag} : OpD (rNeD K) dNe := by
  intro B H ρ σ v u x y d R rx ry hd Q q
  unfold dNe at hd
  by_cases c : (eqOk x && eqOk y) = true
  · rw [if_pos c] at hd
    cases hd
    obtain ⟨c1, c2⟩ := Bool.and_eq_true_iff.mp c
    obtain ⟨n1, s1⟩ := Bool.and_eq_true_iff.mp c1
    obtain ⟨n2, s2⟩ := Bool.and_eq_true_iff.mp c2
    exact ⟨_, _, dp_of R.ex n1 rx, dp_of R.ex n2 ry, s1, s2, q B H _ (Go.refl ..) R (.bl _)⟩
  · rw [if_neg c] at hd; cases hd
/-! is None, is not None; is, is not of bools -/
def dIsN : D → D → Option D
  | x, .non => some (.bl (match x with | .non => true | _ => false))
  | _, _ => none
def dNotN : D → D → Option D
  | x, .non => some (.bl (match x with | .non => false | _ => true))
  | _, _ => none
theorem opD_isN : OpD (fun x y H Q => y = .non ∧ Q (.bl (decide (x = .non))) H) dIsN := by
  intro B H ρ σ v u x y d R rx ry hd Q q
  cases y <;> first | cases hd | skip
  cases ry
  refine ⟨rfl, q B H _ (Go.refl ..) R ?_⟩
  cases rx <;> exact .bl _
theorem opD_notN : OpD (fun x y H Q => y = .non ∧ Q (.bl (!decide (x = .non))) H) dNotN := by
  intro B H ρ σ v u x y d R rx ry hd Q q
  cases y <;> first | cases hd | skip
  cases ry
  refine ⟨rfl, q B H _ (Go.refl ..) R ?_⟩
  cases rx <;> exact .bl _
def dIsB : D → D → Option D
  | .bl a, .bl b => some (.bl (decide (a = b)))
  | _, _ => none
def dNotB : D → D → Option D
  | .bl a, .bl b => some (.bl (!decide (a = b)))
  | _, _ => none
theorem opD_isB : OpD rIsB dIsB := by
  intro B H ρ σ v u x y d R rx ry hd Q q
  cases x <;> first | (cases y <;> first | (cases rx; cases ry; cases hd; exact ⟨_, _, rfl, rfl, q B H _ (Go.refl ..) R (.bl _)⟩) | cases hd) | cases hd
theorem opD_notB : OpD rNotB dNotB := by
  intro B H ρ σ v u x y d R rx ry hd Q q
  cases x <;> first | (cases y <;> first | (cases rx; cases ry; cases hd; exact ⟨_, _, rfl, rfl, q B H _ (Go.refl ..) R (.bl _)⟩) | cases hd) | cases hd

/-! ### subscripts -/
def dIx : D → D → Option D
  | .lst xs, .int k => atI xs k
  | .tup xs, .int k => atI xs k
  | .scr ns, .int k => (atI ns k).map D.int
  | _, _ => none
theorem atI_rp {B : Hp} {xs : List V} {ds : List D} {k : Int} {d : D} (r : RpL B xs ds) (h : atI ds k = some d) : ∃ v, atI xs k = some v ∧ Rp B v d := by
  unfold atI at h ⊢
  rw [r.length]
  cases e : ixN ds.length k with
  | none => rw [e] at h; cases h
  | some j =>
    rw [e] at h
    obtain ⟨v, h1, h2⟩ := r.get h
    exact ⟨v, h1, h2⟩
theorem atI_map {α β : Type} {f : α → β} {xs : List α} {k : Int} : atI (xs.map f) k = (atI xs k).map f := by
  unfold atI
  rw [List.length_map]
  cases ixN xs.length k with
  | none => rfl
  | some j => exact List.getElem?_map ..
theorem opD_ix : OpD (rOr (rIxL KK.K) (rIxT KK.K)) dIx := by
  intro B H ρ σ v u x y d R rx ry hd Q q
  cases x <;> first | cases hd | skip
  · cases y <;> first | cases hd | skip
    cases ry
    obtain ⟨h, hs⟩ : ∃ (a : Addr) (xs : List V), v = .ref a ∧ B a = some (.lst xs) ∧ RpL B xs _ := by cases rx; exact ⟨_, _, rfl, by assumption, by assumption⟩
    obtain ⟨xs, rfl, h1, h2⟩ := hs
    obtain ⟨w, e1, e2⟩ := atI_rp h2 hd
    exact .inl ⟨_, _, _, w, rfl, rfl, SqL.of (R.ex _ _ h1), e1, q B H w (Go.refl ..) R e2⟩
  · cases y <;> first | cases hd | skip
    cases ry
    obtain ⟨h, hs⟩ : ∃ (a : Addr) (xs : List V), v = .ref a ∧ B a = some (.tup xs) ∧ RpL B xs _ := by cases rx; exact ⟨_, _, rfl, by assumption, by assumption⟩
    obtain ⟨xs, rfl, h1, h2⟩ := hs
    obtain ⟨w, e1, e2⟩ := atI_rp h2 hd
    exact .inr ⟨_, _, _, w, rfl, rfl, SqT.of (R.ex _ _ h1), e1, q B H w (Go.refl ..) R e2⟩
  · rename_i ns
    cases y <;> first | cases hd | skip
    cases ry
    obtain ⟨a, rfl, h1⟩ : ∃ (a : Addr), v = .ref a ∧ SqL KK.K B a (ns.map V.int) := by cases rx; exact ⟨_, rfl, by assumption⟩
    rename_i k
    have hd' : (atI ns k).map D.int = some d := hd
    cases e : atI ns k with
    | none => rw [e] at hd'; cases hd'
    | some n =>
      rw [e] at hd'
      cases hd'
      exact .inl ⟨_, _, _, .int n, rfl, rfl, sqL_mono R.ex h1, by rw [atI_map, e]; rfl, q B H _ (Go.refl ..) R (.int n)⟩

/-! ### tuple + tuple, list + list -/
def dCatT : D → D → Option D
  | .tup xs, .tup ys => if decide (xs.length + ys.length ≤ 100000) then some (.tup (xs ++ ys)) else none
  | _, _ => none
theorem le_line {n : Nat} (h : n ≤ 100000) : n ≤ sizeLine := Nat.le_trans h (by decide)
theorem lt_line {n : Nat} (h : n ≤ 100000) : n < sizeLine := Nat.lt_of_le_of_lt h (by decide)
theorem opD_catT {K : PySem.W.Frag} : OpD (rCatA K) dCatT := by
  intro B H ρ σ v u x y d R rx ry hd Q q
  cases x <;> first | cases hd | skip
  rename_i xs
  cases y <;> first | cases hd | skip
  rename_i ys
  replace hd : (if decide (xs.length + ys.length ≤ 100000) then some (D.tup (xs ++ ys)) else none) = some d := hd
  by_cases c : decide (xs.length + ys.length ≤ 100000) = true
  · rw [if_pos c] at hd
    cases hd
    have c' := of_decide_eq_true c
    cases rx with
    | @tup a1 vs _ h1 s1 =>
      cases ry with
      | @tup a2 ws _ h2 s2 =>
        refine ⟨a1, a2, vs, ws, rfl, rfl, SqT.of (R.ex _ _ h1), SqT.of (R.ex _ _ h2), le_line (by rw [s1.length, s2.length]; exact c'), fun e => ?_, fun _ e => ?_, fun _ _ p hp => ?_⟩
        · subst e
          cases s1
          exact q B H _ (Go.refl ..) R (.tup h2 s2)
        · subst e
          cases s2
          exact q B H _ (Go.refl ..) R (.tup h1 (by rw [List.append_nil]; exact s1))
        · have n := Ex.new (o := HO.tup (vs ++ ws)) (R.ex.none hp)
          refine q _ _ _ (Go.new R.ex hp) (R.new hp) (.tup upd_same ((s1.mono n).append (s2.mono n)))
  · rw [if_neg c] at hd; cases hd
/-! (c,) * k for k of at least 2 -/

/-! ### one operand -/
def eUn (k : D → Option D) (f : FE) : FE := fun ρ => (f ρ).bind fun r => match k r.1 with
  | some d => .ok (d, r.2)
  | none => .st
def UnD (r : V → Hp → VK → Prop) (k : D → Option D) : Prop := ∀ (B H : Hp) (ρ : Env) (σ : L2.St) (v : V) (x d : D), Rep B H ρ σ → Rp B v x → k x = some d → ∀ Q : VK, AskV B H (Own ρ σ) σ Q (d, ρ) → r v H Q
theorem se_un {op : UnaryOp} {r : V → Hp → VK → Prop} {k : D → Option D} {pos : Pos} (ho : UnR X (unaryOp op) r) (hk : UnD r k) (ha : SE X W a f) : SE X W (.UnaryOp op a pos) (eUn k f) := by
  intro B H ρ σ R Q hw
  refine ⟨_, pe_un ho pe_any, ?_⟩
  unfold eUn at hw
  refine ha.then (A := fun B H o => AskV B H o σ Q) R hw (fun e q => q.ext e) fun B1 H1 ρ1 v x g1 R1 r1 hw1 => ?_
  dsimp only at hw1
  cases q : k x with
  | none => rw [q] at hw1; exact hw1.elim
  | some d =>
    rw [q] at hw1
    exact hk B1 H1 ρ1 σ v x d R1 r1 q Q hw1
def dNeg : D → Option D
  | .int i => some (.int (-i))
  | _ => none
theorem unD_neg : UnD (rU fun i => .int (-i)) dNeg := by
  intro B H ρ σ v x d R rx hd Q q
  cases x <;> first | cases hd | skip
  cases rx
  exact ⟨_, rfl, q B H _ (Go.refl ..) R (.int _)⟩

/-! ### and, or, not as values; a if t else b -/
def eAndV (f g : FE) : FE := fun ρ => (f ρ).bind fun r => match r.1 with
  | .bl true => g r.2
  | .bl false => .ok (.bl false, r.2)
  | _ => .st
def eOrV (f g : FE) : FE := fun ρ => (f ρ).bind fun r => match r.1 with
  | .bl true => .ok (.bl true, r.2)
  | .bl false => g r.2
  | _ => .st
def eNotV (f : FE) : FE := eUn (fun d => match d with | .bl b => some (.bl (!b)) | _ => none) f
theorem se_one {op : BoolOp} {pos : Pos} (ha : SE X W a f) : SE X W (.BoolOp op [a] pos) f := fun B H ρ σ R Q hw => by
  obtain ⟨t, p, q⟩ := ha B H ρ σ R Q hw
  exact ⟨t, pe_one p, q⟩
theorem se_and {rest : List Expr} {pos : Pos} (ha : SE X W a f) (hb : SE X W (.BoolOp .And (b :: rest) pos) g) : SE X W (.BoolOp .And (a :: b :: rest) pos) (eAndV f g) := by
  intro B H ρ σ R Q hw
  refine ⟨_, pe_and pe_any pe_any, ?_⟩
  unfold eAndV at hw
  refine ha.then (A := fun B H o => AskV B H o σ Q) R hw (fun e q => q.ext e) fun B1 H1 ρ1 v x g1 R1 r1 hw1 => ?_
  dsimp only at hw1
  cases r1 with
  | bl k =>
    refine ⟨k, rfl, ?_⟩
    cases k with
    | true => exact iteT (hb B1 H1 ρ1 σ R1 Q hw1)
    | false => exact iteF (hw1 B1 H1 _ (Go.refl ..) R1 (.bl _))
  | _ => exact hw1.elim
theorem se_or {rest : List Expr} {pos : Pos} (ha : SE X W a f) (hb : SE X W (.BoolOp .Or (b :: rest) pos) g) : SE X W (.BoolOp .Or (a :: b :: rest) pos) (eOrV f g) := by
  intro B H ρ σ R Q hw
  refine ⟨_, pe_or pe_any pe_any, ?_⟩
  unfold eOrV at hw
  refine ha.then (A := fun B H o => AskV B H o σ Q) R hw (fun e q => q.ext e) fun B1 H1 ρ1 v x g1 R1 r1 hw1 => ?_
  dsimp only at hw1
  cases r1 with
  | bl k =>
    refine ⟨k, rfl, ?_⟩
    cases k with
    | true => exact iteT (hw1 B1 H1 _ (Go.refl ..) R1 (.bl _))
    | false => exact iteF (hb B1 H1 ρ1 σ R1 Q hw1)
  | _ => exact hw1.elim
theorem se_not {pos : Pos} (ha : SE X W a f) : SE X W (.UnaryOp .Not a pos) (eNotV f) := by
  intro B H ρ σ R Q hw
  refine ⟨_, pe_not pe_any, ?_⟩
  unfold eNotV eUn at hw
  refine ha.then (A := fun B H o => AskV B H o σ Q) R hw (fun e q => q.ext e) fun B1 H1 ρ1 v x g1 R1 r1 hw1 => ?_
  cases r1 with
  | bl k => exact ⟨k, rfl, hw1 B1 H1 _ (Go.refl ..) R1 (.bl _)⟩
  | _ => exact hw1.elim

/-! ### tests -/
variable {t u : FT}
def tVal (f : FE) : FT := fun ρ => (f ρ).bind fun r => match r.1 with
  | .bl b => .ok (b, r.2)
  | _ => .st
theorem sb_val (ha : SE X W a f) (he : ∀ whole, isTrue a X.env whole = (do let v ← whole; standAt a.pos; holding [v] (truthy v)) := by intro _; rfl) : SB X W a (tVal f) := by
  intro B H ρ σ R Q hw
  refine ⟨_, pt_val pe_any he, ?_⟩
  unfold tVal at hw
  rw [wp_bind] at hw
  refine ha B H ρ σ R _ (hw.mono (fun r hr B1 H1 v g1 R1 r1 => ?_) fun _ _ z => z)
  obtain ⟨d, ρ1⟩ := r
  cases d <;> first | exact (show False from hr).elim | skip
  cases r1
  exact ⟨_, rfl, hr B1 H1 g1 R1⟩
/-- a comparison as a test -/
theorem sb_cmp {op : CmpOp} {r : R2} {k : D → D → Option D} {pos : Pos} (ho : OpR X (compareOp op) r) (hk : OpD r k) (ha : SE X W a f) (hb : SE X W b g) (hm : behindInMarks op b = false) : SB X W (.Compare a [op] [b] pos) (tVal (eBin k f g)) := by
  intro B H ρ σ R Q hw
  refine ⟨_, pt_cmpR ho pe_any pe_any hm, ?_⟩
  have key : tOp r (tAny X a) (tAny X b) σ H fun x H' => ∃ k, x = .bl k ∧ Q k H' := by
    unfold tVal at hw
    rw [wp_bind] at hw
    have hw' : (eBin k f g ρ).wp (AskV B H (Own ρ σ) σ fun x H' => ∃ k, x = .bl k ∧ Q k H') (AskE X W B H (Own ρ σ) σ) := hw.mono (fun r hr B1 H1 v g1 R1 r1 => by
      obtain ⟨d, ρ1⟩ := r
      cases d <;> first | exact (show False from hr).elim | skip
      cases r1
      exact ⟨_, rfl, hr B1 H1 g1 R1⟩) fun _ _ z => z
    unfold eBin at hw'
    refine ha.then (A := fun B H o => AskV B H o σ _) R hw' (fun e q => q.ext e) fun B1 H1 ρ1 v x g1 R1 r1 hw1 => ?_
    refine hb.then (A := fun B H o => AskV B H o σ _) R1 hw1 (fun e q => q.ext e) fun B2 H2 ρ2 u y g2 R2 r2 hw2 => ?_
    dsimp only at hw2
    cases q : k x y with
    | none => rw [q] at hw2; exact hw2.elim
    | some d =>
      rw [q] at hw2
      exact hk B2 H2 ρ2 σ v u x y d R2 (r1.mono g2.ex) r2 q _ hw2
  exact key
/-- a value's truth -/
def truD : D → Option Bool
  | .non => some false
  | .bl b => some b
  | .int i => some (i != 0)
  | .lst xs => some (!xs.isEmpty)
  | .tup xs => some (!xs.isEmpty)
  | .str s => if decide (s.length ≤ 100000) then some ((s.length : Int) != 0) else none
  | _ => none
def tTru (f : FE) : FT := fun ρ => (f ρ).bind fun r => match truD r.1 with
  | some b => .ok (b, r.2)
  | none => .st
theorem RpL.isEmpty {B : Hp} {vs : List V} {ds : List D} (r : RpL B vs ds) : vs.isEmpty = ds.isEmpty := by cases r <;> rfl
theorem sb_tru (ha : SE X W a f) (he : ∀ whole, isTrue a X.env whole = (do let v ← whole; standAt a.pos; holding [v] (truthy v)) := by intro _; rfl) : SB X W a (tTru f) := by
  intro B H ρ σ R Q hw
  refine ⟨_, pt_truth pe_any he, ?_⟩
  unfold tTru at hw
  rw [wp_bind] at hw
  refine ha B H ρ σ R _ (hw.mono (fun r hr B1 H1 v g1 R1 r1 => ?_) fun _ _ z => z)
  obtain ⟨d, ρ1⟩ := r
  dsimp only at hr r1 R1
  cases e : truD d with
  | none => rw [e] at hr; exact hr.elim
  | some k =>
    rw [e] at hr
    refine ⟨k, ?_, hr B1 H1 g1 R1⟩
    cases r1 with
    | non => cases e; rfl
    | bl b => cases e; rfl
    | int i => cases e; rfl
    | str s =>
      replace e : (if decide (s.length ≤ 100000) then some ((s.length : Int) != 0) else none) = some k := e
      by_cases c : decide (s.length ≤ 100000) = true
      · rw [if_pos c] at e
        cases e
        exact ⟨le_line (of_decide_eq_true c), rfl⟩
      · rw [if_neg c] at e; cases e
    | lst h hs =>
      cases e
      exact .inl ⟨_, SqL.of (R1.ex _ _ h), by rw [hs.isEmpty]⟩
    | tup h hs =>
      cases e
      exact .inr (.inl ⟨_, SqT.of (R1.ex _ _ h), by rw [hs.isEmpty]⟩)
    | scr h => cases e
    | ty n => cases e
def tAnd2 (t u : FT) : FT := fun ρ => (t ρ).bind fun r => if r.1 = true then u r.2 else .ok (false, r.2)
def tOr2 (t u : FT) : FT := fun ρ => (t ρ).bind fun r => if r.1 = true then .ok (true, r.2) else u r.2
def tNot2 (t : FT) : FT := fun ρ => (t ρ).bind fun r => .ok (!r.1, r.2)
theorem sb_w (h : SW X W e t) : SB X W e t := fun B H ρ σ R Q hw => by
  obtain ⟨r, p, q⟩ := h B H ρ σ R Q hw
  exact ⟨r, p.pt, q⟩
theorem sw_and1 {pos : Pos} (ha : SB X W a t) : SW X W (.BoolOp .And [a] pos) t := fun B H ρ σ R Q hw => by
  obtain ⟨r, p, q⟩ := ha B H ρ σ R Q hw
  exact ⟨r, pw_and1 p, q⟩
theorem sw_or1 {pos : Pos} (ha : SB X W a t) : SW X W (.BoolOp .Or [a] pos) t := fun B H ρ σ R Q hw => by
  obtain ⟨r, p, q⟩ := ha B H ρ σ R Q hw
  exact ⟨r, pw_or1 p, q⟩
theorem sw_and {rest : List Expr} {pos : Pos} (ha : SB X W a t) (hb : SW X W (.BoolOp .And (b :: rest) pos) u) : SW X W (.BoolOp .And (a :: b :: rest) pos) (tAnd2 t u) := by
  intro B H ρ σ R Q hw
  refine ⟨_, pw_and pt_any pw_any, ?_⟩
  unfold tAnd2 at hw
  refine ha.then (A := fun B H o => AskT B H o σ Q) R hw (fun e q => q.ext e) fun B1 H1 ρ1 k g1 R1 hw1 => ?_
  cases k with
  | true => exact iteT (hb B1 H1 ρ1 σ R1 Q hw1)
  | false => exact iteF (hw1 B1 H1 (Go.refl ..) R1)
theorem sw_or {rest : List Expr} {pos : Pos} (ha : SB X W a t) (hb : SW X W (.BoolOp .Or (b :: rest) pos) u) : SW X W (.BoolOp .Or (a :: b :: rest) pos) (tOr2 t u) := by
  intro B H ρ σ R Q hw
  refine ⟨_, pw_or pt_any pw_any, ?_⟩
  unfold tOr2 at hw
  refine ha.then (A := fun B H o => AskT B H o σ Q) R hw (fun e q => q.ext e) fun B1 H1 ρ1 k g1 R1 hw1 => ?_
  cases k with
  | true => exact iteT (hw1 B1 H1 (Go.refl ..) R1)
  | false => exact iteF (hb B1 H1 ρ1 σ R1 Q hw1)
theorem sb_not {pos : Pos} (ha : SB X W a t) : SB X W (.UnaryOp .Not a pos) (tNot2 t) := by
  intro B H ρ σ R Q hw
  refine ⟨_, pt_not pt_any, ?_⟩
  unfold tNot2 at hw
  rw [wp_bind] at hw
  exact ha B H ρ σ R _ (hw.mono (fun r hr => hr) fun _ _ z => z)
def eIf (t : FT) (f g : FE) : FE := fun ρ => (t ρ).bind fun r => if r.1 = true then f r.2 else g r.2
theorem se_if {pos : Pos} (hc : SB X W c t) (ha : SE X W a f) (hb : SE X W b g) : SE X W (.IfExp c a b pos) (eIf t f g) := by
  intro B H ρ σ R Q hw
  refine ⟨_, pe_ifExp pt_any pe_any pe_any, ?_⟩
  unfold eIf at hw
  rw [wp_bind] at hw
  refine hc B H ρ σ R _ (hw.mono (fun r hr B1 H1 g1 R1 => ?_) fun _ _ z => z)
  obtain ⟨k, ρ1⟩ := r
  dsimp only at hr R1 g1 ⊢
  cases k with
  | true => exact iteT (ha B1 H1 ρ1 σ R1 Q (hr.mono (fun _ q => q.ext g1) fun _ _ q => q.ext g1))
  | false => exact iteF (hb B1 H1 ρ1 σ R1 Q (hr.mono (fun _ q => q.ext g1) fun _ _ q => q.ext g1))

/-! ### argument lists, displays -/
variable {es : List Expr} {fa : FA}
def aNil : FA := fun ρ => .ok ([], ρ)
def aCons (f : FE) (g : FA) : FA := fun ρ => (f ρ).bind fun r => (g r.2).bind fun s => .ok (r.1 :: s.1, s.2)
theorem sa_nil : SA X W [] aNil := fun B H ρ σ R Q hw => ⟨_, pa_nil, hw B H [] (Go.refl ..) R .nil⟩
theorem sa_cons (ha : SE X W a f) (hr : SA X W es fa) (hs : starEach (a :: es) X.env = (false, eval a X.env) :: starEach es X.env := by rfl) : SA X W (a :: es) (aCons f fa) := by
  intro B H ρ σ R Q hw
  refine ⟨_, pa_cons pe_any pa_any hs, ?_⟩
  unfold aCons at hw
  refine ha.then (A := fun B H o => AskA B H o σ Q) R hw (fun e q => q.ext e) fun B1 H1 ρ1 v x g1 R1 r1 hw1 => ?_
  refine hr.then (A := fun B H o => AskA B H o σ Q) R1 hw1 (fun e q => q.ext e) fun B2 H2 ρ2 vs ds g2 R2 r2 hw2 => ?_
  exact hw2 B2 H2 _ (Go.refl ..) R2 (.cons (r1.mono g2.ex) r2)
def eTup (g : FA) : FE := fun ρ => (g ρ).bind fun s => if decide (s.1.length ≤ 100000) then .ok (.tup s.1, s.2) else .st
def fLst (g : FA) : FF := fun ρ => (g ρ).bind fun s => if decide (s.1.length ≤ 100000) then .ok (s.1, s.2) else .st
theorem se_tup {n : Nat} {pos : Pos} (h : SA X W es fa) : SE X W (.Tuple es n pos) (eTup fa) := by
  intro B H ρ σ R Q hw
  refine ⟨_, pe_tup pa_any, ?_⟩
  unfold eTup at hw
  rw [wp_bind] at hw
  refine h B H ρ σ R _ (hw.mono (fun r hr B1 H1 vs g1 R1 r1 => ?_) fun _ _ z => z)
  by_cases c : decide (r.1.length ≤ 100000) = true
  · rw [if_pos c] at hr
    refine ⟨le_line (by rw [r1.length]; exact of_decide_eq_true c), fun p hp => ?_⟩
    exact hr _ _ _ (g1.trans (Go.new R1.ex hp)) (R1.new hp) (.tup upd_same (r1.mono (Ex.new (R1.ex.none hp))))
  · rw [if_neg c] at hr; exact hr.elim
theorem sf_lst {pos : Pos} (h : SA X W es fa) : SF X W (.List es pos) (fLst fa) := by
  intro B H ρ σ R Q hw
  refine ⟨_, pe_lst pa_any, ?_⟩
  unfold fLst at hw
  rw [wp_bind] at hw
  refine h B H ρ σ R _ (hw.mono (fun r hr B1 H1 vs g1 R1 r1 => ?_) fun _ _ z => z)
  by_cases c : decide (r.1.length ≤ 100000) = true
  · rw [if_pos c] at hr
    refine ⟨le_line (by rw [r1.length]; exact of_decide_eq_true c), fun p hp => ?_⟩
    exact hr _ _ p _ (g1.trans (Go.newH hp)) (R1.newH hp) (R1.ex.none hp) upd_same r1 (R1.not_own hp) (.inr (g1.th p hp))
  · rw [if_neg c] at hr; exact hr.elim
end
end KV
set_option Elab.async false
set_option linter.all false
set_option autoImplicit false
set_option maxRecDepth 100000
set_option maxHeartbeats 2000000
namespace KV
open PySem PySem.Spec PyProof.Rows L2
variable [KK]

/-! ### slots stored -/
def Kp (kp : Nat → Bool) (σ σ' : L2.St) : Prop := ∀ i, kp i = true → σ'[i]? = σ[i]?
theorem Kp.refl {kp : Nat → Bool} (σ : L2.St) : Kp kp σ σ := fun _ _ => rfl
theorem Kp.trans {kp : Nat → Bool} {σ σ1 σ2 : L2.St} (a : Kp kp σ σ1) (b : Kp kp σ1 σ2) : Kp kp σ σ2 := fun i h => (b i h).trans (a i h)
theorem Kp.set {kp : Nat → Bool} {σ : L2.St} {i : Nat} {o : Option V} (h : kp i = false) : Kp kp σ (σ.set i o) := fun j hj => by
  have hne : i ≠ j := fun e => by rw [e, hj] at h; cases h
  rw [List.getElem?_set_ne hne]
section
variable {B H : Hp} {ρ : Env} {σ : L2.St} {i : Nat}
theorem get_set {α : Type} {l : List α} {i j : Nat} {a b : α} (h : (l.set i a)[j]? = some b) : (i = j ∧ j < l.length ∧ a = b) ∨ (i ≠ j ∧ l[j]? = some b) := by
  rw [List.getElem?_set] at h
  by_cases e : i = j
  · rw [if_pos e] at h
    by_cases z : i < l.length
    · rw [if_pos z] at h
      cases h
      exact .inl ⟨e, by omega, rfl⟩
    · rw [if_neg z] at h; cases h
  · rw [if_neg e] at h
    exact .inr ⟨e, h⟩
theorem getD_set_ne {σ : L2.St} {i j : Nat} {o : Option V} (h : i ≠ j) : ((σ.set i o)[j]?).getD none = (σ[j]?).getD none := by rw [List.getElem?_set_ne h]
theorem getD_set_eq {σ : L2.St} {i : Nat} {o : Option V} (h : i < σ.length) : ((σ.set i o)[i]?).getD none = o := by rw [List.getElem?_set_self h]; rfl
theorem Own.set_sh {d : D} {o : Option V} {a : Addr} (h : Own (ρ.set i (.sh d)) (σ.set i o) a) : Own ρ σ a := by
  obtain ⟨j, ds, h1, h2⟩ := h
  rcases get_set h1 with ⟨_, _, e⟩ | ⟨hne, e⟩
  · cases e
  · rw [getD_set_ne hne] at h2
    exact ⟨j, ds, e, h2⟩
theorem Own.set_un {o : Option V} {a : Addr} (h : Own (ρ.set i .un) (σ.set i o) a) : Own ρ σ a := by
  obtain ⟨j, ds, h1, h2⟩ := h
  rcases get_set h1 with ⟨_, _, e⟩ | ⟨hne, e⟩
  · cases e
  · rw [getD_set_ne hne] at h2
    exact ⟨j, ds, e, h2⟩
theorem Own.un {a : Addr} (h : Own (ρ.set i .un) σ a) : Own ρ σ a := by
  obtain ⟨j, ds, h1, h2⟩ := h
  rcases get_set h1 with ⟨_, _, e⟩ | ⟨hne, e⟩
  · cases e
  · exact ⟨j, ds, e, h2⟩
theorem Rep.setSh {v : V} {d : D} (R : Rep B H ρ σ) (r : Rp B v d) : Rep B H (ρ.set i (.sh d)) (σ.set i (some v)) := by
  refine ⟨R.ex, by rw [List.length_set, List.length_set]; exact R.len, fun j s h => ?_, fun j k ds es hjk hj hk => ?_⟩
  · rcases get_set h with ⟨e, hl, z⟩ | ⟨hne, e⟩
    · subst e
      subst z
      rw [getD_set_eq (by rw [← R.len]; exact hl)]
      exact ⟨v, rfl, r⟩
    · rw [getD_set_ne hne]
      exact R.at_ j s e
  · rcases get_set hj with ⟨_, _, z⟩ | ⟨n1, e1⟩
    · cases z
    · rcases get_set hk with ⟨_, _, z⟩ | ⟨n2, e2⟩
      · cases z
      · rw [getD_set_ne n1, getD_set_ne n2]
        exact R.apart j k ds es hjk e1 e2
theorem Rep.setUn {o : Option V} (R : Rep B H ρ σ) : Rep B H (ρ.set i .un) (σ.set i o) := by
  refine ⟨R.ex, by rw [List.length_set, List.length_set]; exact R.len, fun j s h => ?_, fun j k ds es hjk hj hk => ?_⟩
  · rcases get_set h with ⟨_, _, z⟩ | ⟨hne, e⟩
    · subst z
      trivial
    · rw [getD_set_ne hne]
      exact R.at_ j s e
  · rcases get_set hj with ⟨_, _, z⟩ | ⟨n1, e1⟩
    · cases z
    · rcases get_set hk with ⟨_, _, z⟩ | ⟨n2, e2⟩
      · cases z
      · rw [getD_set_ne n1, getD_set_ne n2]
        exact R.apart j k ds es hjk e1 e2
theorem Rep.un (R : Rep B H ρ σ) : Rep B H (ρ.set i .un) σ := by
  refine ⟨R.ex, by rw [List.length_set]; exact R.len, fun j s h => ?_, fun j k ds es hjk hj hk => ?_⟩
  · rcases get_set h with ⟨_, _, z⟩ | ⟨hne, e⟩
    · subst z
      trivial
    · exact R.at_ j s e
  · rcases get_set hj with ⟨_, _, z⟩ | ⟨n1, e1⟩
    · cases z
    · rcases get_set hk with ⟨_, _, z⟩ | ⟨n2, e2⟩
      · cases z
      · exact R.apart j k ds es hjk e1 e2
theorem Rep.setOw {p : Addr} {xs : List V} {ds : List D} (R : Rep B H ρ σ) (hn : B p = none) (hp : H p = some (.lst xs)) (r : RpL B xs ds) (ho : ¬ Own ρ σ p) : Rep B H (ρ.set i (.ow ds)) (σ.set i (some (.ref p))) := by
  refine ⟨R.ex, by rw [List.length_set, List.length_set]; exact R.len, fun j s h => ?_, fun j k es fs hjk hj hk => ?_⟩
  · rcases get_set h with ⟨e, hl, z⟩ | ⟨hne, e⟩
    · subst e
      subst z
      rw [getD_set_eq (by rw [← R.len]; exact hl)]
      exact ⟨p, xs, rfl, hn, hp, r⟩
    · rw [getD_set_ne hne]
      exact R.at_ j s e
  · rcases get_set hj with ⟨z1, l1, _⟩ | ⟨n1, e1⟩
    · rcases get_set hk with ⟨z2, _, _⟩ | ⟨n2, e2⟩
      · exact absurd (z1.symm.trans z2) hjk
      · subst z1
        rw [getD_set_ne n2, getD_set_eq (by rw [← R.len]; exact l1)]
        exact fun e => ho ⟨k, fs, e2, e.symm⟩
    · rcases get_set hk with ⟨z2, l2, _⟩ | ⟨n2, e2⟩
      · subst z2
        rw [getD_set_ne n1, getD_set_eq (by rw [← R.len]; exact l2)]
        exact fun e => ho ⟨j, es, e1, e⟩
      · rw [getD_set_ne n1, getD_set_ne n2]
        exact R.apart j k es fs hjk e1 e2
theorem Own.set_ow {p : Addr} {ds : List D} {a : Addr} (hi : i < σ.length) (h : Own (ρ.set i (.ow ds)) (σ.set i (some (.ref p))) a) : Own ρ σ a ∨ a = p := by
  obtain ⟨j, es, h1, h2⟩ := h
  rcases get_set h1 with ⟨e, hl, z⟩ | ⟨hne, e⟩
  · subst e
    rw [getD_set_eq hi] at h2
    cases h2
    exact .inr rfl
  · rw [getD_set_ne hne] at h2
    exact .inl ⟨j, es, e, h2⟩
/-- a list of one's own changed -/
theorem Rep.mutOw {ds es : List D} (R : Rep B H ρ σ) (h : ρ[i]? = some (Sl.ow ds)) : ∃ p xs, σ[i]? = some (some (V.ref p)) ∧ H p = some (.lst xs) ∧ RpL B xs ds ∧ B p = none ∧
    ∀ ys, RpL B ys es → Rep B (upd H p (.lst ys)) (ρ.set i (.ow es)) σ ∧ Go B H (Own ρ σ) B (upd H p (.lst ys)) (Own (ρ.set i (.ow es)) σ) := by
  obtain ⟨p, xs, e, n, hp, r⟩ := R.at_ i _ h
  have own : Own ρ σ p := ⟨i, ds, h, e⟩
  have hown : ∀ a, Own (ρ.set i (.ow es)) σ a → Own ρ σ a := fun a ⟨j, fs, h1, h2⟩ => by
    rcases get_set h1 with ⟨z, _, _⟩ | ⟨hne, z⟩
    · subst z
      exact ⟨i, ds, h, h2⟩
    · exact ⟨j, fs, z, h2⟩
  refine ⟨p, xs, getD_some e, hp, r, n, fun ys ry => ⟨⟨R.ex.mut n, by rw [List.length_set]; exact R.len, fun j s hj => ?_, fun j k fs gs hjk hj hk => ?_⟩, ⟨Ex.refl B, fun a u q z => ?_, fun _ _ _ hb _ => hb, fun a z => .inl (hown a z), fun a q => ?_⟩⟩⟩
  · rcases get_set hj with ⟨z, _, y⟩ | ⟨hne, z⟩
    · subst z
      subst y
      exact ⟨p, ys, e, n, upd_same, ry⟩
    · have q := R.at_ j s z
      cases s with
      | un => trivial
      | sh d => exact q
      | ow fs =>
        obtain ⟨a, zs, e2, n2, h2, r2⟩ := q
        have ha : a ≠ p := fun y => R.apart i j ds fs hne h z (by rw [e, e2, y])
        exact ⟨a, zs, e2, n2, by rw [upd_ne ha]; exact h2, r2⟩
  · rcases get_set hj with ⟨z1, _, _⟩ | ⟨n1, e1⟩
    · rcases get_set hk with ⟨z2, _, _⟩ | ⟨n2, e2⟩
      · exact absurd (z1.symm.trans z2) hjk
      · subst z1
        exact R.apart i k ds gs hjk h e2
    · rcases get_set hk with ⟨z2, _, _⟩ | ⟨n2, e2⟩
      · subst z2
        exact R.apart j i fs ds hjk e1 h
      · exact R.apart j k fs gs hjk e1 e2
  · have hne : a ≠ p := fun y => z (by rw [y]; exact own)
    rw [upd_ne hne]
    exact q
  · by_cases hne : a = p
    · subst hne
      rw [upd_same] at q
      cases q
    · rw [upd_ne hne] at q
      exact q
end

/-! ### flows -/
inductive Fl where
  | nx (ρ : Env) | rt (r : Sl) (ρ : Env) | bk (ρ : Env) | ct (ρ : Env)
abbrev FS := Env → Out Fl
def RetR (o : Addr → Prop) (H B' H' : Hp) (ρ' : Env) (σ' : L2.St) (v : V) : Sl → Prop
  | .sh d => Rp B' v d
  | .ow ds => ∃ p xs, v = .ref p ∧ B' p = none ∧ H' p = some (.lst xs) ∧ RpL B' xs ds ∧ ¬ Own ρ' σ' p ∧ (o p ∨ H p = none)
  | .un => False
def AskS (kp : Nat → Bool) (B H : Hp) (o : Addr → Prop) (σ : L2.St) (D : Ends) : Fl → Prop
  | .nx ρ' => ∀ B' H' σ', Kp kp σ σ' → Go B H o B' H' (Own ρ' σ') → Rep B' H' ρ' σ' → D.nx σ' H'
  | .bk ρ' => ∀ B' H' σ', Kp kp σ σ' → Go B H o B' H' (Own ρ' σ') → Rep B' H' ρ' σ' → D.bk σ' H'
  | .ct ρ' => ∀ B' H' σ', Kp kp σ σ' → Go B H o B' H' (Own ρ' σ') → Rep B' H' ρ' σ' → D.ct σ' H'
  | .rt r ρ' => ∀ B' H' σ' v, Kp kp σ σ' → Go B H o B' H' (Own ρ' σ') → Rep B' H' ρ' σ' → RetR o H B' H' ρ' σ' v r → D.rt v H'
def AskES (kp : Nat → Bool) (X : Cx) (W : WX) (B H : Hp) (o : Addr → Prop) (σ : L2.St) (e : Er) (ρ' : Env) : Prop :=
  ∀ B' H' σ' cls dd, Kp kp σ σ' → Go B H o B' H' (Own ρ' σ') → Rep B' H' ρ' σ' → ErR X.mg e cls dd B' H' → W cls dd σ' H'
def SS (kp : Nat → Bool) (X : Cx) (W : WX) (st : Stmt) (f : FS) : Prop :=
  ∀ B H ρ σ, Rep B H ρ σ → ∀ D : Ends, (f ρ).wp (AskS kp B H (Own ρ σ) σ D) (AskES kp X W B H (Own ρ σ) σ) → tAnyS X st D σ H
def SSs (kp : Nat → Bool) (X : Cx) (W : WX) (st : List Stmt) (f : FS) : Prop :=
  ∀ B H ρ σ, Rep B H ρ σ → ∀ D : Ends, (f ρ).wp (AskS kp B H (Own ρ σ) σ D) (AskES kp X W B H (Own ρ σ) σ) → tAnySs X st D σ H
section
variable {kp : Nat → Bool} {X : Cx} {W : WX} {B H B' H' : Hp} {o o' : Addr → Prop} {σ σ' : L2.St} {ρ : Env}
theorem RetR.back {ρ' : Env} {σ2 : L2.St} {B2 H2 : Hp} {v : V} {r : Sl} (g : Go B H o B' H' o') (h : RetR o' H' B2 H2 ρ' σ2 v r) : RetR o H B2 H2 ρ' σ2 v r := by
  cases r with
  | un => exact h
  | sh d => exact h
  | ow ds =>
    obtain ⟨p, xs, h1, h2, h3, h4, h5, h6⟩ := h
    exact ⟨p, xs, h1, h2, h3, h4, h5, g.back h6⟩
theorem AskS.ext {D : Ends} {fl : Fl} (k : Kp kp σ σ') (g : Go B H o B' H' o') (h : AskS kp B H o σ D fl) : AskS kp B' H' o' σ' D fl := by
  cases fl with
  | nx ρ' => exact fun B2 H2 σ2 k2 g2 R2 => h B2 H2 σ2 (k.trans k2) (g.trans g2) R2
  | bk ρ' => exact fun B2 H2 σ2 k2 g2 R2 => h B2 H2 σ2 (k.trans k2) (g.trans g2) R2
  | ct ρ' => exact fun B2 H2 σ2 k2 g2 R2 => h B2 H2 σ2 (k.trans k2) (g.trans g2) R2
  | rt r ρ' => exact fun B2 H2 σ2 v k2 g2 R2 r2 => h B2 H2 σ2 v (k.trans k2) (g.trans g2) R2 (r2.back g)
theorem AskES.ext {e : Er} {ρ' : Env} (k : Kp kp σ σ') (g : Go B H o B' H' o') (h : AskES kp X W B H o σ e ρ') : AskES kp X W B' H' o' σ' e ρ' := fun B2 H2 σ2 c d k2 g2 R2 r2 => h B2 H2 σ2 c d (k.trans k2) (g.trans g2) R2 r2
theorem AskES.toE {e : Er} {ρ' : Env} (h : AskES kp X W B H o σ e ρ') : AskE X W B H o σ e ρ' := fun B2 H2 c d g2 R2 r2 => h B2 H2 σ c d (Kp.refl σ) g2 R2 r2

/-- an expression first, then what a statement does with it -/
theorem SE.thenS {e : Expr} {f : FE} {k : D × Env → Out Fl} {D : Ends} (h : SE X W e f) (R : Rep B H ρ σ) {Q : VK} (hw : ((f ρ).bind k).wp (AskS kp B H (Own ρ σ) σ D) (AskES kp X W B H (Own ρ σ) σ))
    (hk : ∀ B1 H1 ρ1 v d, Go B H (Own ρ σ) B1 H1 (Own ρ1 σ) → Rep B1 H1 ρ1 σ → Rp B1 v d → (k (d, ρ1)).wp (AskS kp B1 H1 (Own ρ1 σ) σ D) (AskES kp X W B1 H1 (Own ρ1 σ) σ) → Q v H1) : tAny X e σ H Q := by
  rw [wp_bind] at hw
  refine h B H ρ σ R Q (hw.mono (fun a ha B1 H1 v e1 R1 r1 => ?_) fun _ _ z => z.toE)
  exact hk B1 H1 a.2 v a.1 e1 R1 r1 (ha.mono (fun _ q => q.ext (Kp.refl σ) e1) fun _ _ q => q.ext (Kp.refl σ) e1)
theorem SB.thenS {e : Expr} {f : FT} {k : Bool × Env → Out Fl} {D : Ends} (h : SB X W e f) (R : Rep B H ρ σ) {Q : Bool → Hp → Prop} (hw : ((f ρ).bind k).wp (AskS kp B H (Own ρ σ) σ D) (AskES kp X W B H (Own ρ σ) σ))
    (hk : ∀ B1 H1 ρ1 b, Go B H (Own ρ σ) B1 H1 (Own ρ1 σ) → Rep B1 H1 ρ1 σ → (k (b, ρ1)).wp (AskS kp B1 H1 (Own ρ1 σ) σ D) (AskES kp X W B1 H1 (Own ρ1 σ) σ) → Q b H1) : tAnyT X e σ H Q := by
  rw [wp_bind] at hw
  refine h B H ρ σ R Q (hw.mono (fun a ha B1 H1 e1 R1 => ?_) fun _ _ z => z.toE)
  exact hk B1 H1 a.2 a.1 e1 R1 (ha.mono (fun _ q => q.ext (Kp.refl σ) e1) fun _ _ q => q.ext (Kp.refl σ) e1)
theorem SF.thenS {e : Expr} {f : FF} {k : List D × Env → Out Fl} {D : Ends} (h : SF X W e f) (R : Rep B H ρ σ) {Q : VK} (hw : ((f ρ).bind k).wp (AskS kp B H (Own ρ σ) σ D) (AskES kp X W B H (Own ρ σ) σ))
    (hk : ∀ B1 H1 ρ1 p xs ds, Go B H (Own ρ σ) B1 H1 (Own ρ1 σ) → Rep B1 H1 ρ1 σ → B1 p = none → H1 p = some (.lst xs) → RpL B1 xs ds → ¬ Own ρ1 σ p → (Own ρ σ p ∨ H p = none) → (k (ds, ρ1)).wp (AskS kp B H (Own ρ σ) σ D) (AskES kp X W B H (Own ρ σ) σ) → Q (.ref p) H1) : tAny X e σ H Q := by
  rw [wp_bind] at hw
  refine h B H ρ σ R Q (hw.mono (fun a ha B1 H1 p xs e1 R1 n1 h1 r1 o1 hp => ?_) fun _ _ z => z.toE)
  exact hk B1 H1 a.2 p xs a.1 e1 R1 n1 h1 r1 o1 hp ha
end

section
variable {kp : Nat → Bool} {X : Cx} {W : WX} {e a b c : Expr} {f g : FE} {t : FT} {p q : FS} {st : Stmt} {ss tt : List Stmt}
/-! ### blocks, if -/
def sNil : FS := fun ρ => .ok (.nx ρ)
def sSeq (f g : FS) : FS := fun ρ => (f ρ).bind fun fl => match fl with
  | .nx ρ1 => g ρ1
  | x => .ok x
theorem ss_nil : SSs kp X W [] sNil := fun B H ρ σ R D hw => ⟨_, pss_nil, hw B H σ (Kp.refl σ) (Go.refl ..) R⟩
theorem ss_cons (h1 : SS kp X W st p) (h2 : SSs kp X W ss q) : SSs kp X W (st :: ss) (sSeq p q) := by
  intro B H ρ σ R D hw
  refine ⟨_, pss_cons ps_any pss_any, ?_⟩
  unfold sSeq at hw
  rw [wp_bind] at hw
  refine h1 B H ρ σ R { D with nx := tAnySs X ss D } (hw.mono (fun fl hf => ?_) fun _ _ z => z)
  cases fl with
  | nx ρ1 => exact fun B1 H1 σ1 k1 g1 R1 => h2 B1 H1 ρ1 σ1 R1 D (hf.mono (fun _ q => q.ext k1 g1) fun _ _ q => q.ext k1 g1)
  | bk ρ1 => exact hf
  | ct ρ1 => exact hf
  | rt r ρ1 => exact hf
theorem ss_one (h1 : SS kp X W st p) : SSs kp X W [st] (sSeq p sNil) := ss_cons h1 ss_nil
def sIf (t : FT) (p q : FS) : FS := fun ρ => (t ρ).bind fun r => if r.1 = true then p r.2 else q r.2
theorem ss_if {pos : Pos} (hc : SB X W c t) (h1 : SSs kp X W ss p) (h2 : SSs kp X W tt q) : SS kp X W (.If c ss tt pos) (sIf t p q) := by
  intro B H ρ σ R D hw
  refine ⟨_, ps_if pt_any pss_any pss_any, ?_⟩
  unfold sIf at hw
  refine hc.thenS R hw fun B1 H1 ρ1 k g1 R1 hw1 => ?_
  cases k with
  | true => exact iteT (h1 B1 H1 ρ1 σ R1 D hw1)
  | false => exact iteF (h2 B1 H1 ρ1 σ R1 D hw1)

/-! ### stores -/
def sSet (i : Nat) (f : FE) : FS := fun ρ => (f ρ).bind fun r => .ok (.nx (r.2.set i (.sh r.1)))
def sSetF (i : Nat) (f : FF) : FS := fun ρ => (f ρ).bind fun r => if i < r.2.length then .ok (.nx (r.2.set i (.ow r.1))) else .st
/-- hp: the statement's rule, its expression's reading any -/
theorem ss_set {i : Nat} (hps : ∀ te, PE X e te → PS X st (tAsg te (gName i))) (h : SE X W e f) (hk : kp i = false) : SS kp X W st (sSet i f) := by
  intro B H ρ σ R D hw
  refine ⟨_, hps _ pe_any, ?_⟩
  unfold sSet at hw
  refine h.thenS R hw fun B1 H1 ρ1 v d g1 R1 r1 hw1 => ?_
  exact hw1 B1 H1 _ (Kp.set hk) ⟨Ex.refl B1, fun _ _ h _ => h, fun _ _ _ h _ => h, fun _ z => .inl z.set_sh, fun _ h => h⟩ (R1.setSh r1)
theorem ss_setF' {i : Nat} {fF : FF} {te : TE} (hps : PS X st (tAsg te (gName i))) (h : ∀ B H ρ σ, Rep B H ρ σ → ∀ Q : VK, (fF ρ).wp (AskF B H (Own ρ σ) σ Q) (AskE X W B H (Own ρ σ) σ) → te σ H Q) (hk : kp i = false) : SS kp X W st (sSetF i fF) := by
  intro B H ρ σ R D hw
  refine ⟨_, hps, ?_⟩
  unfold sSetF at hw
  rw [wp_bind] at hw
  refine h B H ρ σ R _ (hw.mono (fun r hr B1 H1 p xs g1 R1 n1 h1 r1 o1 hp => ?_) fun _ _ z => z.toE)
  by_cases z : i < r.2.length
  · rw [if_pos z] at hr
    refine hr B1 H1 _ (Kp.set hk) ⟨g1.ex, g1.fr, g1.nb, fun a w => ?_, g1.th⟩ (R1.setOw n1 h1 r1 o1)
    rcases Own.set_ow (by rw [← R1.len]; exact z) w with w | w
    · exact g1.ow a w
    · rw [w]
      exact hp
  · rw [if_neg z] at hr; exact hr.elim
theorem ss_setF {i : Nat} {fF : FF} (hps : ∀ te, PE X e te → PS X st (tAsg te (gName i))) (h : SF X W e fF) (hk : kp i = false) : SS kp X W st (sSetF i fF) := ss_setF' (hps _ pe_any) h hk
/-- x += e of ints -/
def sAug (i : Nat) (k : Int → Int → Int) (f : FE) : FS := fun ρ => match ρ[i]? with
  | some (.sh (.int x)) => (f ρ).bind fun r => match r.1 with
    | .int y => .ok (.nx (r.2.set i (.sh (.int (k x y)))))
    | _ => .st
  | _ => .st
theorem ss_aug {i : Nat} {k : Int → Int → Int} (hps : ∀ te, PE X e te → PS X st (tAug i te (ipI k))) (h : SE X W e f) (hk : kp i = false) : SS kp X W st (sAug i k f) := by
  intro B H ρ σ R D hw
  refine ⟨_, hps _ pe_any, ?_⟩
  unfold sAug at hw
  cases q : ρ[i]? with
  | none => rw [q] at hw; exact hw.elim
  | some s =>
    rw [q] at hw
    cases s with
    | un => exact hw.elim
    | ow ds => exact hw.elim
    | sh d =>
      cases d <;> first | exact (show False from hw).elim | skip
      rename_i x
      obtain ⟨v, e1, r⟩ := R.at_ i _ q
      cases r
      refine ⟨_, getD_some e1, ?_⟩
      refine h.thenS R hw fun B1 H1 ρ1 v d g1 R1 r1 hw1 => ?_
      cases r1 <;> first | exact (show False from hw1).elim | skip
      exact ⟨_, _, rfl, rfl, hw1 B1 H1 _ (Kp.set hk) ⟨Ex.refl B1, fun _ _ h _ => h, fun _ _ _ h _ => h, fun _ z => .inl z.set_sh, fun _ h => h⟩ (R1.setSh (.int _))⟩

/-! ### return -/
def sRet (f : FE) : FS := fun ρ => (f ρ).bind fun r => .ok (.rt (.sh r.1) r.2)
theorem ss_ret {pos : Pos} (h : SE X W e f) : SS kp X W (.Return (some e) pos) (sRet f) := by
  intro B H ρ σ R D hw
  refine ⟨_, ps_ret pe_any, ?_⟩
  unfold sRet at hw
  refine h.thenS R hw fun B1 H1 ρ1 v d g1 R1 r1 hw1 => ?_
  exact hw1 B1 H1 σ v (Kp.refl σ) (Go.refl ..) R1 r1
def sRetF (f : FF) : FS := fun ρ => (f ρ).bind fun r => .ok (.rt (.ow r.1) r.2)
theorem ss_retF {pos : Pos} {fF : FF} (h : SF X W e fF) : SS kp X W (.Return (some e) pos) (sRetF fF) := by
  intro B H ρ σ R D hw
  refine ⟨_, ps_ret pe_any, ?_⟩
  unfold sRetF at hw
  refine h.thenS R hw fun B1 H1 ρ1 p xs ds g1 R1 n1 h1 r1 o1 hp hw1 => ?_
  exact hw1 B1 H1 σ _ (Kp.refl σ) g1 R1 ⟨p, xs, rfl, n1, h1, r1, o1, hp⟩
/-- a name that may hold a list of one's own -/
def sRetVar (i : Nat) : FS := fun ρ => match ρ[i]? with
  | some (.sh d) => .ok (.rt (.sh d) ρ)
  | some (.ow ds) => .ok (.rt (.ow ds) (ρ.set i .un))
  | _ => .st
theorem ss_retVar {i : Nat} {pos : Pos} (h : PE X e (tVar i)) : SS kp X W (.Return (some e) pos) (sRetVar i) := by
  intro B H ρ σ R D hw
  refine ⟨_, ps_ret h, ?_⟩
  unfold sRetVar at hw
  cases q : ρ[i]? with
  | none => rw [q] at hw; exact hw.elim
  | some s =>
    rw [q] at hw
    cases s with
    | un => exact hw.elim
    | sh d =>
      obtain ⟨v, e1, r⟩ := R.at_ i _ q
      exact ⟨v, getD_some e1, hw B H σ v (Kp.refl σ) (Go.refl ..) R r⟩
    | ow ds =>
      obtain ⟨p, xs, e1, n, hp, r⟩ := R.at_ i _ q
      refine ⟨_, getD_some e1, hw B H σ _ (Kp.refl σ) ⟨Ex.refl B, fun _ _ h _ => h, fun _ _ _ h _ => h, fun _ z => .inl z.un, fun _ h => h⟩ R.un ⟨p, xs, rfl, n, hp, r, fun ⟨j, es, h1, h2⟩ => ?_, .inl ⟨i, ds, q, e1⟩⟩⟩
      rcases get_set h1 with ⟨_, _, z⟩ | ⟨hne, z⟩
      · cases z
      · exact R.apart i j ds es hne q z (by rw [e1, h2])
def sRetN : FS := fun ρ => .ok (.rt (.sh .non) ρ)
theorem ss_retN {pos : Pos} : SS kp X W (.Return none pos) sRetN := fun B H ρ σ R D hw => ⟨_, ps_retN, hw B H σ .non (Kp.refl σ) (Go.refl ..) R .non⟩
def sBk : FS := fun ρ => .ok (.bk ρ)
theorem ss_bk {pos : Pos} : SS kp X W (.Break pos) sBk := fun B H ρ σ R D hw => ⟨_, ps_break, hw B H σ (Kp.refl σ) (Go.refl ..) R⟩
def sCt : FS := fun ρ => .ok (.ct ρ)
theorem ss_ct {pos : Pos} : SS kp X W (.Continue pos) sCt := fun B H ρ σ R D hw => ⟨_, ps_continue, hw B H σ (Kp.refl σ) (Go.refl ..) R⟩

/-! ### an expression as a statement -/
def sDrop (f : FE) : FS := fun ρ => (f ρ).bind fun r => .ok (.nx r.2)
theorem ss_drop (hps : ∀ te, PE X e te → PS X st (tDrop te)) (h : SE X W e f) : SS kp X W st (sDrop f) := by
  intro B H ρ σ R D hw
  refine ⟨_, hps _ pe_any, ?_⟩
  unfold sDrop at hw
  refine h.thenS R hw fun B1 H1 ρ1 v d g1 R1 r1 hw1 => ?_
  exact hw1 B1 H1 σ (Kp.refl σ) (Go.refl ..) R1

/-! ### a list of one's own, by its name -/
/-- x.append(e) -/
def sApp (i : Nat) (f : FE) : FS := fun ρ => match ρ[i]? with
  | some (.ow _) => (f ρ).bind fun r => match r.2[i]? with
    | some (.ow ds) => if decide (ds.length < 100000) then .ok (.nx (r.2.set i (.ow (ds ++ [r.1])))) else .st
    | _ => .st
  | _ => .st
theorem ss_app {i : Nat} (hps : ∀ te, PE X e te → PS X st (tDrop (tBM X.K "list" rAppend (tVar i) (tCons te tNil)))) (h : SE X W e f) : SS kp X W st (sApp i f) := by
  intro B H ρ σ R D hw
  refine ⟨_, hps _ pe_any, ?_⟩
  unfold sApp at hw
  cases q0 : ρ[i]? with
  | none => rw [q0] at hw; exact hw.elim
  | some s =>
  rw [q0] at hw
  cases s with
  | un => exact hw.elim
  | sh d => exact hw.elim
  | ow ds0 =>
    obtain ⟨a, xs0, ev, hp0, r0, n0, _⟩ := R.mutOw (es := []) q0
    refine ⟨_, ev, .inl ⟨rfl, _, SqL.of hp0⟩, ?_⟩
    refine h.thenS R hw fun B1 H1 ρ1 v d g1 R1 r1 hw1 => ?_
    dsimp only at hw1
    cases q : ρ1[i]? with
    | none => rw [q] at hw1; exact hw1.elim
    | some s =>
      rw [q] at hw1
      cases s with
      | un => exact hw1.elim
      | sh d => exact hw1.elim
      | ow ds =>
        replace hw1 : (if decide (ds.length < 100000) = true then Out.ok (Fl.nx (ρ1.set i (.ow (ds ++ [d])))) else .st).wp _ _ := hw1
        by_cases c : decide (ds.length < 100000) = true
        · rw [if_pos c] at hw1
          obtain ⟨p, xs, e1, hp, r, n, hm⟩ := R1.mutOw (es := ds ++ [d]) q
          rw [ev] at e1
          cases e1
          obtain ⟨R2, g2⟩ := hm (xs ++ [v]) (r.append (.cons r1 .nil))
          exact ⟨a, xs, v, rfl, rfl, hp, lt_line (by rw [r.length]; exact Nat.le_of_lt (of_decide_eq_true c)), hw1 B1 _ σ (Kp.refl σ) g2 R2⟩
        · rw [if_neg c] at hw1; exact hw1.elim
/-- x.reverse() -/
def sRev (i : Nat) : FS := fun ρ => match ρ[i]? with
  | some (.ow ds) => .ok (.nx (ρ.set i (.ow ds.reverse)))
  | _ => .st
theorem ss_rev {i : Nat} (hps : PS X st (tDrop (tBM0 X.K "list" rReverse (tVar i)))) : SS kp X W st (sRev i) := by
  intro B H ρ σ R D hw
  refine ⟨_, hps, ?_⟩
  unfold sRev at hw
  cases q0 : ρ[i]? with
  | none => rw [q0] at hw; exact hw.elim
  | some s =>
  rw [q0] at hw
  cases s with
  | un => exact hw.elim
  | sh d => exact hw.elim
  | ow ds =>
    obtain ⟨a, xs, ev, hp, r, n, hm⟩ := R.mutOw (es := ds.reverse) q0
    obtain ⟨R2, g2⟩ := hm xs.reverse r.reverse
    exact ⟨_, ev, .inl ⟨rfl, _, SqL.of hp⟩, a, xs, rfl, rfl, hp, hw B _ σ (Kp.refl σ) g2 R2⟩
/-- x.pop() -/
def ePop (i : Nat) : FE := fun ρ => match ρ[i]? with
  | some (.ow ds) => match ds[ds.length - 1]? with
    | some d => .ok (d, ρ.set i (.ow ds.dropLast))
    | none => .st
  | _ => .st
theorem RpL.dropLast {B : Hp} {vs : List V} {ds : List D} (r : RpL B vs ds) : RpL B vs.dropLast ds.dropLast := by
  rw [List.dropLast_eq_take, List.dropLast_eq_take, r.length]
  exact r.take _
theorem se_pop {i : Nat} (hp : PE X e (tBM0 X.K "list" rPop (tVar i))) : SE X W e (ePop i) := by
  intro B H ρ σ R Q hw
  refine ⟨_, hp, ?_⟩
  unfold ePop at hw
  cases q0 : ρ[i]? with
  | none => rw [q0] at hw; exact hw.elim
  | some s =>
  rw [q0] at hw
  cases s with
  | un => exact hw.elim
  | sh d => exact hw.elim
  | ow ds =>
    dsimp only at hw
    cases q1 : ds[ds.length - 1]? with
    | none => rw [q1] at hw; exact hw.elim
    | some d =>
      rw [q1] at hw
      obtain ⟨a, xs, ev, hp, r, n, hm⟩ := R.mutOw (es := ds.dropLast) q0
      obtain ⟨R2, g2⟩ := hm xs.dropLast r.dropLast
      obtain ⟨v, hv, rv⟩ := r.get q1
      exact ⟨_, ev, .inl ⟨rfl, _, SqL.of hp⟩, a, xs, v, rfl, rfl, hp, by rw [r.length]; exact hv, hw B _ v g2 R2 rv⟩
/-- x[e1] = e2, x a list of one's own: e2 first, then e1 -/
def sSetIx (i : Nat) (fi f : FE) : FS := fun ρ => (f ρ).bind fun r => match r.2[i]? with
  | some (.ow _) => (fi r.2).bind fun s => match s.1 with
    | .int k => match s.2[i]? with
      | some (.ow ds) => match ixN ds.length k with
        | some j => .ok (.nx (s.2.set i (.ow (ds.set j r.1))))
        | none => .st
      | _ => .st
    | _ => .st
  | _ => .st
theorem ss_setIx {i : Nat} {fi : FE} {ei : Expr} (hps : ∀ te ti, PE X e te → PE X ei ti → PS X st (tAsg te (gSub (tVar i) ti rSetL))) (hi : SE X W ei fi) (h : SE X W e f) : SS kp X W st (sSetIx i fi f) := by
  intro B H ρ σ R D hw
  refine ⟨_, hps _ _ pe_any pe_any, ?_⟩
  unfold sSetIx at hw
  refine h.thenS R hw fun B1 H1 ρ1 v d g1 R1 r1 hw1 => ?_
  dsimp only at hw1
  cases q0 : ρ1[i]? with
  | none => rw [q0] at hw1; exact hw1.elim
  | some s =>
  rw [q0] at hw1
  cases s with
  | un => exact hw1.elim
  | sh d => exact hw1.elim
  | ow ds0 =>
    obtain ⟨a, xs0, ev, hp0, r0, n0, _⟩ := R1.mutOw (es := []) q0
    refine ⟨_, ev, ?_⟩
    dsimp only at hw1
    rw [wp_bind] at hw1
    refine hi B1 H1 ρ1 σ R1 _ (hw1.mono (fun s hs B2 H2 u g2 R2 r2 => ?_) fun _ _ z => z.toE)
    obtain ⟨dd, ρ2⟩ := s
    dsimp only at hs r2 R2 g2
    cases r2 <;> first | exact (show False from hs).elim | skip
    rename_i k
    dsimp only at hs
    cases q : ρ2[i]? with
    | none => rw [q] at hs; exact hs.elim
    | some sl =>
      rw [q] at hs
      cases sl with
      | un => exact hs.elim
      | sh d => exact hs.elim
      | ow ds =>
        dsimp only at hs
        cases qj : ixN ds.length k with
        | none => rw [qj] at hs; exact hs.elim
        | some j =>
          rw [qj] at hs
          obtain ⟨p, xs, e1, hp, r, n, hm⟩ := R2.mutOw (es := ds.set j d) q
          rw [ev] at e1
          cases e1
          obtain ⟨R3, g3⟩ := hm (xs.set j v) (RpL.set (r1.mono g2.ex) j r)
          exact ⟨a, xs, k, j, rfl, rfl, hp, by rw [r.length]; exact qj, hs B2 _ σ (Kp.refl σ) (g2.trans g3) R3⟩
/-! ### a name's list looked at, not handed on -/
/-- x[e], x by its name -/
def eIxVar (i : Nat) (f : FE) : FE := fun ρ => match ρ[i]? with
  | some (.ow _) => (f ρ).bind fun r => match r.1, r.2[i]? with
    | .int k, some (.ow ds) => match atI ds k with
      | some d => .ok (d, r.2)
      | none => .st
    | _, _ => .st
  | some (.sh x) => (f ρ).bind fun r => match dIx x r.1 with
    | some d => .ok (d, r.2)
    | none => .st
  | _ => .st
theorem se_ixVar {i : Nat} (hpe : ∀ tb, PE X b tb → PE X e (tOp (rOr (rIxL KK.K) (rIxT KK.K)) (tVar i) tb)) (h : SE X W b f) : SE X W e (eIxVar i f) := by
  intro B H ρ σ R Q hw
  refine ⟨_, hpe _ pe_any, ?_⟩
  unfold eIxVar at hw
  cases q0 : ρ[i]? with
  | none => rw [q0] at hw; exact hw.elim
  | some s =>
  rw [q0] at hw
  cases s with
  | un => exact hw.elim
  | sh x =>
    obtain ⟨v, e1, rx⟩ := R.at_ i _ q0
    refine ⟨v, getD_some e1, ?_⟩
    dsimp only at hw
    refine h.then (A := fun B H o => AskV B H o σ Q) R hw (fun e q => q.ext e) fun B1 H1 ρ1 u y g1 R1 r1 hw1 => ?_
    dsimp only at hw1
    cases q : dIx x y with
    | none => rw [q] at hw1; exact hw1.elim
    | some d =>
      rw [q] at hw1
      exact opD_ix B1 H1 ρ1 σ v u x y d R1 (rx.mono g1.ex) r1 q Q hw1
  | ow ds0 =>
    obtain ⟨a, xs0, ev, hp0, r0, n0, _⟩ := R.mutOw (es := []) q0
    refine ⟨_, ev, ?_⟩
    dsimp only at hw
    refine h.then (A := fun B H o => AskV B H o σ Q) R hw (fun e q => q.ext e) fun B1 H1 ρ1 u y g1 R1 r1 hw1 => ?_
    cases r1 <;> first | exact (show False from hw1).elim | skip
    rename_i k
    dsimp only at hw1
    cases q : ρ1[i]? with
    | none => rw [q] at hw1; exact hw1.elim
    | some sl =>
      rw [q] at hw1
      cases sl with
      | un => exact hw1.elim
      | sh d => exact hw1.elim
      | ow ds =>
        dsimp only at hw1
        cases qj : atI ds k with
        | none => rw [qj] at hw1; exact hw1.elim
        | some d =>
          rw [qj] at hw1
          obtain ⟨p, xs, e1, hp, r, n, hm⟩ := R1.mutOw (es := []) q
          rw [ev] at e1
          cases e1
          obtain ⟨w, e2, rw2⟩ := atI_rp r qj
          exact .inl ⟨a, xs, k, w, rfl, rfl, SqL.of hp, e2, hw1 B1 H1 w (Go.refl ..) R1 rw2⟩
end

/-! ### calls of built-ins -/
section
variable {kp : Nat → Bool} {X : Cx} {W : WX} {e a b c : Expr} {es : List Expr} {f g : FE} {fa : FA}
def CaD (r : List V → Hp → VK → Prop) (k : List D → Option D) : Prop := ∀ (B H : Hp) (ρ : Env) (σ : L2.St) (vs : List V) (ds : List D) (d : D), Rep B H ρ σ → RpL B vs ds → k ds = some d → ∀ Q : VK, AskV B H (Own ρ σ) σ Q (d, ρ) → r vs H Q
def eCB (k : List D → Option D) (fa : FA) : FE := fun ρ => (fa ρ).bind fun r => match k r.1 with
  | some d => .ok (d, r.2)
  | none => .st
theorem se_cb {r : List V → Hp → VK → Prop} {k : List D → Option D} (hk : CaD r k) (hpe : ∀ ta, PA X es ta → PE X e (tCB r ta)) (h : SA X W es fa) : SE X W e (eCB k fa) := by
  intro B H ρ σ R Q hw
  refine ⟨_, hpe _ pa_any, ?_⟩
  unfold eCB at hw
  rw [wp_bind] at hw
  refine h B H ρ σ R _ (hw.mono (fun s hs B1 H1 vs g1 R1 r1 => ?_) fun _ _ z => z)
  cases q : k s.1 with
  | none => rw [q] at hs; exact hs.elim
  | some d =>
    rw [q] at hs
    exact hk B1 H1 s.2 σ vs s.1 d R1 r1 q Q (fun B2 H2 v g2 => hs B2 H2 v (g1.trans g2))
def CaF (r : List V → Hp → VK → Prop) (k : List D → Option (List D)) : Prop := ∀ (B H : Hp) (ρ : Env) (σ : L2.St) (vs : List V) (ds es : List D), Rep B H ρ σ → RpL B vs ds → k ds = some es → ∀ Q : VK, (∀ xs p, RpL B xs es → H p = none → Q (.ref p) (upd H p (.lst xs))) → r vs H Q
def fCB (k : List D → Option (List D)) (fa : FA) : FF := fun ρ => (fa ρ).bind fun r => match k r.1 with
  | some d => .ok (d, r.2)
  | none => .st
theorem sf_cb {r : List V → Hp → VK → Prop} {k : List D → Option (List D)} (hk : CaF r k) (hpe : ∀ ta, PA X es ta → PE X e (tCB r ta)) (h : SA X W es fa) : SF X W e (fCB k fa) := by
  intro B H ρ σ R Q hw
  refine ⟨_, hpe _ pa_any, ?_⟩
  unfold fCB at hw
  rw [wp_bind] at hw
  refine h B H ρ σ R _ (hw.mono (fun s hs B1 H1 vs g1 R1 r1 => ?_) fun _ _ z => z)
  cases q : k s.1 with
  | none => rw [q] at hs; exact hs.elim
  | some ds =>
    rw [q] at hs
    exact hk B1 H1 s.2 σ vs s.1 ds R1 r1 q Q fun xs p rx hp => hs _ _ p xs (g1.trans (Go.newH hp)) (R1.newH hp) (R1.ex.none hp) upd_same rx (R1.not_own hp) (.inr (g1.th p hp))
/-- len -/
def dLen : List D → Option D
  | [.lst xs] => some (.int xs.length)
  | [.tup xs] => some (.int xs.length)
  | [.scr ns] => some (.int ns.length)
  | _ => none
theorem RpL.one {B : Hp} {vs : List V} {d : D} (r : RpL B vs [d]) : ∃ v, vs = [v] ∧ Rp B v d := by
  cases r with
  | cons h t => cases t; exact ⟨_, rfl, h⟩
theorem RpL.two {B : Hp} {vs : List V} {d e : D} (r : RpL B vs [d, e]) : ∃ v w, vs = [v, w] ∧ Rp B v d ∧ Rp B w e := by
  cases r with
  | cons h t =>
    cases t with
    | cons h2 t => cases t; exact ⟨_, _, rfl, h, h2⟩
theorem caD_len : CaD (fun xs H Q => ∃ p ys, xs = [.ref p] ∧ (SqL KK.K H p ys ∨ SqT KK.K H p ys) ∧ Q (.int ys.length) H) dLen := by
  intro B H ρ σ vs ds d R r hd Q q
  unfold dLen at hd
  split at hd <;> cases hd
  · obtain ⟨v, rfl, rv⟩ := r.one
    cases rv with
    | lst h hs => exact ⟨_, _, rfl, .inl (SqL.of (R.ex _ _ h)), by rw [hs.length]; exact q B H _ (Go.refl ..) R (.int _)⟩
  · obtain ⟨v, rfl, rv⟩ := r.one
    cases rv with
    | tup h hs => exact ⟨_, _, rfl, .inr (SqT.of (R.ex _ _ h)), by rw [hs.length]; exact q B H _ (Go.refl ..) R (.int _)⟩
  · obtain ⟨v, rfl, rv⟩ := r.one
    cases rv with
    | scr h => exact ⟨_, _, rfl, .inl (sqL_mono R.ex h), by rw [List.length_map]; exact q B H _ (Go.refl ..) R (.int _)⟩
/-- the ints of data -/
def intsOf : List D → Option (List Int)
  | [] => some []
  | .int i :: r => (intsOf r).map (i :: ·)
  | _ => none
theorem intsOf_eq : ∀ {ds : List D} {ns : List Int}, intsOf ds = some ns → ds = ns.map D.int
  | [], _, h => by cases h; rfl
  | .int i :: r, ns, h => by
    unfold intsOf at h
    cases e : intsOf r with
    | none => rw [e] at h; cases h
    | some ms =>
      rw [e] at h
      cases h
      rw [intsOf_eq e]
      rfl
  | .non :: _, _, h => by cases h
  | .bl _ :: _, _, h => by cases h
  | .str _ :: _, _, h => by cases h
  | .lst _ :: _, _, h => by cases h
  | .tup _ :: _, _, h => by cases h
  | .scr _ :: _, _, h => by cases h
  | .ty _ :: _, _, h => by cases h
theorem intsOf_map (ns : List Int) : intsOf (ns.map D.int) = some ns := by
  induction ns with
  | nil => rfl
  | cons n r ih =>
    show (intsOf (r.map D.int)).map (n :: ·) = _
    rw [ih]
    rfl
/-- abs, int, gcd -/
def dAbs : List D → Option D
  | [.int i] => some (.int (if i < 0 then -i else i))
  | _ => none
theorem caD_abs : CaD (fun xs H Q => ∃ i, xs = [.int i] ∧ Q (.int (if i < 0 then -i else i)) H) dAbs := by
  intro B H ρ σ vs ds d R r hd Q q
  unfold dAbs at hd
  split at hd <;> cases hd
  obtain ⟨v, rfl, rv⟩ := r.one
  cases rv
  exact ⟨_, rfl, q B H _ (Go.refl ..) R (.int _)⟩
def dMin2 : List D → Option D
  | [.int i, .int j] => some (.int (if j < i then j else i))
  | _ => none
theorem caD_min2 : CaD (fun xs H Q => ∃ i j, xs = [.int i, .int j] ∧ Q (.int (if j < i then j else i)) H) dMin2 := by
  intro B H ρ σ vs ds d R r hd Q q
  unfold dMin2 at hd
  split at hd <;> cases hd
  obtain ⟨v, w, rfl, rv, rw2⟩ := r.two
  cases rv
  cases rw2
  exact ⟨_, _, rfl, q B H _ (Go.refl ..) R (.int _)⟩
def dInt : List D → Option D
  | [.int i] => some (.int i)
  | [.bl k] => some (.int (if k then 1 else 0))
  | _ => none
theorem caD_int : CaD (fun xs H Q => (∃ i, xs = [.int i] ∧ Q (.int i) H) ∨ ∃ k, xs = [.bl k] ∧ Q (.int (if k then 1 else 0)) H) dInt := by
  intro B H ρ σ vs ds d R r hd Q q
  unfold dInt at hd
  split at hd <;> cases hd
  · obtain ⟨v, rfl, rv⟩ := r.one
    cases rv
    exact .inl ⟨_, rfl, q B H _ (Go.refl ..) R (.int _)⟩
  · obtain ⟨v, rfl, rv⟩ := r.one
    cases rv
    exact .inr ⟨_, rfl, q B H _ (Go.refl ..) R (.int _)⟩
def dGcd : List D → Option D
  | [.int i, .int j] => some (.int ((Nat.gcd i.natAbs j.natAbs : Nat) : Int))
  | _ => none
theorem caD_gcd : CaD rGcd dGcd := by
  intro B H ρ σ vs ds d R r hd Q q
  unfold dGcd at hd
  split at hd <;> cases hd
  obtain ⟨v, w, rfl, rv, rw2⟩ := r.two
  cases rv
  cases rw2
  exact ⟨_, _, rfl, q B H _ (Go.refl ..) R (.int _)⟩
/-- tuple(x) -/
def dTuple : List D → Option D
  | [.lst xs] => some (.tup xs)
  | [.tup xs] => some (.tup xs)
  | _ => none
theorem caD_tuple {K : PySem.W.Frag} : CaD (fun xs H Q => ∃ p ys, xs = [.ref p] ∧ ((SqL K H p ys ∧ ∀ l, H l = none → Q (.ref l) (upd H l (.tup ys))) ∨ (SqT K H p ys ∧ Q (.ref p) H))) dTuple := by
  intro B H ρ σ vs ds d R r hd Q q
  unfold dTuple at hd
  split at hd <;> cases hd
  · obtain ⟨v, rfl, rv⟩ := r.one
    cases rv with
    | lst h hs => exact ⟨_, _, rfl, .inl ⟨SqL.of (R.ex _ _ h), fun l hl => q _ _ _ (Go.new R.ex hl) (R.new hl) (.tup upd_same (hs.mono (Ex.new (R.ex.none hl))))⟩⟩
  · obtain ⟨v, rfl, rv⟩ := r.one
    cases rv with
    | tup h hs => exact ⟨_, _, rfl, .inr ⟨SqT.of (R.ex _ _ h), q B H _ (Go.refl ..) R (.tup h hs)⟩⟩
/-- list(x) -/
def dList : List D → Option (List D)
  | [.lst xs] => some xs
  | [.tup xs] => some xs
  | _ => none
theorem caF_list {K : PySem.W.Frag} : CaF (fun xs H Q => ∃ p ys, xs = [.ref p] ∧ (SqL K H p ys ∨ SqT K H p ys) ∧ ∀ l, H l = none → Q (.ref l) (upd H l (.lst ys))) dList := by
  intro B H ρ σ vs ds d R r hd Q q
  unfold dList at hd
  split at hd <;> cases hd
  · obtain ⟨v, rfl, rv⟩ := r.one
    cases rv with
    | lst h hs => exact ⟨_, _, rfl, .inl (SqL.of (R.ex _ _ h)), fun l hl => q _ l hs hl⟩
  · obtain ⟨v, rfl, rv⟩ := r.one
    cases rv with
    | tup h hs => exact ⟨_, _, rfl, .inr (SqT.of (R.ex _ _ h)), fun l hl => q _ l hs hl⟩
end
end KV
set_option Elab.async false
set_option linter.all false
set_option autoImplicit false
set_option maxRecDepth 100000
set_option maxHeartbeats 2000000
namespace KV
open PySem PySem.Spec PyProof.Rows L2
variable [KK]

/-! ### targets -/
abbrev HT' := D → Env → Option Env
def SG (kp : Nat → Bool) (X : Cx) (tg : Expr) (h : HT') : Prop := ∀ (B H : Hp) (ρ : Env) (σ : L2.St) (v : V) (d : D) (ρ' : Env), Rep B H ρ σ → Rp B v d → h d ρ = some ρ' →
  ∀ Q : L2.St → Hp → Prop, (∀ σ', Kp kp σ σ' → Rep B H ρ' σ' → (∀ a, Own ρ' σ' a → Own ρ σ a) → σ'.length = σ.length → Q σ' H) → tAnyG X tg v σ H Q
def hName (i : Nat) : HT' := fun d ρ => some (ρ.set i (.sh d))
def setAll : List Nat → List D → Env → Env
  | i :: is, d :: ds, ρ => setAll is ds (ρ.set i (.sh d))
  | _, _, ρ => ρ
def hTup (is : List Nat) : HT' := fun d ρ => match d with
  | .tup ds => if ds.length = is.length then some (setAll is ds ρ) else none
  | _ => none
def gNames : List Nat → TGs
  | [] => gNil
  | i :: is => gCons (gName i) (gNames is)
section
variable {kp : Nat → Bool} {X : Cx} {W : WX} {tg it e a b c : Expr}
theorem sg_name {i : Nat} (p : PG X tg (gName i)) (hk : kp i = false) : SG kp X tg (hName i) := by
  intro B H ρ σ v d ρ' R r he Q q
  cases he
  exact ⟨_, p, q _ (Kp.set hk) (R.setSh r) (fun a z => z.set_sh) (by rw [List.length_set])⟩
theorem gNames_ok {B H : Hp} : ∀ {is : List Nat} {vs : List V} {ds : List D} {ρ : Env} {σ : L2.St} {Q : L2.St → Hp → Prop}, (∀ i ∈ is, kp i = false) → ds.length = is.length → Rep B H ρ σ → RpL B vs ds →
    (∀ σ', Kp kp σ σ' → Rep B H (setAll is ds ρ) σ' → (∀ a, Own (setAll is ds ρ) σ' a → Own ρ σ a) → σ'.length = σ.length → Q σ' H) → gNames is vs σ H Q
  | [], vs, ds, ρ, σ, Q, hk, hl, R, r, q => by
    cases ds with
    | cons _ _ => cases hl
    | nil =>
      cases r
      exact ⟨rfl, q σ (Kp.refl σ) R (fun _ z => z) rfl⟩
  | i :: is, vs, ds, ρ, σ, Q, hk, hl, R, r, q => by
    cases ds with
    | nil => cases hl
    | cons d ds =>
      cases r with
      | cons r rr =>
        have h1 := hk i List.mem_cons_self
        exact ⟨_, _, rfl, gNames_ok (fun j hj => hk j (List.mem_cons_of_mem _ hj)) (Nat.succ.inj hl) (R.setSh (i := i) r) rr fun σ' k' R' o' l' => q σ' ((Kp.set h1).trans k') R' (fun a z => (o' a z).set_sh) (by rw [l', List.length_set])⟩
theorem sg_tup {is : List Nat} (p : PG X tg (gTup X.K is.length (gNames is))) (hk : ∀ i ∈ is, kp i = false) : SG kp X tg (hTup is) := by
  intro B H ρ σ v d ρ' R r he Q q
  unfold hTup at he
  cases d <;> first | cases he | skip
  rename_i ds
  replace he : (if ds.length = is.length then some (setAll is ds ρ) else none) = some ρ' := he
  by_cases z : ds.length = is.length
  · rw [if_pos z] at he
    cases he
    refine ⟨_, p, ?_⟩
    cases r with
    | tup h hs => exact ⟨_, _, rfl, SqT.of (R.ex _ _ h), by rw [hs.length]; exact z, gNames_ok hk z R hs q⟩
  · rw [if_neg z] at he; cases he

/-! ### what is walked -/
def Yld (B : Hp) (d : D) (H : Hp) (x : V) (H' : Hp) : Prop := (H' = H ∧ Rp B x d) ∨ ∃ T xs es, H T = none ∧ H' = upd H T (.tup xs) ∧ x = .ref T ∧ RpL B xs es ∧ d = .tup es
structure Wk (J : It) (B : Hp) (ds : List D) : Prop where
  item : ∀ (i : Nat) (H : Hp) (d : D), Ex B H → ds[i]? = some d → J.go i H ∧ ∀ x H', J.yld i H x H' → Yld B d H x H'
  done : ∀ (i : Nat) (H : Hp), Ex B H → ds.length = i → J.stop i H
def AskI (B H : Hp) (o : Addr → Prop) (σ : L2.St) (R : It → Hp → Prop) (r : List D × Env) : Prop := ∀ J B' H', Go B H o B' H' (Own r.2 σ) → Rep B' H' r.2 σ → Wk J B' r.1 → R J H'
def SI (X : Cx) (W : WX) (tg it : Expr) (g : FA) : Prop := ∀ B H ρ σ, Rep B H ρ σ → ∀ R : It → Hp → Prop, (g ρ).wp (AskI B H (Own ρ σ) σ R) (AskE X W B H (Own ρ σ) σ) → tAnyI X tg it σ H R
/-- the items of a list, a tuple, the script -/
def itemsOf : D → Option (List D)
  | .lst xs => some xs
  | .tup xs => some xs
  | _ => none
def gSeq (f : FE) : FA := fun ρ => (f ρ).bind fun r => match itemsOf r.1 with
  | some ds => .ok (ds, r.2)
  | none => .st
theorem SqL_inj {K : PySem.W.Frag} {H : Hp} {a : Addr} {xs ys : List V} (h : H a = some (.lst xs)) (h2 : Rd H a (.lst ys)) : xs = ys := by
  rcases h2 with q | ⟨o, q⟩
  · rw [h] at q; cases q; rfl
  · rw [h] at q; cases q
end

/-- in a machine's state, what is read at a tracked list is it -/
theorem wk_list {K : PySem.W.Frag} {B : Hp} {a : Addr} {xs : List V} {ds : List D} (h : B a = some (.lst xs)) (r : RpL B xs ds) : Wk (Itl K a) B ds := by
  refine ⟨fun i H d e hd => ?_, fun i H e hl => ⟨xs, SqL.of (e _ _ h), by rw [r.length]; omega⟩⟩
  obtain ⟨v, hv, rv⟩ := r.get hd
  refine ⟨⟨xs, v, SqL.of (e _ _ h), hv⟩, fun x H' y => ?_⟩
  obtain ⟨rfl, y⟩ := y
  have q := y xs (SqL.of (e _ _ h))
  rw [hv] at q
  cases q
  exact .inl ⟨rfl, rv⟩
theorem wk_tup {K : PySem.W.Frag} {B : Hp} {a : Addr} {xs : List V} {ds : List D} (h : B a = some (.tup xs)) (r : RpL B xs ds) : Wk (Itt K a) B ds := by
  refine ⟨fun i H d e hd => ?_, fun i H e hl => ⟨xs, SqT.of (e _ _ h), by rw [r.length]; omega⟩⟩
  obtain ⟨v, hv, rv⟩ := r.get hd
  refine ⟨⟨xs, v, SqT.of (e _ _ h), hv⟩, fun x H' y => ?_⟩
  obtain ⟨rfl, y⟩ := y
  have q := y xs (SqT.of (e _ _ h))
  rw [hv] at q
  cases q
  exact .inl ⟨rfl, rv⟩
def rangeD (lo hi : Int) : List D := (List.range (hi - lo).toNat).map fun i => D.int (lo + (i : Nat))
theorem wk_range {B : Hp} {lo : Int} {n : Nat} : Wk (Itr lo n) B ((List.range n).map fun i => D.int (lo + (i : Nat))) := by
  refine ⟨fun i H d e hd => ?_, fun i H e hl => by rw [List.length_map, List.length_range] at hl; exact Nat.le_of_eq hl⟩
  rw [List.getElem?_map] at hd
  cases q : (List.range n)[i]? with
  | none => rw [q] at hd; cases hd
  | some j =>
    rw [q] at hd
    cases hd
    obtain ⟨h1, h2⟩ := List.getElem?_eq_some_iff.mp q
    rw [List.getElem_range] at h2
    subst h2
    rw [List.length_range] at h1
    refine ⟨h1, fun x H' y => ?_⟩
    obtain ⟨rfl, rfl⟩ := y
    exact .inl ⟨rfl, .int _⟩
section
variable {kp : Nat → Bool} {X : Cx} {W : WX} {tg it e a b c : Expr} {f : FE} {fa : FA}
def iOr (w1 w2 : TI) : TI := fun σ H R => w1 σ H R ∨ w2 σ H R
theorem pi_or {w1 w2 : TI} (h1 : PI X tg it w1) (h2 : PI X tg it w2) : PI X tg it (iOr w1 w2) := ⟨fun pins s σ H R I h => by
  rcases h with h | h
  · exact h1.run pins s σ H R I h
  · exact h2.run pins s σ H R I h⟩
/-- a list or a tuple walked: which of the two is known only behind the expression -/
def iSeqv (K : PySem.W.Frag) (te : TE) : TI := fun σ H R => te σ H fun x H1 => ∃ a, x = .ref a ∧ ((∃ xs, SqL K H1 a xs) ∧ R (Itl K a) H1 ∨ (∃ xs, SqT K H1 a xs) ∧ R (Itt K a) H1)
theorem iter_l {pins : List (Addr × Obj)} {σ : L2.St} {H : Hp} {s : Shared} {R : It → Hp → Prop} {a : Addr} {xs : List V} (I : Inv X pins σ H s) (hx : SqL X.K H a xs) (q : R (Itl X.K a) H) :
    wpAny (model X.prog X.w) X.A (pyIter (.ref a)) (PIE X pins σ tg R) X.xe s := by
  obtain ⟨vals, _, isL, _⟩ := I.list hx
  have I' := I.kept (t' := s.toks) (h' := s.heap.push { cls := .type "list_iterator", data := .fields #[.ref a, .int 0 0] }) fun b o e => Heap.get?_push_of_some _ e
  exact wpAny_pyIter_list isL.isList ⟨s.heap.objs.size, [s.heap.objs.size], _, _, H, rfl, I', turn_list a _, ⟨_, Heap.get?_push_size _ rfl, rfl, rfl⟩, fun b hb => by
    rw [List.mem_singleton.mp hb]; exact I.fpOk (Nat.le_refl _) (I.hok.fresh (Nat.le_refl _)), q⟩
theorem iter_t {pins : List (Addr × Obj)} {σ : L2.St} {H : Hp} {s : Shared} {R : It → Hp → Prop} {a : Addr} {xs : List V} (I : Inv X pins σ H s) (hx : SqT X.K H a xs) (q : R (Itt X.K a) H) :
    wpAny (model X.prog X.w) X.A (pyIter (.ref a)) (PIE X pins σ tg R) X.xe s := by
  obtain ⟨vals, _, isT, _⟩ := I.tuple hx
  have I' := I.kept (t' := s.toks) (h' := s.heap.push { cls := .type "tuple_iterator", data := .fields #[.ref a, .int 0 0] }) fun b o e => Heap.get?_push_of_some _ e
  exact wpAny_pyIter_tuple (show s.heap.IsTuple a vals.toArray from isT) ⟨s.heap.objs.size, [s.heap.objs.size], _, _, H, rfl, I', turn_tuple a _, ⟨_, Heap.get?_push_size _ rfl, rfl, rfl⟩, fun b hb => by
    rw [List.mem_singleton.mp hb]; exact I.fpOk (Nat.le_refl _) (I.hok.fresh (Nat.le_refl _)), q⟩
theorem pi_seqv {te : TE} (he : PE X it te) : PI X tg it (iSeqv X.K te) := ⟨fun pins s σ H R I h => thn (he.run pins s σ H _ I h) fun v s1 ⟨x, H1, I1, r1, a, ex, q⟩ => by
  subst ex
  cases r1
  rcases q with ⟨⟨xs, hx⟩, q⟩ | ⟨⟨xs, hx⟩, q⟩
  · exact iter_l I1 hx q
  · exact iter_t I1 hx q⟩
theorem si_seq (h : SE X W it f) : SI X W tg it (gSeq f) := by
  intro B H ρ σ R RR hw
  refine ⟨_, pi_seqv pe_any, ?_⟩
  unfold gSeq at hw
  rw [wp_bind] at hw
  refine h B H ρ σ R _ (hw.mono (fun r hr B1 H1 v g1 R1 r1 => ?_) fun _ _ z => z)
  obtain ⟨d, ρ1⟩ := r
  dsimp only at hr r1 R1 g1
  cases r1 <;> first | exact (show False from hr).elim | skip
  · rename_i hb hs
    exact ⟨_, rfl, .inl ⟨⟨_, SqL.of (R1.ex _ _ hb)⟩, hr _ B1 H1 g1 R1 (wk_list hb hs)⟩⟩
  · rename_i hb hs
    exact ⟨_, rfl, .inr ⟨⟨_, SqT.of (R1.ex _ _ hb)⟩, hr _ B1 H1 g1 R1 (wk_tup hb hs)⟩⟩
/-- range -/
def gRng1 (fa : FA) : FA := fun ρ => (fa ρ).bind fun r => match r.1 with
  | [.int n] => if decide (n ≤ 1000000) && decide (-1000000 ≤ n) then .ok (rangeD 0 n, r.2) else .st
  | _ => .st
def gRng2 (fa : FA) : FA := fun ρ => (fa ρ).bind fun r => match r.1 with
  | [.int m, .int n] => if decide (n ≤ 1000000) && decide (-1000000 ≤ n) && decide (m ≤ 1000000) && decide (-1000000 ≤ m) then .ok (rangeD m n, r.2) else .st
  | _ => .st
variable {es : List Expr}
theorem si_rng1 (hpi : ∀ ta, PA X es ta → PI X tg it (iRng1 ta)) (h : SA X W es fa) : SI X W tg it (gRng1 fa) := by
  intro B H ρ σ R RR hw
  refine ⟨_, hpi _ pa_any, ?_⟩
  unfold gRng1 at hw
  rw [wp_bind] at hw
  refine h B H ρ σ R _ (hw.mono (fun r hr B1 H1 vs g1 R1 r1 => ?_) fun _ _ z => z)
  obtain ⟨ds, ρ1⟩ := r
  dsimp only at hr r1 R1 g1
  split at hr
  · rename_i n
    obtain ⟨v, rfl, rv⟩ := r1.one
    cases rv
    by_cases c : (decide (n ≤ 1000000) && decide (-1000000 ≤ n)) = true
    · rw [if_pos c] at hr
      obtain ⟨c1, c2⟩ := Bool.and_eq_true_iff.mp c
      have c1' := of_decide_eq_true c1
      have c2' := of_decide_eq_true c2
      refine ⟨n, rfl, by omega, by omega, hr _ B1 H1 g1 R1 ?_⟩
      unfold rangeD
      rw [Int.sub_zero]
      exact wk_range
    · rw [if_neg c] at hr; exact hr.elim
  · exact hr.elim
theorem si_rng2 (hpi : ∀ ta, PA X es ta → PI X tg it (iRng2 ta)) (h : SA X W es fa) : SI X W tg it (gRng2 fa) := by
  intro B H ρ σ R RR hw
  refine ⟨_, hpi _ pa_any, ?_⟩
  unfold gRng2 at hw
  rw [wp_bind] at hw
  refine h B H ρ σ R _ (hw.mono (fun r hr B1 H1 vs g1 R1 r1 => ?_) fun _ _ z => z)
  obtain ⟨ds, ρ1⟩ := r
  dsimp only at hr r1 R1 g1
  split at hr
  · rename_i m n
    obtain ⟨v, w, rfl, rv, rw2⟩ := r1.two
    cases rv
    cases rw2
    by_cases c : (decide (n ≤ 1000000) && decide (-1000000 ≤ n) && decide (m ≤ 1000000) && decide (-1000000 ≤ m)) = true
    · rw [if_pos c] at hr
      obtain ⟨c1, c4⟩ := Bool.and_eq_true_iff.mp c
      obtain ⟨c1, c3⟩ := Bool.and_eq_true_iff.mp c1
      obtain ⟨c1, c2⟩ := Bool.and_eq_true_iff.mp c1
      have c1' := of_decide_eq_true c1
      have c2' := of_decide_eq_true c2
      have c3' := of_decide_eq_true c3
      have c4' := of_decide_eq_true c4
      exact ⟨m, n, rfl, ⟨by omega, by omega, by omega, by omega⟩, hr _ B1 H1 g1 R1 wk_range⟩
    · rw [if_neg c] at hr; exact hr.elim
  · exact hr.elim

/-! ### for -/
def sLoop (h : HT') (body : FS) : List D → Env → Out Fl
  | [], ρ => .ok (.nx ρ)
  | d :: ds, ρ => match h d ρ with
    | none => .st
    | some ρ1 => (body ρ1).bind fun fl => match fl with
      | .nx ρ2 => sLoop h body ds ρ2
      | .ct ρ2 => sLoop h body ds ρ2
      | .bk ρ2 => .ok (.nx ρ2)
      | .rt r ρ2 => .ok (.rt r ρ2)
def sFor (g : FA) (h : HT') (body : FS) : FS := fun ρ => (g ρ).bind fun r => sLoop h body r.1 r.2
theorem Yld.rep {B H H' : Hp} {ρ : Env} {σ : L2.St} {x : V} {d : D} {o : Addr → Prop} (R : Rep B H ρ σ) (y : Yld B d H x H') : ∃ B', Rep B' H' ρ σ ∧ Go B H o B' H' o ∧ Rp B' x d := by
  rcases y with ⟨rfl, r⟩ | ⟨T, xs, es, n, rfl, rfl, r, rfl⟩
  · exact ⟨B, R, Go.refl .., r⟩
  · exact ⟨_, R.new n, Go.new R.ex n, .tup upd_same (r.mono (Ex.new (R.ex.none n)))⟩
theorem Yld.mono {B B' H H' : Hp} {x : V} {d : D} (e : Ex B B') (y : Yld B d H x H') : Yld B' d H x H' := by
  rcases y with ⟨rfl, r⟩ | ⟨T, xs, es, n, h1, h2, r, h3⟩
  · exact .inl ⟨rfl, r.mono e⟩
  · exact .inr ⟨T, xs, es, n, h1, h2, r.mono e, h3⟩
variable {st : Stmt} {body : List Stmt} {q : FS}
theorem ss_for {pos : Pos} {g : FA} {h : HT'} (hp : PassesOwn (model X.prog X.w) X.A X.env X.xe) (hc : X.calm = true) (hi : SI X W tg it g) (hg : SG kp X tg h) (hb : SSs kp X W body q)
    (hs : ∀ x, foldedSetIterable it X.env x = pure x := by intro _; rfl) : SS kp X W (.For tg it body [] pos) (sFor g h q) := by
  intro B H ρ σ R D hw
  refine ⟨_, ps_for hp hc pi_any pg_any pss_any hs, ?_⟩
  unfold sFor at hw
  rw [wp_bind] at hw
  refine hi B H ρ σ R _ (hw.mono (fun r hr J B1 H1 g1 R1 wk => ?_) fun _ _ z => z.toE)
  obtain ⟨ds, ρ1⟩ := r
  dsimp only at hr g1 R1 wk
  refine ⟨fun i m σ' H' => ∃ B' ρ', Kp kp σ σ' ∧ Go B H (Own ρ σ) B' H' (Own ρ' σ') ∧ Rep B' H' ρ' σ' ∧ Ex B1 B' ∧ m = ds.length - i ∧ i ≤ ds.length ∧ (sLoop h q (ds.drop i) ρ').wp (AskS kp B H (Own ρ σ) σ D) (AskES kp X W B H (Own ρ σ) σ),
    ⟨ds.length, B1, ρ1, Kp.refl σ, g1, R1, Ex.refl B1, rfl, Nat.zero_le _, hr⟩, ?_⟩
  rintro i m σ' H' ⟨B', ρ', k', g', R', e', rfl, hi', hw'⟩
  by_cases hlt : i < ds.length
  · obtain ⟨go, yl⟩ := wk.item i H' ds[i] (e'.trans R'.ex) (List.getElem?_eq_getElem hlt)
    rw [List.drop_eq_getElem_cons hlt] at hw'
    unfold sLoop at hw'
    cases qh : h ds[i] ρ' with
    | none => rw [qh] at hw'; exact hw'.elim
    | some ρ2 =>
      rw [qh] at hw'
      dsimp only at hw'
      rw [wp_bind] at hw'
      refine .inr ⟨go, fun σ3 H3 => ∃ B3 ρ3, Kp kp σ σ3 ∧ Go B H (Own ρ σ) B3 H3 (Own ρ3 σ3) ∧ Rep B3 H3 ρ3 σ3 ∧ Ex B1 B3 ∧ (sLoop h q (ds.drop (i + 1)) ρ3).wp (AskS kp B H (Own ρ σ) σ D) (AskES kp X W B H (Own ρ σ) σ), fun σ3 H3 ⟨B3, ρ3, k3, g3, R3, e3, w3⟩ => ⟨ds.length - (i + 1), by omega, B3, ρ3, k3, g3, R3, e3, rfl, hlt, w3⟩, fun x H2 y => ?_⟩
      obtain ⟨B2, R2, g2, r2⟩ := Yld.rep (o := Own ρ' σ') R' ((yl x H2 y).mono e')
      refine hg B2 H2 ρ' σ' x ds[i] ρ2 R2 r2 qh _ fun σ2 k2 R3 o2 l2 => ?_
      have g3 : Go B H (Own ρ σ) B2 H2 (Own ρ2 σ2) := g'.trans ⟨g2.ex, g2.fr, g2.nb, fun a z => .inl (o2 a z), g2.th⟩
      have k3 : Kp kp σ σ2 := k'.trans k2
      refine hb B2 H2 ρ2 σ2 R3 _ (hw'.mono (fun fl hf => ?_) fun _ _ z => z.ext k3 g3)
      cases fl with
      | nx ρ4 => exact fun B4 H4 σ4 k4 g4 R4 => ⟨B4, ρ4, k3.trans k4, g3.trans g4, R4, (e'.trans g2.ex).trans g4.ex, hf⟩
      | ct ρ4 => exact fun B4 H4 σ4 k4 g4 R4 => ⟨B4, ρ4, k3.trans k4, g3.trans g4, R4, (e'.trans g2.ex).trans g4.ex, hf⟩
      | bk ρ4 => exact fun B4 H4 σ4 k4 g4 R4 => hf B4 H4 σ4 (k3.trans k4) (g3.trans g4) R4
      | rt r ρ4 => exact fun B4 H4 σ4 v k4 g4 R4 r4 => hf B4 H4 σ4 v (k3.trans k4) (g3.trans g4) R4 (r4.back g3)
  · have ei : i = ds.length := by omega
    subst ei
    rw [List.drop_length] at hw'
    exact .inl ⟨wk.done _ H' (e'.trans R'.ex) rfl, hw' B' H' σ' k' g' R'⟩
end

/-! ### comprehensions -/
def wipeE (ρ : Env) : List Nat → Env
  | [] => ρ
  | v :: vs => (wipeE ρ vs).set v .un
theorem wipe_rep {B H : Hp} {ρ : Env} {σ : L2.St} (R : Rep B H ρ σ) : ∀ {vs : List Nat}, Rep B H (wipeE ρ vs) (wipe σ vs) ∧ ∀ a, Own (wipeE ρ vs) (wipe σ vs) a → Own ρ σ a
  | [] => ⟨R, fun _ h => h⟩
  | v :: vs => ⟨(wipe_rep R (vs := vs)).1.setUn, fun a h => (wipe_rep R (vs := vs)).2 a h.set_un⟩
theorem wipe_back {B H : Hp} {ρ : Env} {σ : L2.St} : ∀ {vs : List Nat}, Rep B H ρ (wipe σ vs) → Rep B H (wipeE ρ vs) σ ∧ ∀ a, Own (wipeE ρ vs) σ a → Own ρ (wipe σ vs) a
  | [], R => ⟨R, fun _ h => h⟩
  | v :: vs, R => by
    have R1 : Rep B H (ρ.set v .un) (wipe σ vs) := by
      have hl : ρ.length = (wipe σ vs).length := by have := R.len; rw [wipe_length] at this ⊢; exact this
      refine ⟨R.ex, by rw [List.length_set]; exact hl, fun j s h => ?_, fun j k ds es hjk hj hk => ?_⟩
      · rcases get_set h with ⟨_, _, z⟩ | ⟨hne, z⟩
        · subst z; trivial
        · have q := R.at_ j s z
          unfold wipe at q
          rw [getD_set_ne hne] at q
          exact q
      · rcases get_set hj with ⟨_, _, z⟩ | ⟨n1, e1⟩
        · cases z
        · rcases get_set hk with ⟨_, _, z⟩ | ⟨n2, e2⟩
          · cases z
          · have q := R.apart j k ds es hjk e1 e2
            unfold wipe at q
            rw [getD_set_ne n1, getD_set_ne n2] at q
            exact q
    obtain ⟨R2, o2⟩ := wipe_back R1
    have key : wipeE (ρ.set v .un) vs = wipeE ρ (v :: vs) := by
      show wipeE (ρ.set v .un) vs = (wipeE ρ vs).set v .un
      have : ∀ ws : List Nat, wipeE (ρ.set v .un) ws = (wipeE ρ ws).set v .un := by
        intro ws
        induction ws with
        | nil => rfl
        | cons w ws ih =>
          show (wipeE (ρ.set v .un) ws).set w .un = ((wipeE ρ ws).set w .un).set v .un
          rw [ih]
          by_cases e : v = w
          · subst e; rfl
          · exact List.set_comm _ _ e
      exact this vs
    rw [← key]
    refine ⟨R2, fun a h => ?_⟩
    obtain ⟨j, ds, h1, h2⟩ := o2 a h
    rcases get_set h1 with ⟨_, _, z⟩ | ⟨hne, z⟩
    · cases z
    · refine ⟨j, ds, z, ?_⟩
      unfold wipe
      rw [getD_set_ne hne]
      exact h2
theorem wipe_same {σ σ' : L2.St} : ∀ {vs : List Nat}, σ'.length = σ.length → (∀ i, i ∉ vs → σ'[i]? = σ[i]?) → wipe σ' vs = wipe σ vs := by
  intro vs hl h
  apply List.ext_getElem?
  intro i
  by_cases hi : i ∈ vs
  · have key : ∀ (τ : L2.St) (ws : List Nat), i ∈ ws → (wipe τ ws)[i]? = if i < τ.length then some none else none := by
      intro τ ws
      induction ws with
      | nil => intro z; cases z
      | cons w ws ih =>
        intro z
        show ((wipe τ ws).set w none)[i]? = _
        by_cases e : w = i
        · subst e
          rw [List.getElem?_set_self', ]
          by_cases hlt : w < τ.length
          · rw [if_pos hlt, List.getElem?_eq_getElem (by rw [wipe_length]; exact hlt)]; rfl
          · rw [if_neg hlt, List.getElem?_eq_none (by rw [wipe_length]; omega)]; rfl
        · rw [List.getElem?_set_ne e]
          exact ih ((List.mem_cons.mp z).resolve_left fun q => e q.symm)
    rw [key σ' vs hi, key σ vs hi, hl]
  · have key : ∀ (τ : L2.St) (ws : List Nat), i ∉ ws → (wipe τ ws)[i]? = τ[i]? := by
      intro τ ws
      induction ws with
      | nil => intro _; rfl
      | cons w ws ih =>
        intro z
        show ((wipe τ ws).set w none)[i]? = _
        rw [List.getElem?_set_ne fun q => z (by rw [q]; exact List.mem_cons_self)]
        exact ih fun q => z (List.mem_cons_of_mem _ q)
    rw [key σ' vs hi, key σ vs hi]
    exact h i hi
theorem wipe_wipe {σ : L2.St} {vs : List Nat} : wipe (wipe σ vs) vs = wipe σ vs := wipe_same (wipe_length σ vs) fun i hi => by
  have key : ∀ (ws : List Nat), i ∉ ws → (wipe σ ws)[i]? = σ[i]? := by
    intro ws
    induction ws with
    | nil => intro _; rfl
    | cons w ws ih =>
      intro z
      show ((wipe σ ws).set w none)[i]? = _
      rw [List.getElem?_set_ne fun q => z (by rw [q]; exact List.mem_cons_self)]
      exact ih fun q => z (List.mem_cons_of_mem _ q)
  exact key vs hi
def noEr {α : Type} : Out α → Out α
  | .ok a => .ok a
  | _ => .st
theorem noEr_wp {α : Type} {o : Out α} {Q : α → Prop} {E E' : Er → Env → Prop} (h : (noEr o).wp Q E) : o.wp Q E' := by
  cases o with
  | ok a => exact h
  | er e ρ => exact h.elim
  | st => exact h
/-- the items made, one turn after another -/
def cLoop (h : HT') (t : FT) (f : FE) (vs : List Nat) : List D → Env → Out (List D × Env)
  | [], ρ => .ok ([], ρ)
  | d :: ds, ρ => match h d ρ with
    | none => .st
    | some ρ1 => (noEr (t ρ1)).bind fun b => if b.1 = true then (noEr (f b.2)).bind fun x => (cLoop h t f vs ds (wipeE x.2 vs)).bind fun r => .ok (x.1 :: r.1, r.2) else cLoop h t f vs ds (wipeE b.2 vs)
def fComp (g : FA) (h : HT') (t : FT) (f : FE) (vs : List Nat) : FF := fun ρ => (g ρ).bind fun r => if decide (r.1.length ≤ 100000) then (cLoop h t f vs r.1 (wipeE r.2 vs)).bind fun s => .ok (s.1, wipeE s.2 vs) else .st
abbrev W0 : WX := fun _ _ _ _ => False
def kpv (vs : List Nat) : Nat → Bool := fun i => !vs.contains i
section
variable {X : Cx} {W : WX} {scope : Scope} {tg it elt c : Expr}
def teA (X : Cx) (scope : Scope) (e : Expr) : TE := fun σ H Q => ∀ (s : Shared) (H0 : Hp) (C : Addr) (cl : List (Str × Addr)) (fp : List Addr), tAny (X.blk s H0 scope (compEnvC scope cl C X.env) fp) e σ H Q
def tgA (X : Cx) (scope : Scope) (e : Expr) : TG := fun v σ H Q => ∀ (s : Shared) (H0 : Hp) (C : Addr) (cl : List (Str × Addr)) (fp : List Addr), tAnyG (X.blk s H0 scope (compEnvC scope cl C X.env) fp) e v σ H Q
def ttA (X : Cx) (scope : Scope) (e : Expr) : TT := fun σ H Q => ∀ (s : Shared) (H0 : Hp) (C : Addr) (cl : List (Str × Addr)) (fp : List Addr), tAnyT (X.blk s H0 scope (compEnvC scope cl C X.env) fp) e σ H Q
theorem pe_A (s : Shared) (H0 : Hp) (C : Addr) (cl : List (Str × Addr)) (fp : List Addr) : PE (X.blk s H0 scope (compEnvC scope cl C X.env) fp) elt (teA X scope elt) := ⟨fun pins s' σ H Q I h => pe_any.run pins s' σ H Q I (h s H0 C cl fp)⟩
theorem pg_A (s : Shared) (H0 : Hp) (C : Addr) (cl : List (Str × Addr)) (fp : List Addr) : PG (X.blk s H0 scope (compEnvC scope cl C X.env) fp) tg (tgA X scope tg) := ⟨fun pins s' σ H v u Q I r h => pg_any.run pins s' σ H v u Q I r (h s H0 C cl fp)⟩
theorem pt_A (s : Shared) (H0 : Hp) (C : Addr) (cl : List (Str × Addr)) (fp : List Addr) : PT (X.blk s H0 scope (compEnvC scope cl C X.env) fp) c (ttA X scope c) := ⟨fun pins s' σ H Q I h => pt_any.run pins s' σ H Q I (h s H0 C cl fp)⟩
/-- the tests: none, or one -/
def TtOk (tt : TT) (t : FT) : Prop := ∀ B H ρ σ, Rep B H ρ σ → ∀ Q : Bool → Hp → Prop, (t ρ).wp (AskT B H (Own ρ σ) σ Q) (fun _ _ => False) → tt σ H Q
def tYes2 : FT := fun ρ => .ok (true, ρ)
theorem tt_yes : TtOk tYes tYes2 := fun B H ρ σ R Q hw => hw B H (Go.refl ..) R
theorem tt_one {t : FT} (h : ∀ (s : Shared) (H : Hp) (C : Addr) (cl : List (Str × Addr)) (fp : List Addr), SB (X.blk s H scope (compEnvC scope cl C X.env) fp) W0 c t) : TtOk (ttA X scope c) t := fun B H ρ σ R Q hw s H0 C cl fp =>
  h s H0 C cl fp B H ρ σ R Q (hw.mono (fun _ z => z) fun _ _ z => z.elim)
theorem Go.updNew {B H B' H' : Hp} {o o' : Addr → Prop} {p : Addr} {u : HO} (g : Go B H o B' H' o') (h : o p ∨ H p = none) : Go B H o B' (upd H' p u) o' :=
  ⟨g.ex, fun a v q z => by
    have hne : a ≠ p := fun e => by
      rcases h with k | k
      · exact z (by rw [e]; exact k)
      · rw [e, k] at q; cases q
    rw [upd_ne hne]
    exact g.fr a v q z, g.nb, g.ow, fun a q => by
    by_cases e : a = p
    · rw [e, upd_same] at q; cases q
    · rw [upd_ne e] at q
      exact g.th a q⟩
theorem Rep.updOther {B H : Hp} {ρ : Env} {σ : L2.St} {p : Addr} {u : HO} (R : Rep B H ρ σ) (hn : B p = none) (ho : ¬ Own ρ σ p) : Rep B (upd H p u) ρ σ :=
  ⟨R.ex.mut hn, R.len, fun i s h => by
    have q := R.at_ i s h
    cases s with
    | un => trivial
    | sh d => exact q
    | ow ds =>
      obtain ⟨a, xs, e, n, h2, r⟩ := q
      have hne : a ≠ p := fun z => ho ⟨i, ds, h, by rw [e, z]⟩
      exact ⟨a, xs, e, n, by rw [upd_ne hne]; exact h2, r⟩, R.apart⟩
theorem lc_read {g : FA} {h : HT'} {t : FT} {f : FE} {vs : List Nat} {tt : TT} (hi : SI X W tg it g) (hg : ∀ (s : Shared) (H : Hp) (C : Addr) (cl : List (Str × Addr)) (fp : List Addr), SG (kpv vs) (X.blk s H scope (compEnvC scope cl C X.env) fp) tg h)
    (ht : TtOk tt t) (he : ∀ (s : Shared) (H : Hp) (C : Addr) (cl : List (Str × Addr)) (fp : List Addr), SE (X.blk s H scope (compEnvC scope cl C X.env) fp) W0 elt f)
    (B H : Hp) (ρ : Env) (σ : L2.St) (R : Rep B H ρ σ) (Q : VK) (hw : (fComp g h t f vs ρ).wp (AskF B H (Own ρ σ) σ Q) (AskE X W B H (Own ρ σ) σ)) : tLc (tAnyI X tg it) (tgA X scope tg) tt (teA X scope elt) vs σ H Q := by
  unfold fComp at hw
  rw [wp_bind] at hw
  refine hi B H ρ σ R _ (hw.mono (fun r hr J B1 H1 g1 R1 wk => ?_) fun _ _ z => z)
  obtain ⟨ds, ρ1⟩ := r
  dsimp only at hr g1 R1 wk
  intro D hD
  by_cases cz : decide (ds.length ≤ 100000) = true
  · rw [if_pos cz] at hr
    have hz : ds.length ≤ 100000 := of_decide_eq_true cz
    have hr' : (cLoop h t f vs ds (wipeE ρ1 vs)).wp (fun s => AskF B H (Own ρ σ) σ Q (s.1, wipeE s.2 vs)) (fun _ _ => True) := by
      rw [wp_bind] at hr
      exact hr.mono (fun _ z => z) fun _ _ _ => trivial
    clear hr
    have hD0 : Own ρ σ D ∨ H D = none := g1.back (.inr hD)
    obtain ⟨Rw, ow⟩ := wipe_rep R1 (vs := vs)
    refine ⟨fun i m H' => ∃ B' ρ' acc es, Go B H (Own ρ σ) B' H' (Own ρ' (wipe σ vs)) ∧ Rep B' H' ρ' (wipe σ vs) ∧ Ex B1 B' ∧ B' D = none ∧ H' D = some (.lst acc) ∧ RpL B' acc es ∧ ¬ Own ρ' (wipe σ vs) D ∧ es.length ≤ i ∧ m = ds.length - i ∧ i ≤ ds.length ∧
      (cLoop h t f vs (ds.drop i) ρ').wp (fun s => AskF B H (Own ρ σ) σ Q (es ++ s.1, wipeE s.2 vs)) (fun _ _ => True), ⟨ds.length, B1, wipeE ρ1 vs, [], [], ?_, ?_, Ex.refl B1, R1.ex.none hD, upd_same, .nil, ?_, Nat.le_refl _, rfl, Nat.zero_le _, hr'⟩, ?_⟩
    · exact (⟨g1.ex, g1.fr, g1.nb, fun a z => g1.ow a (ow a z), g1.th⟩ : Go B H (Own ρ σ) B1 H1 (Own (wipeE ρ1 vs) (wipe σ vs))).updNew hD0
    · exact Rw.updOther (R1.ex.none hD) (Rw.not_own hD)
    · exact Rw.not_own hD
    · rintro i m H' ⟨B', ρ', acc, es, g', R', e', nD, hDl, rl, oD, hle, rfl, hi', hw'⟩
      by_cases hlt : i < ds.length
      · obtain ⟨go, yl⟩ := wk.item i H' ds[i] (e'.trans R'.ex) (List.getElem?_eq_getElem hlt)
        rw [List.drop_eq_getElem_cons hlt] at hw'
        unfold cLoop at hw'
        cases qh : h ds[i] ρ' with
        | none => rw [qh] at hw'; exact hw'.elim
        | some ρ2 =>
          rw [qh] at hw'
          dsimp only at hw'
          rw [wp_bind] at hw'
          refine .inr ⟨go, fun H3 => ∃ B3 ρ3 acc3 es3, Go B H (Own ρ σ) B3 H3 (Own ρ3 (wipe σ vs)) ∧ Rep B3 H3 ρ3 (wipe σ vs) ∧ Ex B1 B3 ∧ B3 D = none ∧ H3 D = some (.lst acc3) ∧ RpL B3 acc3 es3 ∧ ¬ Own ρ3 (wipe σ vs) D ∧ es3.length ≤ i + 1 ∧
            (cLoop h t f vs (ds.drop (i + 1)) ρ3).wp (fun s => AskF B H (Own ρ σ) σ Q (es3 ++ s.1, wipeE s.2 vs)) (fun _ _ => True),
            fun H3 ⟨B3, ρ3, acc3, es3, a1, a2, a3, a4, a5, a6, a7, a8, a9⟩ => ⟨ds.length - (i + 1), by omega, B3, ρ3, acc3, es3, a1, a2, a3, a4, a5, a6, a7, a8, rfl, hlt, a9⟩, fun x H2 y => ?_⟩
          obtain ⟨B2, R2, g2, r2⟩ := Yld.rep (o := Own ρ' (wipe σ vs)) R' ((yl x H2 y).mono e')
          have nD2 : B2 D = none := g2.nb D _ hDl nD oD
          have hD2 : H2 D = some (.lst acc) := g2.fr D _ hDl oD
          intro s0 H00 C0 cl0 fp0
          refine hg s0 H00 C0 cl0 fp0 B2 H2 ρ' (wipe σ vs) x ds[i] ρ2 R2 r2 qh _ fun σ2 k2 R3 o2 l2 => ?_
          have ws : wipe σ2 vs = wipe σ vs := by
            have := wipe_same (σ := wipe σ vs) (σ' := σ2) (vs := vs) l2 fun j hj => k2 j (by unfold kpv; simp [hj])
            rw [this, wipe_wipe]
          have oD2 : ¬ Own ρ2 σ2 D := fun z => oD (o2 D z)
          have g3 : Go B H (Own ρ σ) B2 H2 (Own ρ2 σ2) := g'.trans ⟨g2.ex, g2.fr, g2.nb, fun a z => .inl (o2 a z), g2.th⟩
          refine ⟨ws, ht B2 H2 ρ2 σ2 R3 _ (noEr_wp (hw'.mono (fun b hb B4 H4 g4 R4 => ?_) fun _ _ _ => trivial))⟩
          obtain ⟨k, ρ4⟩ := b
          dsimp only at hb g4 R4 ⊢
          have nD4 : B4 D = none := g4.nb D _ hD2 nD2 oD2
          have hD4 : H4 D = some (.lst acc) := g4.fr D _ hD2 oD2
          have oD4 : ¬ Own ρ4 σ2 D := fun z => by
            rcases g4.ow D z with q | q
            · exact oD2 q
            · rw [hD2] at q; cases q
          cases k with
          | false =>
            rw [if_neg Bool.false_ne_true]
            obtain ⟨R5, o5⟩ := wipe_rep R4 (vs := vs)
            rw [ws] at R5 o5
            have g5 : Go B H (Own ρ σ) B4 H4 (Own (wipeE ρ4 vs) (wipe σ vs)) := (g3.trans g4).trans ⟨Ex.refl _, fun _ _ h _ => h, fun _ _ _ h _ => h, fun a z => .inl (o5 a z), fun _ h => h⟩
            rw [if_neg Bool.false_ne_true] at hb
            exact ⟨B4, wipeE ρ4 vs, acc, es, g5, R5, (e'.trans g2.ex).trans g4.ex, nD4, hD4, rl.mono (g2.ex.trans g4.ex), fun z => oD4 (o5 D z), by omega, hb⟩
          | true =>
            rw [if_pos rfl]
            rw [if_pos rfl, wp_bind] at hb
            intro s1 H01 C1 cl1 fp1
            refine he s1 H01 C1 cl1 fp1 B4 H4 ρ4 σ2 R4 _ (noEr_wp (hb.mono (fun xx hx B6 H6 v g6 R6 r6 => ?_) fun _ _ _ => trivial))
            obtain ⟨d, ρ6⟩ := xx
            dsimp only at hx g6 R6 r6
            have nD6 : B6 D = none := g6.nb D _ hD4 nD4 oD4
            have hD6 : H6 D = some (.lst acc) := g6.fr D _ hD4 oD4
            have oD6 : ¬ Own ρ6 σ2 D := fun z => by
              rcases g6.ow D z with q | q
              · exact oD4 q
              · rw [hD4] at q; cases q
            obtain ⟨R7, o7⟩ := wipe_rep R6 (vs := vs)
            rw [ws] at R7 o7
            have g7 : Go B H (Own ρ σ) B6 H6 (Own (wipeE ρ6 vs) (wipe σ vs)) := ((g3.trans g4).trans g6).trans ⟨Ex.refl _, fun _ _ h _ => h, fun _ _ _ h _ => h, fun a z => .inl (o7 a z), fun _ h => h⟩
            have oD7 : ¬ Own (wipeE ρ6 vs) (wipe σ vs) D := fun z => oD6 (o7 D z)
            have rl7 := rl.mono (g2.ex.trans (g4.ex.trans g6.ex))
            refine ⟨acc, hD6, lt_line (by rw [rl.length]; omega), B6, wipeE ρ6 vs, acc ++ [v], es ++ [d], g7.updNew hD0, R7.updOther nD6 oD7, ((e'.trans g2.ex).trans g4.ex).trans g6.ex, nD6, upd_same, rl7.append (.cons r6 .nil), oD7, by rw [List.length_append]; simp only [List.length_singleton]; omega, ?_⟩
            rw [wp_bind] at hx
            refine hx.mono (fun s hs => ?_) fun _ _ z => z
            have e1 : es ++ [d] ++ s.1 = es ++ (d :: s.1) := by simp
            rw [e1]
            exact hs
      · have ei : i = ds.length := by omega
        subst ei
        rw [List.drop_length] at hw'
        refine .inl ⟨wk.done _ H' (e'.trans R'.ex) rfl, ?_⟩
        obtain ⟨R8, o8⟩ := wipe_back R'
        have hw2 : AskF B H (Own ρ σ) σ Q (es ++ [], wipeE ρ' vs) := hw'
        rw [List.append_nil] at hw2
        exact hw2 B' H' D acc (g'.trans ⟨Ex.refl _, fun _ _ h _ => h, fun _ _ _ h _ => h, fun a z => .inl (o8 a z), fun _ h => h⟩) R8 nD hDl rl (fun z => oD (o8 D z)) hD0
  · rw [if_neg cz] at hr; exact hr.elim
end
end KV
set_option Elab.async false
set_option linter.all false
set_option autoImplicit false
set_option maxRecDepth 100000
set_option maxHeartbeats 2000000
namespace KV
open PySem PySem.Spec PyProof.Rows L2
variable [KK]

/-! ### comprehensions as expressions -/
section
variable {kp : Nat → Bool} {X : Cx} {W : WX} {scope : Scope} {tg it elt : Expr} {ifs : List Expr} {own : List (Str × Nat)}
theorem sf_lc {pos : Pos} {g : FA} {h : HT'} {t : FT} {f : FE} {tt : TT} (hc : X.calm = true) (hN : X.N.Nodup) (ok : BlkOk X.N X.env.scope scope own) (hi : SI X W tg it g)
    (hg : ∀ (s : Shared) (H : Hp) (C : Addr) (cl : List (Str × Addr)) (fp : List Addr), SG (kpv (own.map (·.2))) (X.blk s H scope (compEnvC scope cl C X.env) fp) tg h)
    (hp : ∀ (s : Shared) (H : Hp) (C : Addr) (cl : List (Str × Addr)) (fp : List Addr), PTs (X.blk s H scope (compEnvC scope cl C X.env) fp) ifs tt) (ht : TtOk tt t)
    (he : ∀ (s : Shared) (H : Hp) (C : Addr) (cl : List (Str × Addr)) (fp : List Addr), SE (X.blk s H scope (compEnvC scope cl C X.env) fp) W0 elt f) (hs : ∀ x, foldedSetIterable it X.env x = pure x := by intro _; rfl) :
    SF X W (.ListComp elt [⟨tg, it, ifs, 0⟩] scope pos) (fComp g h t f (own.map (·.2))) :=
  fun B H ρ σ R Q hw => ⟨_, pe_lc hc hN pi_any ok pg_A hp pe_A hs, lc_read hi hg ht he B H ρ σ R Q hw⟩
theorem ss_setLc {pos spos py : Pos} {y : Str} {i : Nat} {g : FA} {h : HT'} {t : FT} {f : FE} {tt : TT} (hc : X.calm = true) (hN : X.N.Nodup) (hy : X.N[i]? = some y) (hyl : X.env.scope.names.lookup y = some .local)
    (hsw : swapsWith (.ListComp elt [⟨tg, it, ifs, 0⟩] scope pos) (some (.Name y py)) spos.line X.env = pure true) (ok : BlkOk X.N X.env.scope scope own) (hi : SI X W tg it g)
    (hg : ∀ (s : Shared) (H : Hp) (C : Addr) (cl : List (Str × Addr)) (fp : List Addr), SG (kpv (own.map (·.2))) (X.blk s H scope (compEnvC scope cl C X.env) fp) tg h)
    (hp : ∀ (s : Shared) (H : Hp) (C : Addr) (cl : List (Str × Addr)) (fp : List Addr), PTs (X.blk s H scope (compEnvC scope cl C X.env) fp) ifs tt) (ht : TtOk tt t)
    (he : ∀ (s : Shared) (H : Hp) (C : Addr) (cl : List (Str × Addr)) (fp : List Addr), SE (X.blk s H scope (compEnvC scope cl C X.env) fp) W0 elt f) (hk : kp i = false) (hs : ∀ x, foldedSetIterable it X.env x = pure x := by intro _; rfl) :
    SS kp X W (.Assign [.Name y py] (.ListComp elt [⟨tg, it, ifs, 0⟩] scope pos) spos) (sSetF i (fComp g h t f (own.map (·.2)))) :=
  ss_setF' (ps_setLc hc hN hy hyl hsw pi_any ok pg_A hp pe_A hs) (fun B H ρ σ R Q hw => lc_read hi hg ht he B H ρ σ R Q hw) hk
end

/-! ### own functions -/
abbrev Fn := List Sl → Out (Sl × List Sl)
/-- what a function that follows F promises -/
def SpF (mg : Str → Option Value) (F : Fn) (n : Nat) : Sp := fun vs H Q E => vs.length = n ∧ ∃ (B : Hp) (as : List Sl), Rep B H as (vs.map some) ∧
  (F as).wp (fun r => ∀ B' H' v, Go B H (Own as (vs.map some)) B' H' (Own r.2 (vs.map some)) → Rep B' H' r.2 (vs.map some) → RetR (Own as (vs.map some)) H B' H' r.2 (vs.map some) v r.1 → Q v H')
    (fun er _ => ∀ B' H' cls dd, Go B H (Own as (vs.map some)) B' H' (fun _ => False) → Ex B' H' → ErR mg er cls dd B' H' → E cls dd H')
/-- an argument: a value, or a slot whose list the callee may change -/
inductive Arg where
  | v (d : D) | s (i : Nat)
abbrev FAr := Env → Out (List Arg × Env)
def RpA (B : Hp) (σ : L2.St) (v : V) : Arg → Prop
  | .v d => Rp B v d
  | .s i => σ[i]? = some (some v)
inductive RpAs (B : Hp) (σ : L2.St) : List V → List Arg → Prop
  | nil : RpAs B σ [] []
  | cons {v : V} {vs : List V} {a : Arg} {as : List Arg} : RpA B σ v a → RpAs B σ vs as → RpAs B σ (v :: vs) (a :: as)
theorem RpA.mono {B B' : Hp} {σ : L2.St} {v : V} {a : Arg} (e : Ex B B') (h : RpA B σ v a) : RpA B' σ v a := by
  cases a with
  | v d => exact Rp.mono e h
  | s i => exact h
theorem RpAs.mono {B B' : Hp} {σ : L2.St} (e : Ex B B') : ∀ {vs : List V} {as : List Arg}, RpAs B σ vs as → RpAs B' σ vs as
  | _, _, .nil => .nil
  | _, _, .cons h t => .cons (h.mono e) (RpAs.mono e t)
theorem RpAs.length {B : Hp} {σ : L2.St} : ∀ {vs : List V} {as : List Arg}, RpAs B σ vs as → vs.length = as.length
  | _, _, .nil => rfl
  | _, _, .cons _ t => congrArg (· + 1) (RpAs.length t)
theorem RpAs.get {B : Hp} {σ : L2.St} : ∀ {vs : List V} {as : List Arg} {j : Nat} {a : Arg}, RpAs B σ vs as → as[j]? = some a → ∃ v, vs[j]? = some v ∧ RpA B σ v a
  | _, _, _, _, .nil, e => by simp at e
  | _, _, 0, _, .cons r _, e => by simp at e; subst e; exact ⟨_, rfl, r⟩
  | _, _, j + 1, a, .cons _ t, e => by
    obtain ⟨v, h1, h2⟩ := RpAs.get (j := j) (a := a) t (by simpa using e)
    exact ⟨v, by simpa using h1, h2⟩
section
variable {kp : Nat → Bool} {X : Cx} {W : WX} {e a b c : Expr} {es : List Expr} {f g : FE} {fr : FAr}
def SAr (X : Cx) (W : WX) (es : List Expr) (f : FAr) : Prop := ∀ B H ρ σ, Rep B H ρ σ → ∀ Q : List V → Hp → Prop,
  (f ρ).wp (fun r => ∀ B' H' vs, Go B H (Own ρ σ) B' H' (Own r.2 σ) → Rep B' H' r.2 σ → RpAs B' σ vs r.1 → Q vs H') (AskE X W B H (Own ρ σ) σ) → tAnyA X es σ H Q
def arNil : FAr := fun ρ => .ok ([], ρ)
def arV (f : FE) (g : FAr) : FAr := fun ρ => (f ρ).bind fun r => (g r.2).bind fun s => .ok (.v r.1 :: s.1, s.2)
def arS (i : Nat) (g : FAr) : FAr := fun ρ => match ρ[i]? with
  | some (.ow _) => (g ρ).bind fun s => .ok (.s i :: s.1, s.2)
  | _ => .st
theorem sar_nil : SAr X W [] arNil := fun B H ρ σ R Q hw => ⟨_, pa_nil, hw B H [] (Go.refl ..) R .nil⟩
theorem sar_v (ha : SE X W a f) (hr : SAr X W es fr) (hs : starEach (a :: es) X.env = (false, eval a X.env) :: starEach es X.env := by rfl) : SAr X W (a :: es) (arV f fr) := by
  intro B H ρ σ R Q hw
  refine ⟨_, pa_cons pe_any pa_any hs, ?_⟩
  unfold arV at hw
  rw [wp_bind] at hw
  refine ha B H ρ σ R _ (hw.mono (fun r hr1 B1 H1 v g1 R1 r1 => ?_) fun _ _ z => z)
  obtain ⟨d, ρ1⟩ := r
  dsimp only at hr1 g1 R1 r1
  rw [wp_bind] at hr1
  refine hr B1 H1 ρ1 σ R1 _ (hr1.mono (fun s hs1 B2 H2 vs g2 R2 r2 => ?_) fun _ _ z => z.ext g1)
  exact hs1 B2 H2 _ (g1.trans g2) R2 (.cons (show RpA B2 σ v (.v d) from r1.mono g2.ex) r2)
theorem sar_s {i : Nat} (ha : PE X a (tVar i)) (hr : SAr X W es fr) (hs : starEach (a :: es) X.env = (false, eval a X.env) :: starEach es X.env := by rfl) : SAr X W (a :: es) (arS i fr) := by
  intro B H ρ σ R Q hw
  refine ⟨_, pa_cons ha pa_any hs, ?_⟩
  unfold arS at hw
  cases q : ρ[i]? with
  | none => rw [q] at hw; exact hw.elim
  | some sl =>
  rw [q] at hw
  cases sl with
  | un => exact hw.elim
  | sh d => exact hw.elim
  | ow ds =>
    obtain ⟨p, xs, e1, n, hp, r⟩ := R.at_ i _ q
    refine ⟨_, getD_some e1, ?_⟩
    dsimp only at hw
    rw [wp_bind] at hw
    refine hr B H ρ σ R _ (hw.mono (fun s hs1 B2 H2 vs g2 R2 r2 => ?_) fun _ _ z => z)
    exact hs1 B2 H2 _ g2 R2 (.cons (show RpA B2 σ _ (.s i) from getD_some e1) r2)

/-! the slots that a callee gets, and what it gives back -/
def slotsOf (as : List Arg) (ρ : Env) : List Sl := as.map fun a => match a with
  | .v d => .sh d
  | .s i => (ρ[i]?).getD .un
def argSlots : List Arg → List Nat
  | [] => []
  | .v _ :: r => argSlots r
  | .s i :: r => i :: argSlots r
def putBack : List Arg → List Sl → Env → Env
  | .s i :: as, b :: bs, ρ => putBack as bs (ρ.set i b)
  | .v _ :: as, _ :: bs, ρ => putBack as bs ρ
  | _, _, ρ => ρ
theorem putBack_other : ∀ {as : List Arg} {bs : List Sl} {ρ : Env} {i : Nat}, i ∉ argSlots as → (putBack as bs ρ)[i]? = ρ[i]?
  | [], _, _, _, _ => rfl
  | .v _ :: as, [], _, _, _ => rfl
  | .v _ :: as, b :: bs, ρ, i, h => putBack_other (as := as) (bs := bs) (ρ := ρ) h
  | .s j :: as, [], _, _, _ => rfl
  | .s j :: as, b :: bs, ρ, i, h => by
    have h2 : i ∉ argSlots as := fun z => h (List.mem_cons_of_mem _ z)
    have h1 : j ≠ i := fun z => h (by rw [z]; exact List.mem_cons_self)
    show (putBack as bs (ρ.set j b))[i]? = _
    rw [putBack_other h2, List.getElem?_set_ne h1]
theorem putBack_len : ∀ {as : List Arg} {bs : List Sl} {ρ : Env}, (putBack as bs ρ).length = ρ.length
  | [], _, _ => rfl
  | .v _ :: as, [], _ => rfl
  | .v _ :: as, b :: bs, ρ => putBack_len (as := as) (bs := bs) (ρ := ρ)
  | .s j :: as, [], _ => rfl
  | .s j :: as, b :: bs, ρ => by
    show (putBack as bs (ρ.set j b)).length = _
    rw [putBack_len, List.length_set]
/-- a slot that was handed on holds what came back at its place -/
theorem putBack_at : ∀ {as : List Arg} {bs : List Sl} {ρ : Env} {i : Nat} {s : Sl}, (argSlots as).Nodup → i ∈ argSlots as → as.length = bs.length → (putBack as bs ρ)[i]? = some s → ∃ j : Nat, as[j]? = some (.s i) ∧ bs[j]? = some s
  | [], _, _, _, _, _, h, _, _ => by cases h
  | .v _ :: as, [], _, _, _, _, _, h, _ => by cases h
  | .v _ :: as, b :: bs, ρ, i, s, nd, h, hl, hs => by
    obtain ⟨j, h1, h2⟩ := putBack_at (as := as) (bs := bs) (ρ := ρ) nd h (Nat.succ.inj hl) hs
    exact ⟨j + 1, by simpa using h1, by simpa using h2⟩
  | .s k :: as, [], _, _, _, _, _, h, _ => by cases h
  | .s k :: as, b :: bs, ρ, i, s, nd, h, hl, hs => by
    have nd' : (k :: argSlots as).Nodup := nd
    obtain ⟨nk, nd2⟩ := List.nodup_cons.mp nd'
    by_cases e : k = i
    · subst e
      have hs' : (putBack as bs (ρ.set k b))[k]? = some s := hs
      rw [putBack_other nk] at hs'
      rcases get_set hs' with ⟨_, _, z⟩ | ⟨z, _⟩
      · exact ⟨0, rfl, by rw [← z]; rfl⟩
      · exact absurd rfl z
    · have h2 : i ∈ argSlots as := (List.mem_cons.mp h).resolve_left fun z => e z.symm
      obtain ⟨j, h3, h4⟩ := putBack_at (as := as) (bs := bs) (ρ := ρ.set k b) nd2 h2 (Nat.succ.inj hl) hs
      exact ⟨j + 1, by simpa using h3, by simpa using h4⟩
theorem mem_argSlots : ∀ {as : List Arg} {j i : Nat}, as[j]? = some (.s i) → i ∈ argSlots as
  | .v _ :: as, 0, i, h => by cases h
  | .v _ :: as, j + 1, i, h => mem_argSlots (as := as) (j := j) (by simpa using h)
  | .s k :: as, 0, i, h => by
    have : k = i := by injection (show some (Arg.s k) = some (Arg.s i) from h) with h; injection h
    rw [this]
    exact List.mem_cons_self
  | .s k :: as, j + 1, i, h => List.mem_cons_of_mem _ (mem_argSlots (as := as) (j := j) (by simpa using h))
theorem argSlots_inj : ∀ {as : List Arg} {j k i : Nat}, (argSlots as).Nodup → as[j]? = some (.s i) → as[k]? = some (.s i) → j = k
  | [], j, k, i, _, h, _ => by simp at h
  | .v _ :: as, 0, k, i, _, h, _ => by cases h
  | .v _ :: as, j + 1, 0, i, _, _, h => by cases h
  | .v _ :: as, j + 1, k + 1, i, nd, h1, h2 => congrArg (· + 1) (argSlots_inj (as := as) nd (by simpa using h1) (by simpa using h2))
  | .s m :: as, j, k, i, nd, h1, h2 => by
    obtain ⟨nk, nd2⟩ := List.nodup_cons.mp (show (m :: argSlots as).Nodup from nd)
    cases j with
    | zero =>
      have e : m = i := by injection (show some (Arg.s m) = some (Arg.s i) from h1) with h; injection h
      cases k with
      | zero => rfl
      | succ k => exact absurd (by rw [e]; exact mem_argSlots (as := as) (j := k) (by simpa using h2)) nk
    | succ j =>
      cases k with
      | zero =>
        have e : m = i := by injection (show some (Arg.s m) = some (Arg.s i) from h2) with h; injection h
        exact absurd (by rw [e]; exact mem_argSlots (as := as) (j := j) (by simpa using h1)) nk
      | succ k => exact congrArg (· + 1) (argSlots_inj (as := as) nd2 (by simpa using h1) (by simpa using h2))

def AskC (B H : Hp) (o : Addr → Prop) (σ : L2.St) (Q : VK) (r : Sl × Env) : Prop := ∀ B' H' v, Go B H o B' H' (Own r.2 σ) → Rep B' H' r.2 σ → RetR o H B' H' r.2 σ v r.1 → Q v H'
def SC (X : Cx) (W : WX) (e : Expr) (f : Env → Out (Sl × Env)) : Prop := ∀ B H ρ σ, Rep B H ρ σ → ∀ Q : VK, (f ρ).wp (AskC B H (Own ρ σ) σ Q) (AskE X W B H (Own ρ σ) σ) → tAny X e σ H Q
def noUn : Arg → Env → Bool
  | .v _, _ => true
  | .s i, ρ => match ρ[i]? with | some (.ow _) => true | _ => false
/-- f(..): F on the slots -/
def cCall (F : Fn) (n : Nat) (fr : FAr) : Env → Out (Sl × Env) := fun ρ => (fr ρ).bind fun r =>
  if decide (r.1.length = n) && decide ((argSlots r.1).Nodup) then match F (slotsOf r.1 r.2) with
    | .ok s => if decide (s.2.length = n) then .ok (s.1, putBack r.1 s.2 r.2) else .st
    | .er e _ => .er e (putBack r.1 (List.replicate n .un) r.2)
    | .st => .st
  else .st
theorem sc_callP {F : Fn} {n : Nat} (hpa : ∀ τ, PassesAt (L2.CX X.prog X.w) X τ (WE W τ)) (hpe : ∀ (E : L2.St → XK) (t : TA), (∀ σ, PassesAt (L2.CX X.prog X.w) X σ (E σ)) → PA X es t → PE X e (tCallS (SpF X.mg F n) E t)) (h : SAr X W es fr) : SC X W e (cCall F n fr) := by
  intro B H ρ σ R Q hw
  refine ⟨_, hpe (WE W) _ hpa pa_any, ?_⟩
  unfold cCall at hw
  rw [wp_bind] at hw
  refine h B H ρ σ R _ (hw.mono (fun r hr B1 H1 vs g1 R1 r1 => ?_) fun _ _ z => z)
  obtain ⟨as, ρ1⟩ := r
  dsimp only at hr g1 R1 r1
  by_cases c : (decide (as.length = n) && decide ((argSlots as).Nodup)) = true
  · rw [if_pos c] at hr
    obtain ⟨c1, c2⟩ := Bool.and_eq_true_iff.mp c
    have hl := of_decide_eq_true c1
    have nd := of_decide_eq_true c2
    have hvl : vs.length = as.length := r1.length
    have sl_at : ∀ {j : Nat} {s : Sl}, (slotsOf as ρ1)[j]? = some s → ∃ a v, as[j]? = some a ∧ vs[j]? = some v ∧ RpA B1 σ v a ∧ s = (match a with | .v d => .sh d | .s i => (ρ1[i]?).getD .un) := fun {j s} q => by
      unfold slotsOf at q
      rw [List.getElem?_map] at q
      cases ea : as[j]? with
      | none => rw [ea] at q; cases q
      | some a =>
        rw [ea] at q
        obtain ⟨v, hv, rv⟩ := r1.get ea
        exact ⟨a, v, rfl, hv, rv, (Option.some.inj q).symm⟩
    have ow_at : ∀ {j : Nat} {ds : List D}, (slotsOf as ρ1)[j]? = some (Sl.ow ds) → ∃ i v, as[j]? = some (.s i) ∧ vs[j]? = some v ∧ σ[i]? = some (some v) ∧ ρ1[i]? = some (Sl.ow ds) := fun {j ds} q => by
      obtain ⟨a, v, h1, h2, h3, h4⟩ := sl_at q
      cases a with
      | v d => cases h4
      | s i =>
        refine ⟨i, v, h1, h2, h3, ?_⟩
        cases e : ρ1[i]? with
        | none =>
          dsimp only at h4
          rw [e] at h4
          cases h4
        | some s =>
          dsimp only at h4
          rw [e] at h4
          exact congrArg some h4.symm
    have vget : ∀ {j : Nat} {v : V}, vs[j]? = some v → ((vs.map some)[j]?).getD none = some v := fun {j v} q => by
      rw [List.getElem?_map, q]
      rfl
    have Rc : Rep B1 H1 (slotsOf as ρ1) (vs.map some) := by
      refine ⟨R1.ex, by unfold slotsOf; rw [List.length_map, List.length_map, hvl], fun j s q => ?_, fun j k ds es hjk hj hk => ?_⟩
      · obtain ⟨a, v, h1, h2, h3, h4⟩ := sl_at q
        rw [vget h2]
        cases a with
        | v d => rw [h4]; exact ⟨v, rfl, h3⟩
        | s i =>
          have hv : σ[i]? = some (some v) := h3
          cases e : ρ1[i]? with
          | none => rw [h4]; dsimp only; rw [e]; trivial
          | some s' =>
            rw [h4]
            dsimp only
            rw [e]
            have q2 := R1.at_ i s' e
            rw [hv] at q2
            exact q2
      · obtain ⟨i, v, h1, h2, h3, h4⟩ := ow_at hj
        obtain ⟨i', v', h1', h2', h3', h4'⟩ := ow_at hk
        rw [vget h2, vget h2']
        have hne : i ≠ i' := fun z => hjk (argSlots_inj nd h1 (by rw [z]; exact h1'))
        have q := R1.apart i i' ds es hne h4 h4'
        rw [h3, h3'] at q
        exact q
    have ownc : ∀ {p : Addr}, Own (slotsOf as ρ1) (vs.map some) p → ∃ i ds, i ∈ argSlots as ∧ ρ1[i]? = some (Sl.ow ds) ∧ (σ[i]?).getD none = some (V.ref p) := fun {p} ⟨j, ds, h1, h2⟩ => by
      obtain ⟨i, v, h3, h4, h5, h6⟩ := ow_at h1
      rw [vget h4] at h2
      exact ⟨i, ds, mem_argSlots h3, h6, by rw [h5]; exact h2⟩
    have oc1 : ∀ {p : Addr}, Own (slotsOf as ρ1) (vs.map some) p → Own ρ1 σ p := fun {p} z => by
      obtain ⟨i, ds, _, h1, h2⟩ := ownc z
      exact ⟨i, ds, h1, h2⟩
    -- a slot not handed on is kept
    have other : ∀ {B' H' : Hp} {o' : Addr → Prop} {i : Nat} {s : Sl}, Go B1 H1 (Own (slotsOf as ρ1) (vs.map some)) B' H' o' → i ∉ argSlots as → ρ1[i]? = some s → RpS B' H' ((σ[i]?).getD none) s ∧ ∀ p ds, s = .ow ds → (σ[i]?).getD none = some (V.ref p) → ¬ Own (slotsOf as ρ1) (vs.map some) p := fun {B' H' o' i s} g hi q => by
      have q2 := R1.at_ i s q
      cases s with
      | un => exact ⟨trivial, fun p ds z => by cases z⟩
      | sh d =>
        obtain ⟨v, e1, r⟩ := q2
        exact ⟨⟨v, e1, r.mono g.ex⟩, fun p ds z => by cases z⟩
      | ow ds =>
        obtain ⟨p, xs, e1, n1, h1, r⟩ := q2
        have no : ¬ Own (slotsOf as ρ1) (vs.map some) p := fun z => by
          obtain ⟨i2, ds2, h2, h3, h4⟩ := ownc z
          have hne : i ≠ i2 := fun y => hi (by rw [y]; exact h2)
          exact R1.apart i i2 ds ds2 hne q h3 (by rw [e1, h4])
        refine ⟨⟨p, xs, e1, g.nb p _ h1 n1 no, g.fr p _ h1 no, r.mono g.ex⟩, fun p' ds' _ y => ?_⟩
        rw [e1] at y
        cases y
        exact no
    refine ⟨by rw [hvl]; exact hl, B1, slotsOf as ρ1, Rc, ?_⟩
    cases qF : F (slotsOf as ρ1) with
    | st => rw [qF] at hr; exact hr.elim
    | er er bs =>
      rw [qF] at hr
      intro B' H' cls dd g' ex' er'
      have hr' : AskE X W B H (Own ρ σ) σ er (putBack as (List.replicate n .un) ρ1) := hr
      have hun : ∀ {i : Nat} {s : Sl}, (putBack as (List.replicate n .un) ρ1)[i]? = some s → (s = .un) ∨ (i ∉ argSlots as ∧ ρ1[i]? = some s) := fun {i s} q => by
        by_cases hi : i ∈ argSlots as
        · obtain ⟨j, h1, h2⟩ := putBack_at nd hi (by rw [List.length_replicate]; exact hl) q
          rw [List.getElem?_replicate] at h2
          split at h2
          · cases h2; exact .inl rfl
          · cases h2
        · rw [putBack_other hi] at q
          exact .inr ⟨hi, q⟩
      refine hr' B' H' cls dd (g1.trans ⟨g'.ex, fun a u q z => g'.fr a u q fun y => z (oc1 y), fun a u q hb z => g'.nb a u q hb fun y => z (oc1 y), fun a z => ?_, g'.th⟩) ⟨ex', by rw [putBack_len]; exact R1.len, fun i s q => ?_, fun i k ds es hik hi hk => ?_⟩ er'
      · obtain ⟨i, ds, h1, h2⟩ := z
        rcases hun h1 with y | ⟨_, y⟩
        · cases y
        · exact .inl ⟨i, ds, y, h2⟩
      · rcases hun q with y | ⟨h1, y⟩
        · subst y; trivial
        · exact (other g' h1 y).1
      · rcases hun hi with y | ⟨_, y⟩
        · cases y
        · rcases hun hk with z | ⟨_, z⟩
          · cases z
          · exact R1.apart i k ds es hik y z
    | ok s =>
      obtain ⟨rs, bs⟩ := s
      rw [qF] at hr
      dsimp only at hr
      by_cases cl : decide (bs.length = n) = true
      · rw [if_pos cl] at hr
        have hbl := of_decide_eq_true cl
        have hr' : AskC B H (Own ρ σ) σ Q (rs, putBack as bs ρ1) := hr
        intro B' H' v g' R' ret
        dsimp only at g' R' ret
        have hpb : ∀ {i : Nat} {s : Sl}, (putBack as bs ρ1)[i]? = some s → (∃ (j : Nat) (w : V), as[j]? = some (Arg.s i) ∧ bs[j]? = some s ∧ vs[j]? = some w ∧ σ[i]? = some (some w)) ∨ (i ∉ argSlots as ∧ ρ1[i]? = some s) := fun {i s} q => by
          by_cases hi : i ∈ argSlots as
          · obtain ⟨j, h1, h2⟩ := putBack_at nd hi (by rw [hbl]; exact hl) q
            obtain ⟨w, h3, h4⟩ := r1.get h1
            exact .inl ⟨j, w, h1, h2, h3, h4⟩
          · rw [putBack_other hi] at q
            exact .inr ⟨hi, q⟩
        have own' : ∀ {p : Addr}, Own (putBack as bs ρ1) σ p → Own bs (vs.map some) p ∨ ∃ i ds, i ∉ argSlots as ∧ ρ1[i]? = some (Sl.ow ds) ∧ (σ[i]?).getD none = some (V.ref p) := fun {p} ⟨i, ds, h1, h2⟩ => by
          rcases hpb h1 with ⟨j, w, h3, h4, h5, h6⟩ | ⟨h3, h4⟩
          · rw [h6] at h2
            exact .inl ⟨j, ds, h4, by rw [vget h5]; exact h2⟩
          · exact .inr ⟨i, ds, h3, h4, h2⟩
        have gg : Go B1 H1 (Own ρ1 σ) B' H' (Own (putBack as bs ρ1) σ) := ⟨g'.ex, fun a u q z => g'.fr a u q fun y => z (oc1 y), fun a u q hb z => g'.nb a u q hb fun y => z (oc1 y), fun a z => by
          rcases own' z with y | ⟨i, ds, _, h1, h2⟩
          · rcases g'.ow a y with y | y
            · exact .inl (oc1 y)
            · exact .inr y
          · exact .inl ⟨i, ds, h1, h2⟩, g'.th⟩
        have Rn : Rep B' H' (putBack as bs ρ1) σ := by
          refine ⟨R'.ex, by rw [putBack_len]; exact R1.len, fun i s q => ?_, fun i k ds es hik hi hk => ?_⟩
          · rcases hpb q with ⟨j, w, h3, h4, h5, h6⟩ | ⟨h3, h4⟩
            · have q2 := R'.at_ j s h4
              rw [vget h5] at q2
              rw [h6]
              exact q2
            · exact (other g' h3 h4).1
          · rcases hpb hi with ⟨j, w, h3, h4, h5, h6⟩ | ⟨h3, h4⟩
            · rcases hpb hk with ⟨j', w', h3', h4', h5', h6'⟩ | ⟨h3', h4'⟩
              · have hjk : j ≠ j' := fun z => hik (by rw [z, h3'] at h3; have h3 := Arg.s.inj (Option.some.inj h3); exact h3.symm)
                have q := R'.apart j j' ds es hjk h4 h4'
                rw [vget h5, vget h5'] at q
                rw [h6, h6']
                exact q
              · intro z
                have q3 := R'.at_ j _ h4
                obtain ⟨p, xs, e1, n1, hp1, _⟩ := q3
                rw [vget h5] at e1
                have e2 : (σ[k]?).getD none = some (V.ref p) := by rw [← z, h6]; exact e1
                obtain ⟨q4, q5⟩ := other g' h3' h4'
                have no := q5 p es rfl e2
                obtain ⟨p', xs', e3, n3, h3'', _⟩ := R1.at_ k _ h4'
                rw [e2] at e3
                cases e3
                rcases g'.ow p ⟨j, ds, h4, by rw [vget h5]; exact e1⟩ with y | y
                · exact no y
                · rw [h3''] at y; cases y
            · rcases hpb hk with ⟨j', w', h3', h4', h5', h6'⟩ | ⟨h3', h4'⟩
              · intro z
                obtain ⟨p, xs, e1, n1, hp1, _⟩ := R'.at_ j' _ h4'
                rw [vget h5'] at e1
                have e2 : (σ[i]?).getD none = some (V.ref p) := by rw [z, h6']; exact e1
                obtain ⟨q4, q5⟩ := other g' h3 h4
                have no := q5 p ds rfl e2
                obtain ⟨p', xs', e3, n3, h3'', _⟩ := R1.at_ i _ h4
                rw [e2] at e3
                cases e3
                rcases g'.ow p ⟨j', es, h4', by rw [vget h5']; exact e1⟩ with y | y
                · exact no y
                · rw [h3''] at y; cases y
              · exact R1.apart i k ds es hik h4 h4'
        refine hr' B' H' v (g1.trans gg) Rn ?_
        cases rs with
        | un => exact ret
        | sh d => exact ret
        | ow ds =>
          obtain ⟨p, xs, h1, h2, h3, h4, h5, h6⟩ := ret
          refine ⟨p, xs, h1, h2, h3, h4, fun z => ?_, ?_⟩
          · rcases own' z with y | ⟨i, es, h7, h8, h9⟩
            · exact h5 y
            · obtain ⟨q4, q5⟩ := other g' h7 h8
              have no := q5 p es rfl h9
              obtain ⟨p', xs', e3, n3, h3'', _⟩ := R1.at_ i _ h8
              rw [h9] at e3
              cases e3
              rcases h6 with y | y
              · exact no y
              · rw [h3''] at y; cases y
          · rcases h6 with y | y
            · exact g1.back (.inl (oc1 y))
            · exact g1.back (.inr y)
      · rw [if_neg cl] at hr; exact hr.elim
  · rw [if_neg c] at hr; exact hr.elim
theorem sc_call {F : Fn} {n : Nat} (tk : Takes X W) (hpe : ∀ (E : L2.St → XK) (t : TA), (∀ σ, PassesAt (L2.CX X.prog X.w) X σ (E σ)) → PA X es t → PE X e (tCallS (SpF X.mg F n) E t)) (h : SAr X W es fr) : SC X W e (cCall F n fr) := sc_callP (passAt tk) hpe h
/-- the result as a value, as a new list -/
def eVal (f : Env → Out (Sl × Env)) : FE := fun ρ => (f ρ).bind fun r => match r.1 with
  | .sh d => .ok (d, r.2)
  | .ow ds => .ok (.lst ds, r.2)
  | .un => .st
def fVal (f : Env → Out (Sl × Env)) : FF := fun ρ => (f ρ).bind fun r => match r.1 with
  | .ow ds => .ok (ds, r.2)
  | _ => .st
theorem se_val {f : Env → Out (Sl × Env)} (h : SC X W e f) : SE X W e (eVal f) := by
  intro B H ρ σ R Q hw
  unfold eVal at hw
  rw [wp_bind] at hw
  refine h B H ρ σ R Q (hw.mono (fun r hr B1 H1 v g1 R1 r1 => ?_) fun _ _ z => z)
  obtain ⟨s, ρ1⟩ := r
  cases s with
  | un => exact r1.elim
  | sh d => exact hr B1 H1 v g1 R1 r1
  | ow ds =>
    obtain ⟨p, xs, rfl, n1, h1, rl, o1, hp⟩ := r1
    exact hr (upd B1 p (.lst xs)) H1 (.ref p) (g1.frz n1 hp) (R1.freeze n1 h1 o1) (.lst upd_same (rl.mono (Ex.new n1)))
theorem sf_val {f : Env → Out (Sl × Env)} (h : SC X W e f) : SF X W e (fVal f) := by
  intro B H ρ σ R Q hw
  unfold fVal at hw
  rw [wp_bind] at hw
  refine h B H ρ σ R Q (hw.mono (fun r hr B1 H1 v g1 R1 r1 => ?_) fun _ _ z => z)
  obtain ⟨s, ρ1⟩ := r
  cases s with
  | un => exact r1.elim
  | sh d => exact hr.elim
  | ow ds =>
    obtain ⟨p, xs, rfl, n1, h1, rl, o1, hp⟩ := r1
    exact hr B1 H1 p xs g1 R1 n1 h1 rl o1 hp
end
end KV
set_option Elab.async false
set_option linter.all false
set_option autoImplicit false
set_option maxRecDepth 100000
set_option maxHeartbeats 2000000
namespace KV
open PySem PySem.Spec PyProof.Rows L2
variable [KK]

def keepS (kp : Nat → Bool) (n : Nat) (ρ : Env) : List Sl := (List.range n).map fun i => if kp i then (ρ[i]?).getD .un else .un
/-- the function of a body: m names, n of them parameters; kp: the parameters that are handed back -/
def fnOf (m n : Nat) (kp : Nat → Bool) (f : FS) : Fn := fun as => (f (as ++ List.replicate (m - n) .un)).bind fun fl => match fl with
  | .nx ρ => .ok (.sh .non, keepS kp n ρ)
  | .rt r ρ => .ok (r, keepS kp n ρ)
  | _ => .st
section
variable {kp : Nat → Bool} {B H : Hp} {m n : Nat} {as : List Sl} {vs : List V}
theorem start_get {N : List Str} {vs : List V} {i : Nat} : (((start N vs)[i]?).getD none) = if i < vs.length then ((vs.map some)[i]?).getD none else none := by
  unfold L2.start
  by_cases h : i < vs.length
  · rw [if_pos h, List.getElem?_append_left (by rw [List.length_map]; exact h)]
  · rw [if_neg h, List.getElem?_append_right (by rw [List.length_map]; omega), List.getElem?_replicate]
    split <;> rfl
theorem pad_get {as : List Sl} {k i : Nat} {s : Sl} (h : (as ++ List.replicate k Sl.un)[i]? = some s) : as[i]? = some s ∨ s = .un := by
  by_cases hi : i < as.length
  · rw [List.getElem?_append_left hi] at h
    exact .inl h
  · rw [List.getElem?_append_right (by omega), List.getElem?_replicate] at h
    split at h
    · cases h; exact .inr rfl
    · cases h
theorem lt_of_get {α : Type} {l : List α} {i : Nat} {a : α} (h : l[i]? = some a) : i < l.length := (List.getElem?_eq_some_iff.mp h).1
theorem rep_start {N : List Str} (R : Rep B H as (vs.map some)) (hl : vs.length = n) (hn : n ≤ N.length) : Rep B H (as ++ List.replicate (N.length - n) .un) (start N vs) := by
  have hal : as.length = vs.length := by have := R.len; rw [List.length_map] at this; exact this
  refine ⟨R.ex, by unfold L2.start; rw [List.length_append, List.length_append, List.length_replicate, List.length_replicate, List.length_map, hal, hl], fun i s h => ?_, fun i j ds es hij hi hj => ?_⟩
  · rcases pad_get h with q | q
    · rw [start_get, if_pos (by rw [← hal]; exact lt_of_get q)]
      exact R.at_ i s q
    · subst q; trivial
  · rcases pad_get hi with q | q
    · rcases pad_get hj with r | r
      · rw [start_get, start_get, if_pos (by rw [← hal]; exact lt_of_get q), if_pos (by rw [← hal]; exact lt_of_get r)]
        exact R.apart i j ds es hij q r
      · cases r
    · cases q
theorem own_start {N : List Str} {k : Nat} {a : Addr} (hal : as.length = vs.length) : Own (as ++ List.replicate k .un) (start N vs) a ↔ Own as (vs.map some) a := by
  constructor
  · rintro ⟨i, ds, h1, h2⟩
    rcases pad_get h1 with q | q
    · rw [start_get, if_pos (by rw [← hal]; exact lt_of_get q)] at h2
      exact ⟨i, ds, q, h2⟩
    · cases q
  · rintro ⟨i, ds, h1, h2⟩
    have hi : i < vs.length := by rw [← hal]; exact lt_of_get h1
    refine ⟨i, ds, by rw [List.getElem?_append_left (by rw [hal]; exact hi)]; exact h1, ?_⟩
    rw [start_get, if_pos hi]
    exact h2
theorem keep_get {ρ : Env} {i : Nat} {s : Sl} (h : (keepS kp n ρ)[i]? = some s) : (kp i = true ∧ ρ[i]? = some s ∧ i < n) ∨ s = .un := by
  unfold keepS at h
  rw [List.getElem?_map] at h
  cases q : (List.range n)[i]? with
  | none => rw [q] at h; cases h
  | some j =>
    rw [q] at h
    obtain ⟨h1, h2⟩ := List.getElem?_eq_some_iff.mp q
    rw [List.getElem_range] at h2
    subst h2
    rw [List.length_range] at h1
    have h' : (if kp i = true then (ρ[i]?).getD .un else .un) = s := Option.some.inj h
    by_cases c : kp i = true
    · rw [if_pos c] at h'
      cases e : ρ[i]? with
      | none => rw [e] at h'; exact .inr h'.symm
      | some s' => rw [e] at h'; exact .inl ⟨c, congrArg some h', h1⟩
    · rw [if_neg c] at h'
      exact .inr h'.symm
theorem keepS_len {ρ : Env} : (keepS kp n ρ).length = n := by unfold keepS; rw [List.length_map, List.length_range]
theorem keep_slot {N : List Str} {σ' : L2.St} {i : Nat} (k : Kp kp (start N vs) σ') (c : kp i = true) (hi : i < vs.length) : ((vs.map some)[i]?).getD none = (σ'[i]?).getD none := by
  rw [k i c, start_get, if_pos hi]
theorem rep_keep {N : List Str} {B' H' : Hp} {ρ' : Env} {σ' : L2.St} (R : Rep B' H' ρ' σ') (k : Kp kp (start N vs) σ') (hl : vs.length = n) : Rep B' H' (keepS kp n ρ') (vs.map some) := by
  refine ⟨R.ex, by rw [keepS_len, List.length_map, hl], fun i s h => ?_, fun i j ds es hij hi hj => ?_⟩
  · rcases keep_get h with ⟨c, q, hi⟩ | q
    · rw [keep_slot k c (by omega)]
      exact R.at_ i s q
    · subst q; trivial
  · rcases keep_get hi with ⟨c, q, hi'⟩ | q
    · rcases keep_get hj with ⟨c2, r, hj'⟩ | r
      · rw [keep_slot k c (by omega), keep_slot k c2 (by omega)]
        exact R.apart i j ds es hij q r
      · cases r
    · cases q
theorem own_keep {N : List Str} {ρ' : Env} {σ' : L2.St} {a : Addr} (k : Kp kp (start N vs) σ') (hl : vs.length = n) (h : Own (keepS kp n ρ') (vs.map some) a) : Own ρ' σ' a := by
  obtain ⟨i, ds, h1, h2⟩ := h
  rcases keep_get h1 with ⟨c, q, hi⟩ | q
  · rw [keep_slot k c (by omega)] at h2
    exact ⟨i, ds, q, h2⟩
  · cases q
end
abbrev WD (E : XK) : WX := fun cls d _ H => E cls d H
section
variable {P : Program} {w : World} {K : PySem.W.Frag} {mg : Str → Option Value} {base : Heap}
theorem body_ok {X : Cx} {kp : Nat → Bool} {N : List Str} {n : Nat} {f : FS} {body : List Stmt} {E : XK} (hn : n ≤ N.length) (hb : SSs kp X (WD E) body f) {vs : List V} {H : Hp} {Q : VK} (hsp : SpF X.mg (fnOf N.length n kp f) n vs H Q E) :
    ∃ t, PSs X body t ∧ t { nx := fun _ H' => Q .non H', rt := Q } (start N vs) H := by
  obtain ⟨hl, B, as, R, hw⟩ := hsp
  have hal : as.length = vs.length := by have := R.len; rw [List.length_map] at this; exact this
  have R0 := rep_start (N := N) R hl hn
  refine hb B H _ _ R0 _ ?_
  unfold fnOf at hw
  rw [wp_bind] at hw
  have go : ∀ {B' H' : Hp} {o' o2 : Addr → Prop}, Go B H (Own (as ++ List.replicate (N.length - n) .un) (start N vs)) B' H' o' → (∀ a, o2 a → o' a) → Go B H (Own as (vs.map some)) B' H' o2 := fun {B' H' o' o2} g i => ⟨g.ex, fun a u q z => g.fr a u q fun y => z ((own_start hal).mp y), fun a u q hb z => g.nb a u q hb fun y => z ((own_start hal).mp y), fun a z => by
    rcases g.ow a (i a z) with y | y
    · exact .inl ((own_start hal).mp y)
    · exact .inr y, g.th⟩
  refine hw.mono (fun fl hf => ?_) (fun er ρ' he B' H' σ' cls dd k g R' r => he B' H' cls dd (go g fun _ z => z.elim) R'.ex r)
  cases fl with
  | bk ρ' => exact hf.elim
  | ct ρ' => exact hf.elim
  | nx ρ' => exact fun B' H' σ' k g R' => hf B' H' .non (go g fun a z => own_keep k hl z) (rep_keep R' k hl) .non
  | rt r ρ' =>
    refine fun B' H' σ' v k g R' ret => hf B' H' v (go g fun a z => own_keep k hl z) (rep_keep R' k hl) ?_
    cases r with
    | un => exact ret
    | sh d => exact ret
    | ow ds =>
      obtain ⟨p, xs, h1, h2, h3, h4, h5, h6⟩ := ret
      refine ⟨p, xs, h1, h2, h3, h4, fun z => h5 (own_keep k hl z), ?_⟩
      rcases h6 with y | y
      · exact .inl ((own_start hal).mp y)
      · exact .inr y
/-- a def of the text, by its body's function -/
theorem def_ok {x qual : Str} {params : Arguments} {body : List Stmt} {scope : Scope} {dvs : List V} {kws : List (Str × V)} {f : Addr} {fd : FuncData} {N ps : List Str} {k : Nat} {kp : Nat → Bool} {g : FS}
    (F : FunD K x qual params body scope dvs kws f fd) (S : FnScope N ps scope) (hn : ps.length ≤ N.length)
    (hb : ∀ (cdv : Value) (A : Around) (outer : List PySem.Env) (s : Shared) (H : Hp) (E : XK), Room k (A.deeper (envOfC qual scope s.heap.objs.size f cdv)) → SSs kp (cxOf (L2.CX P w) P w K mg base N qual scope f cdv A outer s H E) (WD E) body g) :
    FnOk P w K mg base (L2.CX P w) (k + 1) f fd ps (SpF mg (fnOf N.length ps.length kp g) ps.length) :=
  F.ok S (fun vs H Q E h => h.1) fun cdv A outer s H vs Q E hr h => body_ok (X := cxOf (L2.CX P w) P w K mg base N qual scope f cdv A outer s H E) hn (hb cdv A outer s H E hr) h
end
end KV
set_option Elab.async false
set_option linter.all false
set_option autoImplicit false
set_option maxRecDepth 100000
set_option maxHeartbeats 2000000
namespace KV
open PySem PySem.Spec PyProof.Rows L2
variable [KK]

section
variable {kp : Nat → Bool} {X : Cx} {W : WX} {e a b c : Expr} {es : List Expr} {f g h : FE} {fa : FA}
/-! ### slices -/
def cutD (xs : List D) (lo hi : Option Int) : List D := (xs.drop (HT.sIx xs.length 0 lo)).take (HT.sIx xs.length xs.length hi - HT.sIx xs.length 0 lo)
theorem RpL.cut {B : Hp} {vs : List V} {ds : List D} (r : RpL B vs ds) (lo hi : Option Int) : RpL B (cutV vs lo hi) (cutD ds lo hi) := by
  unfold cutV cutD
  rw [r.length]
  exact (r.drop _).take _
theorem cut_whole {ds : List D} {lo hi : Option Int} (h : HT.sIx ds.length 0 lo = 0 ∧ HT.sIx ds.length ds.length hi = ds.length) : cutD ds lo hi = ds := by
  unfold cutD
  rw [h.1, h.2]
  simp
abbrev FO := Env → Out (Option Int × Env)
def oNo : FO := fun ρ => .ok (none, ρ)
def oIs (f : FE) : FO := fun ρ => (f ρ).bind fun r => match r.1 with
  | .int i => .ok (some i, r.2)
  | _ => .st
def tAnyO (X : Cx) (e : Option Expr) : TO := fun σ H Q => ∃ t, PO X e t ∧ t σ H Q
theorem po_any {X : Cx} {e : Option Expr} : PO X e (tAnyO X e) := ⟨fun pins s σ H Q I ⟨_, p, h⟩ => p.run pins s σ H Q I h⟩
def SO (X : Cx) (W : WX) (e : Option Expr) (f : FO) : Prop := ∀ B H ρ σ, Rep B H ρ σ → ∀ Q : Option Int → Hp → Prop,
  (f ρ).wp (fun r => ∀ B' H', Go B H (Own ρ σ) B' H' (Own r.2 σ) → Rep B' H' r.2 σ → Q r.1 H') (AskE X W B H (Own ρ σ) σ) → tAnyO X e σ H Q
theorem so_no : SO X W none oNo := fun B H ρ σ R Q hw => ⟨_, po_none, hw B H (Go.refl ..) R⟩
theorem so_is (h : SE X W e f) : SO X W (some e) (oIs f) := by
  intro B H ρ σ R Q hw
  refine ⟨_, po_some pe_any, ?_⟩
  unfold oIs at hw
  rw [wp_bind] at hw
  refine h B H ρ σ R _ (hw.mono (fun r hr B1 H1 v g1 R1 r1 => ?_) fun _ _ z => z)
  obtain ⟨d, ρ1⟩ := r
  cases r1 <;> first | exact (show False from hr).elim | skip
  exact ⟨_, rfl, hr B1 H1 g1 R1⟩
/-- x[lo:hi] -/
def eSl (f : FE) (lo hi : FO) : FE := fun ρ => (f ρ).bind fun r => (lo r.2).bind fun l => (hi l.2).bind fun u => match r.1 with
  | .lst xs => .ok (.lst (cutD xs l.1 u.1), u.2)
  | .tup xs => .ok (.tup (cutD xs l.1 u.1), u.2)
  | _ => .st
theorem se_sl {lo hi : Option Expr} {fl fh : FO} {p2 pos : Pos} (ha : SE X W e f) (hl : SO X W lo fl) (hh : SO X W hi fh) : SE X W (.Subscript e (.Slice lo hi none p2) pos) (eSl f fl fh) := by
  intro B H ρ σ R Q hw
  refine ⟨_, pe_slice (sl_or sl_list sl_tupA) pe_any po_any po_any, ?_⟩
  unfold eSl at hw
  refine ha.then (A := fun B H o => AskV B H o σ Q) R hw (fun e q => q.ext e) fun B1 H1 ρ1 v d g1 R1 r1 hw1 => ?_
  dsimp only at hw1
  rw [wp_bind] at hw1
  refine hl B1 H1 ρ1 σ R1 _ (hw1.mono (fun l hl1 B2 H2 g2 R2 => ?_) fun _ _ z => z)
  rw [wp_bind] at hl1
  refine hh B2 H2 l.2 σ R2 _ (hl1.mono (fun u hu B3 H3 g3 R3 => ?_) fun _ _ z => z.ext g2)
  have r3 := r1.mono (g2.ex.trans g3.ex)
  have gg := g2.trans g3
  cases r3 <;> first | exact (show False from hu).elim | skip
  · rename_i a xs ds hb hs
    refine .inl ⟨a, xs, rfl, SqL.of (R3.ex _ _ hb), fun p hp => ?_⟩
    exact hu _ _ _ (gg.trans (Go.new R3.ex hp)) (R3.new hp) (.lst upd_same ((hs.cut _ _).mono (Ex.new (R3.ex.none hp))))
  · rename_i a xs ds hb hs
    refine .inr ⟨a, xs, rfl, SqT.of (R3.ex _ _ hb), fun hwh => ?_, fun _ p hp => ?_⟩
    · rw [hs.length] at hwh
      refine hu _ _ _ gg R3 (.tup hb ?_)
      rw [cut_whole hwh]
      exact hs
    · exact hu _ _ _ (gg.trans (Go.new R3.ex hp)) (R3.new hp) (.tup upd_same ((hs.cut _ _).mono (Ex.new (R3.ex.none hp))))

/-! ### list + list: a new list -/
def fCat (f g : FE) : FF := fun ρ => (f ρ).bind fun r => (g r.2).bind fun s => match r.1, s.1 with
  | .lst xs, .lst ys => if decide (xs.length + ys.length ≤ 100000) then .ok (xs ++ ys, s.2) else .st
  | _, _ => .st
theorem sf_cat {pos : Pos} (ha : SE X W a f) (hb : SE X W b g) : SF X W (.BinOp a .Add b pos) (fCat f g) := by
  intro B H ρ σ R Q hw
  refine ⟨_, pe_op op_cat pe_any pe_any, ?_⟩
  unfold fCat at hw
  refine ha.then (A := fun B H o => AskF B H o σ Q) R hw (fun e q => q.ext e) fun B1 H1 ρ1 v x g1 R1 r1 hw1 => ?_
  refine hb.then (A := fun B H o => AskF B H o σ Q) R1 hw1 (fun e q => q.ext e) fun B2 H2 ρ2 u y g2 R2 r2 hw2 => ?_
  dsimp only at hw2
  have r3 := r1.mono g2.ex
  cases r3 <;> first | exact (show False from hw2).elim | skip
  cases r2 <;> first | exact (show False from hw2).elim | skip
  rename_i a1 xs1 ds1 hb1 hs1 a2 xs2 ds2 hb2 hs2
  replace hw2 : (if decide (ds1.length + ds2.length ≤ 100000) = true then Out.ok (ds1 ++ ds2, ρ2) else .st).wp _ _ := hw2
  by_cases c : decide (ds1.length + ds2.length ≤ 100000) = true
  · rw [if_pos c] at hw2
    refine ⟨a1, a2, xs1, xs2, rfl, rfl, R2.ex _ _ hb1, R2.ex _ _ hb2, le_line (by rw [hs1.length, hs2.length]; exact of_decide_eq_true c), fun p hp => ?_⟩
    exact hw2 _ _ p _ (Go.newH hp) (R2.newH hp) (R2.ex.none hp) upd_same (hs1.append hs2) (R2.not_own hp) (.inr hp)
  · rw [if_neg c] at hw2; exact hw2.elim
/-- a + b of ints, of tuples -/
def dPlus : D → D → Option D := fun x y => (dAdd x y).orElse fun _ => dCatT x y
theorem opD_plus {K : PySem.W.Frag} : OpD (rOr (rI0 fun i j => .int (i + j)) (rCatA K)) dPlus := OpD.or opD_add opD_catT
theorem op_plus : OpR X (binaryOp .Add) (rOr (rI0 fun i j => .int (i + j)) (rCatA X.K)) := op_or op_add op_catA

/-! ### a op b op c, as a test -/
def tChainF (k k' : D → D → Option D) (f g h : FE) : FT := fun ρ => (f ρ).bind fun r => (g r.2).bind fun s => match k r.1 s.1 with
  | some (.bl true) => (h s.2).bind fun u => match k' s.1 u.1 with
    | some (.bl b) => .ok (b, u.2)
    | _ => .st
  | some (.bl false) => .ok (false, s.2)
  | _ => .st
theorem sb_chain {op op' : CmpOp} {r r' : R2} {k k' : D → D → Option D} {pos : Pos} (ho : OpR X (compareOp op) r) (ho' : OpR X (compareOp op') r') (hk : OpD r k) (hk' : OpD r' k') (ha : SE X W a f) (hb : SE X W b g) (hc : SE X W c h)
    (hm : lastMarks [op, op'] [b, c] = false := by with_unfolding_all rfl) : SB X W (.Compare a [op, op'] [b, c] pos) (tChainF k k' f g h) := by
  intro B H ρ σ R Q hw
  refine ⟨_, pt_chain ho ho' pe_any pe_any pe_any hm, ?_⟩
  unfold tChainF at hw
  have key : tAny X a σ H fun x H1 => tAny X b σ H1 fun y H2 => r x y H2 fun z H3 => ∃ k, z = .bl k ∧ (if k = true then tAny X c σ H3 fun w' H4 => r' y w' H4 fun x H' => ∃ k, x = .bl k ∧ Q k H' else ∃ k, V.bl false = .bl k ∧ Q k H3) := by
    rw [wp_bind] at hw
    refine ha B H ρ σ R _ (hw.mono (fun x hx B1 H1 v g1 R1 r1 => ?_) fun _ _ z => z)
    rw [wp_bind] at hx
    refine hb B1 H1 x.2 σ R1 _ (hx.mono (fun y hy B2 H2 u g2 R2 r2 => ?_) fun _ _ z => z.ext g1)
    cases q : k x.1 y.1 with
    | none => rw [q] at hy; exact hy.elim
    | some d =>
      rw [q] at hy
      refine hk B2 H2 y.2 σ v u x.1 y.1 d R2 (r1.mono g2.ex) r2 q _ fun B3 H3 z g3 R3 r3 => ?_
      cases d <;> first | exact (show False from hy).elim | skip
      rename_i kb
      cases r3
      refine ⟨kb, rfl, ?_⟩
      have gg := (g1.trans g2).trans g3
      cases kb with
      | false => exact iteF ⟨false, rfl, hy B3 H3 gg R3⟩
      | true =>
        refine iteT ?_
        replace hy : ((h y.2).bind fun u => match k' y.1 u.1 with
          | some (.bl b) => Out.ok (b, u.2)
          | _ => .st).wp _ _ := hy
        rw [wp_bind] at hy
        refine hc B3 H3 y.2 σ R3 _ (hy.mono (fun w hw4 B4 H4 t g4 R4 r4 => ?_) fun _ _ z => z.ext gg)
        cases q' : k' y.1 w.1 with
        | none => rw [q'] at hw4; exact hw4.elim
        | some d' =>
          rw [q'] at hw4
          refine hk' B4 H4 w.2 σ u t y.1 w.1 d' R4 (r2.mono (g3.ex.trans g4.ex)) r4 q' _ fun B5 H5 z5 g5 R5 r5 => ?_
          cases d' <;> first | exact (show False from hw4).elim | skip
          cases r5
          exact ⟨_, rfl, hw4 B5 H5 ((gg.trans g4).trans g5) R5⟩
  exact key

/-! ### isinstance -/
def tyName : D → Option String
  | .non => some "NoneType"
  | .bl _ => some "bool"
  | .int _ => some "int"
  | .str _ => some "str"
  | .lst _ => some "list"
  | .tup _ => some "tuple"
  | _ => none
def isTy : D → Bool
  | .ty _ => true
  | _ => false
def kitAll (t : String) : List D → Option Bool
  | [] => some false
  | .ty n :: r => match kitB t n with
    | some true => if r.all isTy then some true else none
    | some false => kitAll t r
    | none => none
  | _ => none
def dIsi : List D → Option D
  | [x, .ty n] => match tyName x with
    | some t => (kitB t n).map D.bl
    | none => none
  | [x, .tup cs] => match tyName x with
    | some t => (kitAll t cs).map D.bl
    | none => none
  | _ => none
theorem tyX_of {K : PySem.W.Frag} {B H : Hp} {v : V} {d : D} {n : String} (e : Ex B H) (r : Rp B v d) (h : tyName d = some n) : TyX K H v (.type n) := by
  cases r <;> first | cases h | skip
  · exact .base .non
  · exact .base (.bl _)
  · exact .base (.int _)
  · exact .base (.str _)
  · rename_i hb hs; exact .base (.lst (e _ _ hb))
  · rename_i hb hs; exact .base (.tup (e _ _ hb))
theorem tys_ok {B : Hp} : ∀ {cs : List D} {vs : List V}, RpL B vs cs → cs.all isTy = true → ∃ us, Paired ClsV vs us
  | [], _, r, _ => by cases r; exact ⟨[], .nil⟩
  | d :: cs, _, r, h => by
    rw [List.all_cons, Bool.and_eq_true] at h
    cases d <;> first | cases h.1 | skip
    cases r with
    | cons r1 rr =>
      cases r1
      obtain ⟨us, hu⟩ := tys_ok rr h.2
      exact ⟨_, .cons (.ty _) hu⟩
theorem kitAll_ok {K : PySem.W.Frag} {B : Hp} {t : String} : ∀ {cs : List D} {vs : List V} {b : Bool}, RpL B vs cs → kitAll t cs = some b → ∃ us, Paired ClsV vs us ∧ PySem.W.kitAny K (.type t) us = some b
  | [], vs, b, r, h => by
    cases r
    cases h
    exact ⟨[], .nil, kitAny_nil⟩
  | d :: cs, vs, b, r, h => by
    cases d <;> first | cases h | skip
    rename_i n
    cases r with
    | cons r1 rr =>
      cases r1
      replace h : (match kitB t n with
        | some true => if cs.all isTy then some true else none
        | some false => kitAll t cs
        | none => none) = some b := h
      cases q : kitB t n with
      | none => rw [q] at h; cases h
      | some k =>
        rw [q] at h
        cases k with
        | true =>
          replace h : (if cs.all isTy = true then some true else none) = some b := h
          by_cases c : cs.all isTy = true
          · rw [if_pos c] at h
            cases h
            obtain ⟨us, hu⟩ := tys_ok rr c
            exact ⟨_, .cons (.ty n) hu, kitAny_cons (kit_ty q) (fun z => by cases z) (fun _ => rfl)⟩
          · rw [if_neg c] at h; cases h
        | false =>
          obtain ⟨us, h1, h2⟩ := kitAll_ok (K := K) rr h
          exact ⟨_, .cons (.ty n) h1, kitAny_cons (kit_ty q) (fun _ => h2) (fun z => by cases z)⟩
theorem caD_isi {K : PySem.W.Frag} : CaD (rCOr (rIsi K) (rIsiT K)) dIsi := by
  intro B H ρ σ vs ds d R r hd Q q
  unfold dIsi at hd
  split at hd <;> first | cases hd | skip
  · rename_i x n
    obtain ⟨v, w, rfl, rv, rw2⟩ := r.two
    cases rw2
    cases e : tyName x with
    | none => rw [e] at hd; cases hd
    | some t =>
      rw [e] at hd
      dsimp only at hd
      cases e2 : kitB t n with
      | none => rw [e2] at hd; cases hd
      | some b =>
        rw [e2] at hd
        cases hd
        exact .inl ⟨v, .ty n, _, _, b, rfl, .ty n, tyX_of R.ex rv e, kit_ty e2, q B H _ (Go.refl ..) R (.bl b)⟩
  · rename_i x cs
    obtain ⟨v, w, rfl, rv, rw2⟩ := r.two
    cases rw2 with
    | tup hb hs =>
      cases e : tyName x with
      | none => rw [e] at hd; cases hd
      | some t =>
        rw [e] at hd
        dsimp only at hd
        cases e2 : kitAll t cs with
        | none => rw [e2] at hd; cases hd
        | some b =>
          rw [e2] at hd
          cases hd
          obtain ⟨us, h1, h2⟩ := kitAll_ok (K := K) hs e2
          exact .inr ⟨v, _, _, _, us, b, rfl, R.ex _ _ hb, h1, tyX_of R.ex rv e, h2, q B H _ (Go.refl ..) R (.bl b)⟩
theorem call_isi2 : CallR X (.builtin "isinstance") (rCOr (rIsi X.K) (rIsiT X.K)) := call_or call_isi call_isiT

/-! ### sum, max of a list or a tuple of ints -/
def rSumT (K : PySem.W.Frag) : List V → Hp → VK → Prop := fun vs H Q => ∃ (a : Addr) (ns : List Int), vs = [V.ref a] ∧ SqT K H a (ns.map V.int) ∧ Q (.int ns.sum) H
theorem cr_sumT (hc : X.calm = true) : CallR X (.builtin "sum") (rSumT X.K) := fun pins s σ H vs us Q I r ⟨a, ns, ev, hs, q⟩ => by
  subst ev
  obtain ⟨its, rv, ht, _⟩ := I.tuple hs
  rw [Vals.ref1 r]
  obtain ⟨xs, hx⟩ := rv.ints.allInts.items
  have hn : numsOf its.toArray.toList = ns := rv.ints.numsOf
  rw [hx] at ht hn
  rw [nums_intItems] at hn
  refine PySem.W.ktm_sumG (I.ok.hd hc) (show s.heap.IsTuple a (intItems xs) from ht) fun h' tk t' hk => ?_
  rw [preSum_eq, List.take_of_length_le (by simp), hn]
  exact ⟨.int _, H, I.kept hk, ⟨_, rfl⟩, q⟩
def dSum : List D → Option D
  | [.lst xs] => (intsOf xs).map fun ns => .int ns.sum
  | [.tup xs] => (intsOf xs).map fun ns => .int ns.sum
  | _ => none
theorem caD_sum {K : PySem.W.Frag} : CaD (rCOr (rSum K) (rSumT K)) dSum := by
  intro B H ρ σ vs ds d R r hd Q q
  unfold dSum at hd
  split at hd <;> first | cases hd | skip
  · rename_i xs
    obtain ⟨v, rfl, rv⟩ := r.one
    cases e : intsOf xs with
    | none => rw [e] at hd; cases hd
    | some ns =>
      rw [e] at hd
      cases hd
      cases rv with
      | lst hb hs =>
        rw [intsOf_eq e] at hs
        rw [hs.ints] at hb
        exact .inl ⟨_, ns, rfl, SqL.of (R.ex _ _ hb), q B H _ (Go.refl ..) R (.int _)⟩
  · rename_i xs
    obtain ⟨v, rfl, rv⟩ := r.one
    cases e : intsOf xs with
    | none => rw [e] at hd; cases hd
    | some ns =>
      rw [e] at hd
      cases hd
      cases rv with
      | tup hb hs =>
        rw [intsOf_eq e] at hs
        rw [hs.ints] at hb
        exact .inr ⟨_, ns, rfl, SqT.of (R.ex _ _ hb), q B H _ (Go.refl ..) R (.int _)⟩
theorem call_sum2 (hc : X.calm = true) : CallR X (.builtin "sum") (rCOr (rSum X.K) (rSumT X.K)) := call_or (cr_sum hc) (cr_sumT hc)
/-- the greatest of the ints -/
def maxI : List Int → Int
  | [] => 0
  | n :: r => r.foldl (fun m k => if m < k then k else m) n
theorem maxI_fold (r : List Int) : ∀ n : Int, (r.foldl (fun m k => if m < k then k else m) n = n ∨ r.foldl (fun m k => if m < k then k else m) n ∈ r) ∧ n ≤ r.foldl (fun m k => if m < k then k else m) n ∧ ∀ k ∈ r, k ≤ r.foldl (fun m k => if m < k then k else m) n := by
  induction r with
  | nil => exact fun n => ⟨.inl rfl, Int.le_refl _, fun k h => by cases h⟩
  | cons m r ih =>
    intro n
    obtain ⟨h1, h2, h3⟩ := ih (if n < m then m else n)
    show (r.foldl _ (if n < m then m else n) = n ∨ r.foldl _ (if n < m then m else n) ∈ m :: r) ∧ n ≤ r.foldl _ (if n < m then m else n) ∧ ∀ k ∈ m :: r, k ≤ r.foldl _ (if n < m then m else n)
    have a1 : n ≤ (if n < m then m else n) := by split <;> omega
    have a2 : m ≤ (if n < m then m else n) := by split <;> omega
    refine ⟨?_, Int.le_trans a1 h2, fun k hk => ?_⟩
    · rcases h1 with h1 | h1
      · rw [h1]
        by_cases c : n < m
        · rw [if_pos c]; exact .inr List.mem_cons_self
        · rw [if_neg c]; exact .inl rfl
      · exact .inr (List.mem_cons_of_mem _ h1)
    · rcases List.mem_cons.mp hk with e | hk
      · rw [e]; exact Int.le_trans a2 h2
      · exact h3 k hk
theorem maxI_spec {ns : List Int} (h : 0 < ns.length) : maxI ns ∈ ns ∧ ∀ k ∈ ns, k ≤ maxI ns := by
  cases ns with
  | nil => cases h
  | cons n r =>
    obtain ⟨h1, h2, h3⟩ := maxI_fold r n
    refine ⟨?_, fun k hk => ?_⟩
    · rcases h1 with h1 | h1
      · show r.foldl _ n ∈ n :: r
        rw [h1]; exact List.mem_cons_self
      · exact List.mem_cons_of_mem _ h1
    · rcases List.mem_cons.mp hk with e | hk
      · rw [e]; exact h2
      · exact h3 k hk
theorem maxI_uniq {ns : List Int} {m : Int} (h1 : m ∈ ns) (h2 : ∀ k, k ∈ ns → k ≤ m) : m = maxI ns := by
  have hp : 0 < ns.length := List.length_pos_of_mem h1
  obtain ⟨g1, g2⟩ := maxI_spec hp
  exact Int.le_antisymm (g2 m h1) (h2 _ g1)
def rMaxT (K : PySem.W.Frag) : List V → Hp → VK → Prop := fun vs H Q => ∃ (a : Addr) (ns : List Int), vs = [V.ref a] ∧ SqT K H a (ns.map V.int) ∧ 0 < ns.length ∧ Q (.int (maxI ns)) H
theorem max_tup_raw {prog : Program} {w : World} {A : Around} {E : Value → Shared → Prop} {s : Shared} {t : Addr} {its : List Value} {ns : List Int} {Q : Value → Shared → Prop} (hh : A.handled = none) (ht : s.heap.IsTuple t its.toArray) (hi : IntsAre its ns) (hne : 0 < ns.length)
    (h : ∀ h' tk t', (∀ b o, s.heap.get? b = some o → h'.get? b = some o) → Q (.int (maxI ns) t') { s with heap := h', toks := tk }) : wpAny (model prog w) A (call (.builtin "max") [.ref t]) Q E s := by
  obtain ⟨xs, e⟩ := hi.allInts.items
  have hn : numsOf (intItems xs).toList = ns := by rw [← e]; exact hi.numsOf
  rw [nums_intItems] at hn
  subst hn
  rw [e] at ht
  have hsz : 0 < xs.size := by simpa using hne
  have hsz2 : (intItems xs).size = xs.size := by simp [intItems]
  refine PySem.call_max_walkS (PySem.W.iter_tupleW (A := A.in1) hh ht fun s₂ e W st hfp hw hk => ?_)
  refine ⟨_, _, _, _, _, _, _, _, rfl, W, st, hfp, by rw [hsz2]; exact hsz, CmpOf.ints_gt (numAt xs) (fun _ _ => intItems_at), fun v s' hP m => ?_⟩
  obtain ⟨h', tk, rfl, hk'⟩ := PySem.W.moved_old e rfl m
  rw [hsz2] at hP
  obtain ⟨t', rfl⟩ := intItems_at hP
  obtain ⟨h1, h2⟩ := argBest_gt (numAt xs) (xs.size - 1)
  have hm : numAt xs (argBest (fun i j => decide (numAt xs i > numAt xs j)) (xs.size - 1)) = maxI (xs.toList.map (·.1)) := maxI_uniq (by rw [numAt_eq]; exact PySem.getD_mem (by rw [List.length_map, Array.length_toList]; omega)) fun k hk2 => by
    obtain ⟨j, hj, rfl⟩ := mem_getD hk2
    rw [List.length_map, Array.length_toList] at hj
    rw [← numAt_eq]; exact h2 j (by omega)
  rw [hm]
  exact h h' tk t' hk'
theorem cr_maxT (hc : X.calm = true) : CallR X (.builtin "max") (rMaxT X.K) := fun pins s σ H vs us Q I r ⟨a, ns, ev, hs, hne, q⟩ => by
  subst ev
  obtain ⟨its, rv, ht, _⟩ := I.tuple hs
  rw [Vals.ref1 r]
  exact max_tup_raw (I.ok.hd hc) (show s.heap.IsTuple a its.toArray from ht) rv.ints hne fun h' tk t' hk => ⟨.int _, H, I.kept hk, ⟨_, rfl⟩, q⟩
def dMax : List D → Option D
  | [.lst xs] => (intsOf xs).bind fun ns => if 0 < ns.length then some (.int (maxI ns)) else none
  | [.tup xs] => (intsOf xs).bind fun ns => if 0 < ns.length then some (.int (maxI ns)) else none
  | _ => none
theorem caD_max {K : PySem.W.Frag} : CaD (rCOr (rMax K) (rMaxT K)) dMax := by
  intro B H ρ σ vs ds d R r hd Q q
  unfold dMax at hd
  split at hd <;> first | cases hd | skip
  · rename_i xs
    obtain ⟨v, rfl, rv⟩ := r.one
    cases e : intsOf xs with
    | none => rw [e] at hd; cases hd
    | some ns =>
      rw [e] at hd
      dsimp only [Option.bind] at hd
      by_cases c : 0 < ns.length
      · rw [if_pos c] at hd
        cases hd
        cases rv with
        | lst hb hs =>
          rw [intsOf_eq e] at hs
          rw [hs.ints] at hb
          exact .inl ⟨_, ns, rfl, SqL.of (R.ex _ _ hb), c, fun m h1 h2 => by rw [maxI_uniq h1 h2]; exact q B H _ (Go.refl ..) R (.int _)⟩
      · rw [if_neg c] at hd; cases hd
  · rename_i xs
    obtain ⟨v, rfl, rv⟩ := r.one
    cases e : intsOf xs with
    | none => rw [e] at hd; cases hd
    | some ns =>
      rw [e] at hd
      dsimp only [Option.bind] at hd
      by_cases c : 0 < ns.length
      · rw [if_pos c] at hd
        cases hd
        cases rv with
        | tup hb hs =>
          rw [intsOf_eq e] at hs
          rw [hs.ints] at hb
          exact .inr ⟨_, ns, rfl, SqT.of (R.ex _ _ hb), c, q B H _ (Go.refl ..) R (.int _)⟩
      · rw [if_neg c] at hd; cases hd
theorem call_max3 (hc : X.calm = true) : CallR X (.builtin "max") (rCOr (rMax X.K) (rMaxT X.K)) := call_or (cr_max hc) (cr_maxT hc)
end
end KV
set_option Elab.async false
set_option linter.all false
set_option autoImplicit false
set_option maxRecDepth 100000
set_option maxHeartbeats 2000000
namespace KV
open PySem PySem.Spec PyProof.Rows L2
variable [KK]

/-! ### own errors: made, raised -/
def SpI1 (C : Addr) (f : Str) : Sp := fun vs H Q _ => ∃ a y, vs = [.ref a, y] ∧ H a = some (exo a C none) ∧ ∀ dx, H dx = none → dx ≠ a → Q .non (upd (upd H dx (exd dx [(f, y)])) a (exo a C (some dx)))
def SpI2 (C : Addr) (f g : Str) : Sp := fun vs H Q _ => ∃ a y z, vs = [.ref a, y, z] ∧ H a = some (exo a C none) ∧ ∀ dx, H dx = none → dx ≠ a → Q .non (upd (upd (upd H dx (exd dx [(f, y)])) a (exo a C (some dx))) dx (exd dx [(g, z), (f, y)]))
section
variable {P : Program} {w : World} {K : PySem.W.Frag} {mg : Str → Option Value} {base : Heap}
theorem init1_ok {C : Addr} {f qual p0 p1 : Str} {params : Arguments} {body : List Stmt} {scope : Scope} {fI : Addr} {fd : FuncData} {N : List Str} {k : Nat} (F : FunD K "__init__" qual params body scope [] [] fI fd) (S : FnScope N [p0, p1] scope) (hN : N.length = 2) (T : OexC K C) (nf : PySem.W.findIn K (.ref C) f = some none)
    (hb : ∀ (cdv : Value) (A : Around) (outer : List PySem.Env) (s : Shared) (H : Hp) (E : XK), PSs (cxOf (L2.CX P w) P w K mg base N qual scope fI cdv A outer s H E) body (tSeq (tOst K f (tVar 0) (tVar 1)) tNext)) :
    FnOk P w K mg base (L2.CX P w) (k + 1) fI fd [p0, p1] (SpI1 C f) := by
  refine F.ok S (fun vs H Q E ⟨a, y, ev, _⟩ => by rw [ev]; rfl) fun cdv A outer s H vs Q E hr h => ⟨_, hb cdv A outer s H E, ?_⟩
  obtain ⟨a, y, rfl, ha, q⟩ := h
  have e : L2.start N [V.ref a, y] = [some (V.ref a), some y] := by unfold L2.start; rw [hN]; rfl
  rw [e]
  exact ⟨y, rfl, .ref a, rfl, a, C, rfl, T, nf, .inl ⟨ha, fun dx n ne => q dx n ne⟩⟩
theorem init2_ok {C : Addr} {f g qual p0 p1 p2 : Str} {params : Arguments} {body : List Stmt} {scope : Scope} {fI : Addr} {fd : FuncData} {N : List Str} {k : Nat} (F : FunD K "__init__" qual params body scope [] [] fI fd) (S : FnScope N [p0, p1, p2] scope) (hN : N.length = 3) (T : OexC K C) (nf : PySem.W.findIn K (.ref C) f = some none) (ng : PySem.W.findIn K (.ref C) g = some none)
    (hb : ∀ (cdv : Value) (A : Around) (outer : List PySem.Env) (s : Shared) (H : Hp) (E : XK), PSs (cxOf (L2.CX P w) P w K mg base N qual scope fI cdv A outer s H E) body (tSeq (tOst K f (tVar 0) (tVar 1)) (tSeq (tOst K g (tVar 0) (tVar 2)) tNext))) :
    FnOk P w K mg base (L2.CX P w) (k + 1) fI fd [p0, p1, p2] (SpI2 C f g) := by
  refine F.ok S (fun vs H Q E ⟨a, y, z, ev, _⟩ => by rw [ev]; rfl) fun cdv A outer s H vs Q E hr h => ⟨_, hb cdv A outer s H E, ?_⟩
  obtain ⟨a, y, z, rfl, ha, q⟩ := h
  have e : L2.start N [V.ref a, y, z] = [some (V.ref a), some y, some z] := by unfold L2.start; rw [hN]; rfl
  rw [e]
  refine ⟨y, rfl, .ref a, rfl, a, C, rfl, T, nf, .inl ⟨ha, fun dx n ne => ?_⟩⟩
  exact ⟨z, rfl, .ref a, rfl, a, C, rfl, T, ng, .inr ⟨dx, _, upd_same, by rw [upd_ne ne, upd_same], (by show 1 ≤ 900; decide), q dx n ne⟩⟩
end
/-- the error class named x, its fields -/
structure ErC (P : Program) (w : World) (K : PySem.W.Frag) (mg : Str → Option Value) (base : Heap) (x : Str) (k : Nat) (sp : Addr → Sp) (C fI : Addr) (fd : FuncData) (ps : List Str) : Prop where
  mgC : mg x = some (.ref C)
  T : OexC K C
  iC : PySem.W.findIn K (.ref C) "__init__" = some (some (.ref fI))
  tI : PySem.W.typeIn K (.ref fI) = some (.type "function")
  F : FnOk P w K mg base (L2.CX P w) k fI fd ps (sp C)
  b : Binds K fd ps []
def sRaise (C : Str) (fs : List Str) (fa : FA) : FS := fun ρ => (fa ρ).bind fun r => if r.1.length = fs.length then .er ⟨C, (fs.zip r.1).reverse⟩ r.2 else .st
theorem del_upd {H1 : Hp} {a dx : Addr} {C : Addr} {o1 o2 : HO} {u : HO} (ha : H1 a = none) (hne : dx ≠ a) : upd (del (upd (upd (upd H1 a o1) dx o2) a (exo a C (some dx))) a) dx u = upd H1 dx u := by
  funext b
  by_cases e : b = dx
  · subst e; rw [upd_same, upd_same]
  · rw [upd_ne e, upd_ne e]
    by_cases e2 : b = a
    · subst e2; rw [del_same, ha]
    · rw [del_ne e2, upd_ne e2, upd_ne e, upd_ne e2]
theorem del_upd2 {H1 : Hp} {a dx : Addr} {C : Addr} {o1 o2 o3 : HO} {u : HO} (ha : H1 a = none) (hne : dx ≠ a) : upd (del (upd (upd (upd (upd H1 a o1) dx o2) a (exo a C (some dx))) dx o3) a) dx u = upd H1 dx u := by
  funext b
  by_cases e : b = dx
  · subst e; rw [upd_same, upd_same]
  · rw [upd_ne e, upd_ne e]
    by_cases e2 : b = a
    · subst e2; rw [del_same, ha]
    · rw [del_ne e2, upd_ne e, upd_ne e2, upd_ne e, upd_ne e2]
section
variable {kp : Nat → Bool} {X : Cx} {W : WX} {e a : Expr} {es : List Expr} {fa : FA}
theorem ss_raise1 {x f p0 p1 : Str} {k : Nat} {C fI : Addr} {fd : FuncData} {p pos ps : Pos} (hc : X.calm = true) (tk : Takes X W) (E : ErC X.prog X.w X.K X.mg X.base x k (fun C => SpI1 C f) C fI fd [p0, p1]) (hr : Room (k + 1) X.A) (hg : Gl X x) (ha : SA X W [a] fa)
    (hdb : (x == ("__debug__" : Str)) = false := by decide) (he : starEach [a] X.env = (false, eval a X.env) :: starEach [] X.env := by rfl) (hpl : (backTo pos (starEach [] X.env)).any (·.1) = false := by rfl) :
    SS kp X W (.Raise (some (.Call (.Name x p) [a] [] pos)) none ps) (sRaise x [f] fa) := by
  intro B H ρ σ R D hw
  refine ⟨_, ps_raise hc tk (pmk_oex E.T E.iC E.tI E.F hr E.b .nil passL hg E.mgC pa_any hdb he hpl), ?_⟩
  unfold sRaise at hw
  rw [wp_bind] at hw
  refine ha B H ρ σ R _ (hw.mono (fun r hr1 B1 H1 vs g1 R1 r1 => ?_) fun _ _ z => z.toE)
  by_cases c : r.1.length = [f].length
  · rw [if_pos c] at hr1
    have hr2 : AskES kp X W B H (Own ρ σ) σ ⟨x, ([f].zip r.1).reverse⟩ r.2 := hr1
    obtain ⟨ds, ρ1⟩ := r
    dsimp only at c hr2 g1 R1 r1
    have hd : ∃ d, ds = [d] := by
      match ds, c with
      | [d], _ => exact ⟨d, rfl⟩
    obtain ⟨d, rfl⟩ := hd
    obtain ⟨v, rfl, rv⟩ := r1.one
    refine ⟨(by show 1 ≤ 1000; decide), fun ad hn => ⟨ad, v, rfl, upd_same, fun dx nd ne => ⟨rfl, dx, [(f, v)], upd_same, by rw [upd_ne ne, upd_same], ?_, ?_⟩⟩⟩
    · rw [upd_ne ne] at nd; exact nd
    · have nd1 : H1 dx = none := by rw [upd_ne ne] at nd; exact nd
      rw [del_upd hn ne]
      exact hr2 B1 _ σ _ _ (Kp.refl σ) (g1.trans (Go.newH nd1)) (R1.newH nd1) ⟨C, dx, [(f, v)], rfl, E.mgC, rfl, R1.ex.none nd1, upd_same, rfl, .cons rv .nil⟩
  · rw [if_neg c] at hr1; exact hr1.elim
theorem ss_raise2 {x f g p0 p1 p2 : Str} {b : Expr} {k : Nat} {C fI : Addr} {fd : FuncData} {p pos ps : Pos} (hc : X.calm = true) (tk : Takes X W) (E : ErC X.prog X.w X.K X.mg X.base x k (fun C => SpI2 C f g) C fI fd [p0, p1, p2]) (hr : Room (k + 1) X.A) (hg : Gl X x) (ha : SA X W [a, b] fa)
    (hdb : (x == ("__debug__" : Str)) = false := by decide) (he : starEach [a, b] X.env = (false, eval a X.env) :: starEach [b] X.env := by rfl) (hpl : (backTo pos (starEach [b] X.env)).any (·.1) = false := by rfl) :
    SS kp X W (.Raise (some (.Call (.Name x p) [a, b] [] pos)) none ps) (sRaise x [f, g] fa) := by
  intro B H ρ σ R D hw
  refine ⟨_, ps_raise hc tk (pmk_oex E.T E.iC E.tI E.F hr E.b .nil passL hg E.mgC pa_any hdb he hpl), ?_⟩
  unfold sRaise at hw
  rw [wp_bind] at hw
  refine ha B H ρ σ R _ (hw.mono (fun r hr1 B1 H1 vs g1 R1 r1 => ?_) fun _ _ z => z.toE)
  by_cases c : r.1.length = [f, g].length
  · rw [if_pos c] at hr1
    have hr2 : AskES kp X W B H (Own ρ σ) σ ⟨x, ([f, g].zip r.1).reverse⟩ r.2 := hr1
    obtain ⟨ds, ρ1⟩ := r
    dsimp only at c hr2 g1 R1 r1
    have hd : ∃ d d', ds = [d, d'] := by
      match ds, c with
      | [d, d'], _ => exact ⟨d, d', rfl⟩
    obtain ⟨d, d', rfl⟩ := hd
    obtain ⟨v, v', rfl, rv, rv'⟩ := r1.two
    refine ⟨(by show 2 ≤ 1000; decide), fun ad hn => ⟨ad, v, v', rfl, upd_same, fun dx nd ne => ⟨rfl, dx, [(g, v'), (f, v)], ?_, upd_same, ?_, ?_⟩⟩⟩
    · rw [upd_ne (Ne.symm ne), upd_same]
    · rw [upd_ne ne] at nd; exact nd
    · have nd1 : H1 dx = none := by rw [upd_ne ne] at nd; exact nd
      rw [del_upd2 hn ne]
      exact hr2 B1 _ σ _ _ (Kp.refl σ) (g1.trans (Go.newH nd1)) (R1.newH nd1) ⟨C, dx, [(g, v'), (f, v)], rfl, E.mgC, rfl, R1.ex.none nd1, upd_same, rfl, .cons rv' (.cons rv .nil)⟩
  · rw [if_neg c] at hr1; exact hr1.elim
end
end KV
set_option Elab.async false
set_option linter.all false
set_option autoImplicit false
set_option maxRecDepth 100000
set_option maxHeartbeats 2000000
namespace KV
open PySem PySem.Spec PyProof.Rows L2
variable [KK]

/-! ### own defs by name -/
structure DefOk (P : Program) (w : World) (K : PySem.W.Frag) (mg : Str → Option Value) (base : Heap) (x : Str) (k n : Nat) (F : Fn) : Prop where
  ex : ∃ (f : Addr) (fd : FuncData) (ps : List Str), mg x = some (.ref f) ∧ FnOk P w K mg base (L2.CX P w) k f fd ps (SpF mg F n) ∧ PySem.W.keepIn K (.ref f) = true ∧ Binds K fd ps []
section
variable {kp : Nat → Bool} {X : Cx} {W : WX} {e a b c tg : Expr} {es : List Expr} {f g h : FE} {fa : FA} {fr : FAr} {st : Stmt}
theorem sc_own {x : Str} {p pos : Pos} {k n : Nat} {F : Fn} (D : DefOk X.prog X.w X.K X.mg X.base x k n F) (tk : Takes X W) (hr : Room k X.A) (hg : Gl X x) (ha : SAr X W (e :: es) fr)
    (hdb : (x == ("__debug__" : Str)) = false := by decide) (he : starEach (e :: es) X.env = (false, eval e X.env) :: starEach es X.env := by rfl) (hpl : (backTo pos (starEach es X.env)).any (·.1) = false := by rfl) :
    SC X W (.Call (.Name x p) (e :: es) [] pos) (cCall F n fr) := by
  obtain ⟨f, fd, ps, h1, h2, h3, h4⟩ := D.ex
  exact sc_call tk (fun E t hE pa => pe_callS h2 hr hg h1 h3 h4 hE pa hdb he hpl) ha

theorem sc_ownP {x : Str} {p pos : Pos} {k n : Nat} {F : Fn} (D : DefOk X.prog X.w X.K X.mg X.base x k n F) (hpa : ∀ τ, PassesAt (L2.CX X.prog X.w) X τ (WE W τ)) (hr : Room k X.A) (hg : Gl X x) (ha : SAr X W (e :: es) fr)
    (hdb : (x == ("__debug__" : Str)) = false := by decide) (he : starEach (e :: es) X.env = (false, eval e X.env) :: starEach es X.env := by rfl) (hpl : (backTo pos (starEach es X.env)).any (·.1) = false := by rfl) :
    SC X W (.Call (.Name x p) (e :: es) [] pos) (cCall F n fr) := by
  obtain ⟨f, fd, ps, h1, h2, h3, h4⟩ := D.ex
  exact sc_callP hpa (fun E t hE pa => pe_callS h2 hr hg h1 h3 h4 hE pa hdb he hpl) ha

/-! ### (a, b, ..) = a tuple or a list -/
def gOr (g1 g2 : TG) : TG := fun v σ H Q => g1 v σ H Q ∨ g2 v σ H Q
theorem pg_or {g1 g2 : TG} (h1 : PG X tg g1) (h2 : PG X tg g2) : PG X tg (gOr g1 g2) := ⟨fun pins s σ H v u Q I r h => by
  rcases h with h | h
  · exact h1.run pins s σ H v u Q I r h
  · exact h2.run pins s σ H v u Q I r h⟩
def hUnp (is : List Nat) : HT' := fun d ρ => match d with
  | .tup ds => if ds.length = is.length then some (setAll is ds ρ) else none
  | .lst ds => if ds.length = is.length then some (setAll is ds ρ) else none
  | _ => none
theorem sg_unp {is : List Nat} (p1 : PG X tg (gTup X.K is.length (gNames is))) (p2 : PG X tg (gUnl X.K is.length (gNames is))) (hk : ∀ i ∈ is, kp i = false) : SG kp X tg (hUnp is) := by
  intro B H ρ σ v d ρ' R r he Q q
  refine ⟨_, pg_or p1 p2, ?_⟩
  unfold hUnp at he
  cases d <;> first | cases he | skip
  all_goals
    rename_i ds
    replace he : (if ds.length = is.length then some (setAll is ds ρ) else none) = some ρ' := he
    by_cases z : ds.length = is.length
    · rw [if_pos z] at he
      cases he
      first
        | (cases r with | tup h hs => exact .inl ⟨_, _, rfl, SqT.of (R.ex _ _ h), by rw [hs.length]; exact z, gNames_ok hk z R hs q⟩)
        | (cases r with | lst h hs => exact .inr ⟨_, _, rfl, SqL.of (R.ex _ _ h), by rw [hs.length]; exact z, gNames_ok hk z R hs q⟩)
    · rw [if_neg z] at he; cases he
def sUnp (hh : HT') (f : FE) : FS := fun ρ => (f ρ).bind fun r => match hh r.1 r.2 with
  | some ρ' => .ok (.nx ρ')
  | none => .st
theorem ss_unp {hh : HT'} (hps : ∀ te g, PE X e te → PG X tg g → PS X st (tAsg te g)) (h : SE X W e f) (hg : SG kp X tg hh) : SS kp X W st (sUnp hh f) := by
  intro B H ρ σ R D hw
  refine ⟨_, hps _ _ pe_any pg_any, ?_⟩
  unfold sUnp at hw
  refine h.thenS R hw fun B1 H1 ρ1 v d g1 R1 r1 hw1 => ?_
  dsimp only at hw1
  cases q : hh d ρ1 with
  | none => rw [q] at hw1; exact hw1.elim
  | some ρ' =>
    rw [q] at hw1
    exact hg B1 H1 ρ1 σ v d ρ' R1 r1 q _ fun σ' k' R' o' l' => hw1 B1 H1 σ' k' ⟨Ex.refl B1, fun _ _ h _ => h, fun _ _ _ h _ => h, fun a z => .inl (o' a z), fun _ h => h⟩ R'

/-! ### len, sum of a name's list, not handed on -/
def eCV (k : List D → Option D) (i : Nat) : FE := fun ρ => match ρ[i]? with
  | some (.ow ds) => match k [.lst ds] with
    | some (.int z) => .ok (.int z, ρ)
    | _ => .st
  | some (.sh d) => match k [d] with
    | some d' => .ok (d', ρ)
    | none => .st
  | _ => .st
/-- a rule that answers an int of a list as it stands -/
def CaV (r : List V → Hp → VK → Prop) (k : List D → Option D) : Prop := ∀ (B H : Hp) (a : Addr) (xs : List V) (ds : List D) (z : Int), H a = some (.lst xs) → RpL B xs ds → k [.lst ds] = some (.int z) → ∀ Q : VK, Q (.int z) H → r [.ref a] H Q
theorem caV_len : CaV (fun xs H Q => ∃ p ys, xs = [.ref p] ∧ (SqL KK.K H p ys ∨ SqT KK.K H p ys) ∧ Q (.int ys.length) H) dLen := by
  intro B H a xs ds z h r hk Q q
  have e : (ds.length : Int) = z := by
    have hk' : some (D.int ds.length) = some (D.int z) := hk
    injection hk' with hk'
    injection hk'
  exact ⟨a, xs, rfl, .inl (SqL.of h), by rw [r.length, e]; exact q⟩
theorem caV_sum {K : PySem.W.Frag} : CaV (rCOr (rSum K) (rSumT K)) dSum := by
  intro B H a xs ds z h r hk Q q
  have hk' : (intsOf ds).map (fun ns => D.int ns.sum) = some (D.int z) := hk
  cases e : intsOf ds with
  | none => rw [e] at hk'; cases hk'
  | some ns =>
    rw [e] at hk'
    have e2 : ns.sum = z := by
      injection hk' with hk'
      injection hk'
    rw [intsOf_eq e] at r
    rw [r.ints] at h
    exact .inl ⟨a, ns, rfl, SqL.of h, by rw [e2]; exact q⟩
theorem se_cv {i : Nat} {r : List V → Hp → VK → Prop} {k : List D → Option D} (hk : CaD r k) (hv : CaV r k) (hpe : ∀ ta, PA X [a] ta → PE X e (tCB r ta)) (p : PE X a (tVar i)) (hs : starEach [a] X.env = (false, eval a X.env) :: starEach [] X.env := by rfl) : SE X W e (eCV k i) := by
  intro B H ρ σ R Q hw
  refine ⟨_, hpe _ (pa_cons p pa_nil hs), ?_⟩
  unfold eCV at hw
  cases q0 : ρ[i]? with
  | none => rw [q0] at hw; exact hw.elim
  | some s =>
  rw [q0] at hw
  cases s with
  | un => exact hw.elim
  | sh d =>
    obtain ⟨v, e1, rx⟩ := R.at_ i _ q0
    dsimp only at hw
    cases q : k [d] with
    | none => rw [q] at hw; exact hw.elim
    | some d' =>
      rw [q] at hw
      exact ⟨v, getD_some e1, hk B H ρ σ [v] [d] d' R (.cons rx .nil) q Q hw⟩
  | ow ds =>
    obtain ⟨a0, xs, ev, hp, r0, n, hm⟩ := R.mutOw (es := []) q0
    dsimp only at hw
    cases q : k [.lst ds] with
    | none => rw [q] at hw; exact hw.elim
    | some d' =>
      rw [q] at hw
      cases d' <;> first | exact (show False from hw).elim | skip
      rename_i z
      exact ⟨_, ev, hv B H a0 xs ds z hp r0 q Q (hw B H _ (Go.refl ..) R (.int z))⟩

/-! ### types by name -/
theorem se_ty {x : Str} {n : String} {pos : Pos} (hg : Gl X x) (hm : X.mg x = none) (hv : bootBuiltins x = some (.type n)) (hn : x ≠ "__name__" := by decide) (hd : (x == ("__debug__" : Str)) = false := by decide) : SE X W (.Name x pos) (eC (.ty n)) :=
  se_c (pe_bltn (v := .ty n) hg hm hv rfl hn hd) fun _ => .ty n
end
/-- the builtins that the text names -/
structure Blt (mg : Str → Option Value) : Prop where
  len : mg "len" = none
  sum : mg "sum" = none
  max : mg "max" = none
  min : mg "min" = none
  abs : mg "abs" = none
  int : mg "int" = none
  bool : mg "bool" = none
  list : mg "list" = none
  tuple : mg "tuple" = none
  isinstance : mg "isinstance" = none
  range : mg "range" = none
  zip : mg "zip" = none
  enumerate : mg "enumerate" = none
  gcd : mg "gcd" = some (.builtin "math.gcd")
end KV
set_option Elab.async false
set_option linter.all false
set_option autoImplicit false
set_option maxRecDepth 100000
set_option maxHeartbeats 2000000
namespace KV
open PySem PySem.Spec PyProof.Rows L2
variable [KK]

/-! ### a list or a tuple, as one -/
def SqX (t : Bool) (K : PySem.W.Frag) (H : Hp) (a : Addr) (xs : List V) : Prop := if t then SqT K H a xs else SqL K H a xs
def isSq (t : Bool) (h : Heap) (a : Addr) (its : Array Value) : Prop := if t then h.IsTuple a its else h.IsList a its
def isIt (t : Bool) (h : Heap) (i a : Addr) (k : Nat) : Prop := if t then h.IsTupleIter i a k else h.IsListIter i a k
def itO (t : Bool) (a : Addr) : Obj := { cls := .type (if t then "tuple_iterator" else "list_iterator"), data := .fields #[.ref a, .int 0 0] }
theorem begins_sq (t : Bool) (a : Addr) (its : Array Value) : Begins (.ref a) (itO t a) fun h => isSq t h a its := by
  cases t
  · exact begins_list a its
  · exact begins_tuple a its
theorem draws_sq {P : Program} {w : World} {A : Around} (t : Bool) (hh : A.handled = none) (it a : Addr) (hne : a ≠ it) (its : Array Value) :
    Draws P w A it [it, a] its.size (fun i v => its[i]? = some v) (fun i h => isIt t h it a i ∧ isSq t h a its) := by
  cases t
  · exact Draws.list hh it a hne its
  · exact Draws.tuple hh it a hne its
theorem isIt_new (t : Bool) {h : Heap} {i a : Addr} (e : h.get? i = some (itO t a)) : isIt t h i a 0 := by
  cases t
  · exact ⟨_, e, rfl, rfl⟩
  · exact ⟨_, e, rfl, rfl⟩
theorem isIt_obj (t : Bool) {h : Heap} {i a : Addr} {k : Nat} (e : isIt t h i a k) : ∃ o, h.get? i = some o ∧ ∀ v, o.data ≠ .cell v := by
  cases t
  · obtain ⟨o, e1, _, d⟩ := e
    exact ⟨o, e1, fun v q => by rw [d] at q; cases q⟩
  · obtain ⟨o, e1, _, d⟩ := e
    exact ⟨o, e1, fun v q => by rw [d] at q; cases q⟩
theorem isIt_at (t : Bool) {h h' : Heap} {i a : Addr} {k : Nat} (e : isIt t h i a k) (f : ∀ o, h.get? i = some o → h'.get? i = some o) : isIt t h' i a k := by
  cases t
  · obtain ⟨o, e1, r⟩ := e
    exact ⟨o, f o e1, r⟩
  · obtain ⟨o, e1, r⟩ := e
    exact ⟨o, f o e1, r⟩
theorem isSq_lt (t : Bool) {h : Heap} {a : Addr} {its : Array Value} (e : isSq t h a its) : a < h.objs.size := by
  cases t
  · obtain ⟨o, e1, _⟩ := e; exact Heap.lt_size e1
  · obtain ⟨o, e1, _⟩ := e; exact Heap.lt_size e1
section
variable {X : Cx} {pins : List (Addr × Obj)} {σ : L2.St} {H : Hp} {s : Shared} {a : Addr} {xs ys : List V}
theorem inv_sq (t : Bool) (I : Inv X pins σ H s) (h : SqX t X.K H a xs) : ∃ its : List Value, Vals xs its ∧ isSq t s.heap a its.toArray := by
  cases t
  · obtain ⟨its, r, p, _⟩ := I.list h
    exact ⟨its, r, p.isList⟩
  · obtain ⟨its, r, p, _⟩ := I.tuple h
    exact ⟨its, r, p⟩
theorem inv_inj (t : Bool) (I : Inv X pins σ H s) (h : SqX t X.K H a xs) (h' : SqX t X.K H a ys) : xs = ys := by
  cases t
  · exact I.list_inj h h'
  · exact I.tuple_inj h h'
theorem sqX_of (t : Bool) {B H : Hp} {K : PySem.W.Frag} (e : Ex B H) (h : B a = some (if t then HO.tup xs else HO.lst xs)) : SqX t K H a xs := by
  cases t
  · exact SqL.of (e _ _ h)
  · exact SqT.of (e _ _ h)
end

/-! ### enumerate -/
def IteX (t : Bool) (K : PySem.W.Frag) (a : Addr) : It :=
  ⟨fun i H => ∃ (xs : List V) (x : V), SqX t K H a xs ∧ xs[i]? = some x, fun i H v H' => ∃ T x, v = .ref T ∧ H T = none ∧ H' = upd H T (.tup [.int (i : Nat), x]) ∧ ∀ xs, SqX t K H a xs → xs[i]? = some x, fun i H => ∃ xs : List V, SqX t K H a xs ∧ xs.length = i⟩
theorem turn_enumX {P : Program} {w : World} {K : PySem.W.Frag} {elts : List Expr} {kk : Nat} {tpos : Pos} (t : Bool) {a e it : Addr} (nea : e ≠ a) (nia : a ≠ it) :
    Turn P w K (.Tuple elts kk tpos) (IteX t K a) [e, it] e (fun i h => (∃ old, IsEnum h e it ((i : Nat) : Int) old) ∧ isIt t h it a i ∧ e ≠ it) where
  mem := by simp
  obj := fun i h st b hb => by
    obtain ⟨⟨old, he⟩, hi, _⟩ := st
    have e' : b = e ∨ b = it := by simpa using hb
    rcases e' with z | z
    · rw [z]; exact ⟨_, he, fun v q => nomatch q⟩
    · rw [z]; exact isIt_obj t hi
  keep := fun i h h' st k => let ⟨⟨old, he⟩, hi, hne⟩ := st; ⟨⟨old, k e (by simp) _ he⟩, isIt_at t hi fun o q => k it (by simp) o q, hne⟩
  item := by
    intro X hP hw hK hc i pins s σ H E I hf st hg
    subst hP hw hK
    obtain ⟨⟨old, he⟩, hit, hne⟩ := st
    obtain ⟨xs, x, hq, hx⟩ := hg
    obtain ⟨its, rv, p⟩ := inv_sq t I hq
    obtain ⟨u, hu, ru⟩ := rv.get hx
    have hel : e < s.heap.objs.size := Heap.lt_size he
    have hil : it < s.heap.objs.size := by obtain ⟨o, q, _⟩ := isIt_obj t hit; exact Heap.lt_size q
    have hlt : i < its.toArray.size := by
      obtain ⟨h1, _⟩ := List.getElem?_eq_some_iff.mp hu
      simpa using h1
    refine wpAny_pyNext_enum_itemD (draws_sq t (show X.A.in1.handled = none from I.ok.hd hc) it a nia its.toArray) he ⟨hit, p⟩ hlt hne (by simp [hne, nea]) fun y h' tk hy ho hst' hT hsz hk => ?_
    have hyu : y = u := by
      have e1 : its.toArray[i]? = some u := by simpa using hu
      rw [e1] at hy
      exact (Option.some.inj hy).symm
    subst hyu
    refine ⟨_, rfl, wpAny_letOwnedTupleGo_enum (s := { s with heap := h', toks := tk + 1 }) ho fun h2 he2 sb => ?_⟩
    have hT2 : h2.get? s.heap.objs.size = some { cls := .type "tuple", data := .seq #[.int i tk, y] } := (sb.2 _ (Nat.ne_of_gt hel)).trans hT
    have new : ObjOk X.prog X.w (upd H s.heap.objs.size (.tup [.int (i : Nat), x])) h2 s.heap.objs.size (.tup [.int (i : Nat), x]) :=
      ⟨by show 2 ≤ sizeLine; decide, [.int i tk, y], .cons ⟨_, rfl⟩ (.cons ru .nil), ⟨_, hT2, rfl, _, rfl⟩⟩
    have I1 : Inv X pins σ (upd H s.heap.objs.size (.tup [.int (i : Nat), x])) { s with heap := h2, toks := tk + 1 } :=
      I.turnedNew (ch := [e, it]) (fun b ob hb q => (sb.2 b (fun z => hb (by simp [z]))).trans (hk b ob (fun z => hb (by simp [z])) (fun z => hb (by simp [z])) q)) hf (Nat.le_refl _) new
    refine ⟨.ref s.heap.objs.size, _, I1, rfl, ⟨_, x, rfl, I.hok.fresh (Nat.le_refl _), rfl, fun zs hz => by rw [inv_inj t I hz hq]; exact hx⟩, ⟨⟨y, ?_⟩, isIt_at t hst'.1 fun o q => (sb.2 it (Ne.symm hne)).trans q, hne⟩, fun b hb => ?_⟩
    · have e1 : ((i + 1 : Nat) : Int) = (i : Int) + 1 := by omega
      rw [e1]; exact he2
    · have hb' : b < s.heap.objs.size := by
        have e' : b = e ∨ b = it := by simpa using hb
        rcases e' with z | z
        · rw [z]; exact hel
        · rw [z]; exact hil
      rw [upd_ne (Nat.ne_of_lt hb')]
      exact (hf b hb).1
  done := by
    intro X hP hw hK hc i pins s σ H E I hf st hg
    subst hP hw hK
    obtain ⟨⟨old, he⟩, hit, hne⟩ := st
    obtain ⟨xs, hq, hx⟩ := hg
    obtain ⟨its, rv, p⟩ := inv_sq t I hq
    obtain ⟨f0, f1, f2, f3, f4, f5⟩ := hf it (by simp)
    have hl : its.toArray.size = i := by simpa using rv.length.symm.trans hx
    exact wpAny_pyNext_enum_endD (draws_sq t (show X.A.in1.handled = none from I.ok.hd hc) it a nia its.toArray) he (by rw [hl]; exact ⟨hit, p⟩) fun h' eb => ⟨rfl, I.turned (t' := s.toks) (fun b o hb q => eb b o hb q) f0 f1 f3 f4 f5⟩
  self := fun A i s Q E st h => let ⟨⟨_, he⟩, _⟩ := st; wpAny_pyIter_enum he h
theorem wk_enum (t : Bool) {K : PySem.W.Frag} {B : Hp} {a : Addr} {xs : List V} {ds : List D} (h : B a = some (if t then HO.tup xs else HO.lst xs)) (r : RpL B xs ds) : Wk (IteX t K a) B (ds.zipIdx.map fun p => D.tup [.int (p.2 : Nat), p.1]) := by
  refine ⟨fun i H d e hd => ?_, fun i H e hl => ?_⟩
  · rw [List.getElem?_map, List.getElem?_zipIdx] at hd
    cases q : ds[i]? with
    | none => rw [q] at hd; cases hd
    | some y =>
      rw [q] at hd
      cases hd
      obtain ⟨v, hv, rv⟩ := r.get q
      refine ⟨⟨xs, v, sqX_of t e h, hv⟩, fun x H' hy => ?_⟩
      obtain ⟨T, x0, rfl, hT, rfl, hx⟩ := hy
      have hx2 := hx xs (sqX_of t e h)
      rw [hv] at hx2
      cases hx2
      exact .inr ⟨T, _, _, hT, rfl, rfl, .cons (.int _) (.cons rv .nil), by simp⟩
  · exact ⟨xs, sqX_of t e h, by rw [r.length]; simpa using hl⟩
/-! ### enumerate(v): made -/
set_option maxHeartbeats 4000000 in
theorem meets_en1 {v : Value} {o : Obj} {H : Heap → Prop} (B : Begins v o H) :
    Meets (Builtin.«enumerate.__new__» ⟨[.type "enumerate", v], []⟩) (fun _ R z => H z.heap ∧
      R (.ok (.ret (.ref (z.heap.push o).objs.size))) { z with heap := (z.heap.push o).push { cls := .type "enumerate", data := .fields #[.none, .bool false, .ref z.heap.objs.size, rawInt 0, .none, .none] } }) :=
  .of_wp fun prog w A R z hz => by
    obtain ⟨hp, g, d, tk, os⟩ := z
    obtain ⟨h1, hz⟩ := hz
    have hsub := sub_enumerate
    have q1 : ∀ {A2 : Around} {E : Value → Shared → Prop} {Q : Value → Shared → Prop}, Q (.ref hp.objs.size) ⟨hp.push o, g, d, tk, os⟩ → wpAny (model prog w) A2 (pyIter v) Q E ⟨hp, g, d, tk, os⟩ :=
      fun q => B.iter prog w _ _ ⟨hp, g, d, tk, os⟩ _ h1 q
    wp_walk using q1
    refine wpAny_stack_any fun st => wpAny_pure ?_
    split
    · rename_i c _ _ _ _ _
      cases (c == Value.type "enumerate") <;> (wp_walk using q1; exact ⟨_, rfl, hz⟩)
    · wp_walk using q1
      exact ⟨_, rfl, hz⟩
theorem enum_begins1 {prog : Program} {w : World} {A : Around} {E : Value → Shared → Prop} {s : Shared} {v : Value} {o : Obj} {H : Heap → Prop} {Q : Value → Shared → Prop} (B : Begins v o H) (h1 : H s.heap)
    (h : ∀ h2, IsEnum h2 (s.heap.objs.size + 1) s.heap.objs.size 0 .none → h2.get? s.heap.objs.size = some o → h2.objs.size = s.heap.objs.size + 2 →
      (∀ b u, s.heap.get? b = some u → h2.get? b = some u) → Q (.ref (s.heap.objs.size + 1)) { s with heap := h2 }) :
    wpAny (model prog w) A (call (.type "enumerate") [v]) Q E s := by
  refine callType_new F.called_enumerate (by decide) (F.typeCall_enumerate_1 _) (F.newCall_enumerate_1 _) (fun obj => F.args_object_init_2 obj _) F.entry_enumerate_new (meets_en1 B) ⟨h1, ?_⟩
  have sz : (s.heap.push o).objs.size = s.heap.objs.size + 1 := Heap.size_push ..
  show _ ∧ _
  rw [sz]
  have he : IsEnum ((s.heap.push o).push { cls := .type "enumerate", data := .fields #[.none, .bool false, .ref s.heap.objs.size, rawInt 0, .none, .none] }) (s.heap.objs.size + 1) s.heap.objs.size 0 .none := by
    have z := Heap.get?_push_size (s.heap.push o) (o := { cls := .type "enumerate", data := .fields #[.none, .bool false, .ref s.heap.objs.size, rawInt 0, .none, .none] }) rfl
    rw [sz] at z
    exact z
  exact ⟨⟨_, he, rfl⟩, h _ he (Heap.get?_push_of_some _ (Heap.get?_push_size _ B.free)) (by rw [Heap.size_push, sz]) fun b u x => Heap.get?_push_of_some _ (Heap.get?_push_of_some _ x)⟩
def iEnumX (K : PySem.W.Frag) (ta : TA) : TI := fun σ H R => ta σ H fun vs H1 => ∃ (t : Bool) (a : Addr) (xs : List V), vs = [.ref a] ∧ SqX t K H1 a xs ∧ R (IteX t K a) H1
theorem pi_enumX {X : Cx} {e : Expr} {ta : TA} {p pos tpos : Pos} {elts : List Expr} {kk : Nat} (hg : Gl X "enumerate") (hm : X.mg "enumerate" = none) (ha : PA X [e] ta) (hs : starEach [e] X.env = [(false, eval e X.env)] := by rfl) :
    PI X (.Tuple elts kk tpos) (.Call (.Name "enumerate" p) [e] [] pos) (iEnumX X.K ta) := by
  refine ⟨fun pins s σ H R I h => ?_⟩
  refine Call_ (ld_blt I hg hm boot_enumerate (PyProof.Rows.callWith_type1 (thn (ha.run pos pins s σ H _ I h) fun us s1 ⟨vs, H1, I1, r1, q1⟩ => ?_) hs rfl))
  obtain ⟨t, a, xs, ex, hq, q⟩ := q1
  subst ex
  cases r1 with
  | cons r rr =>
    cases rr
    cases r
    obtain ⟨its, rv, p'⟩ := inv_sq t I1 hq
    refine enum_begins1 (begins_sq t a its.toArray) p' fun h' he hit hsz hk => wpAny_pyIter_enum he ?_
    have I2 : Inv X pins σ H1 { s1 with heap := h' } := I1.kept (t' := s1.toks) hk
    have hal := isSq_lt t p'
    refine ⟨s1.heap.objs.size + 1, [s1.heap.objs.size + 1, s1.heap.objs.size], _, _, H1, rfl, I2, turn_enumX t (Nat.ne_of_gt (Nat.lt_succ_of_lt hal)) (Nat.ne_of_lt hal), ⟨⟨.none, he⟩, isIt_new t hit, Nat.succ_ne_self _⟩, fun b hb => ?_, q⟩
    have e' : b = s1.heap.objs.size + 1 ∨ b = s1.heap.objs.size := by simpa using hb
    have hle : s1.heap.objs.size ≤ b := by
      rcases e' with z | z
      · rw [z]; exact Nat.le_add_right _ _
      · rw [z]; exact Nat.le_refl _
    exact I1.fpOk hle (I1.hok.fresh hle)

/-! ### zip of two -/
def ItzX (t u : Bool) (K : PySem.W.Frag) (a b : Addr) : It :=
  ⟨fun i H => ∃ (xs ys : List V) (x y : V), SqX t K H a xs ∧ SqX u K H b ys ∧ xs[i]? = some x ∧ ys[i]? = some y,
    fun i H v H' => ∃ T x y, v = .ref T ∧ H T = none ∧ H' = upd H T (.tup [x, y]) ∧ (∀ xs, SqX t K H a xs → xs[i]? = some x) ∧ ∀ ys, SqX u K H b ys → ys[i]? = some y,
    fun i H => ∃ xs ys : List V, SqX t K H a xs ∧ SqX u K H b ys ∧ min xs.length ys.length = i⟩
theorem turn_zipX {P : Program} {w : World} {K : PySem.W.Frag} {elts : List Expr} {kk : Nat} {tpos : Pos} (t u : Bool) {a b z TI TO i1 i2 : Addr} (S : ZipSep2 z TI TO i1 i2 [i1, a] [i2, b]) (n1 : a ≠ i1) (n2 : b ≠ i2) :
    Turn P w K (.Tuple elts kk tpos) (ItzX t u K a b) [z, TI, TO, i1, i2] z (fun i h => IsZip h z TI TO .none ∧ IsTupOf2 h TI (.ref i1) (.ref i2) ∧ (∃ x y, IsTupOf2 h TO x y) ∧ isIt t h i1 a i ∧ isIt u h i2 b i) where
  mem := by simp
  obj := fun i h st c hc => by
    obtain ⟨hz, hTI, ⟨x, y, hTO⟩, d1, d2⟩ := st
    have ec : c = z ∨ c = TI ∨ c = TO ∨ c = i1 ∨ c = i2 := by simpa using hc
    rcases ec with q | q | q | q | q
    · rw [q]; exact ⟨_, hz, fun v q => nomatch q⟩
    · rw [q]; exact ⟨_, hTI, fun v q => nomatch q⟩
    · rw [q]; exact ⟨_, hTO, fun v q => nomatch q⟩
    · rw [q]; exact isIt_obj t d1
    · rw [q]; exact isIt_obj u d2
  keep := fun i h h' st k => by
    obtain ⟨hz, hTI, ⟨x, y, hTO⟩, h1, h2⟩ := st
    exact ⟨k z (by simp) _ hz, k TI (by simp) _ hTI, ⟨x, y, k TO (by simp) _ hTO⟩, isIt_at t h1 fun o q => k i1 (by simp) o q, isIt_at u h2 fun o q => k i2 (by simp) o q⟩
  item := by
    intro X hP hw hK hc i pins s σ H E I hf st hg
    subst hP hw hK
    obtain ⟨hz, hTI, ⟨x0, y0, hTO⟩, h1, h2⟩ := st
    obtain ⟨xs, ys, x, y, hqx, hqy, hx, hy⟩ := hg
    obtain ⟨its, rv, p⟩ := inv_sq t I hqx
    obtain ⟨its2, rv2, p2⟩ := inv_sq u I hqy
    obtain ⟨v1, hu, ru⟩ := rv.get hx
    obtain ⟨v2, hu2, ru2⟩ := rv2.get hy
    have hzl : z < s.heap.objs.size := Heap.lt_size hz
    have lt1 : i < its.toArray.size := by
      obtain ⟨q1, _⟩ := List.getElem?_eq_some_iff.mp hu
      simpa using q1
    have lt2 : i < its2.toArray.size := by
      obtain ⟨q1, _⟩ := List.getElem?_eq_some_iff.mp hu2
      simpa using q1
    have hh : X.A.in1.handled = none := I.ok.hd hc
    refine wpAny_pyNext_zipD2_item S (draws_sq t hh i1 a n1 its.toArray) (draws_sq u hh i2 b n2 its2.toArray) hz hTI hTO ⟨h1, p⟩ ⟨h2, p2⟩ lt1 lt2 fun w1 w2 h' tk e1 e2 hz2 hTO2 st1 st2 hT hsz hk => ?_
    have w1e : w1 = v1 := by
      have q : its.toArray[i]? = some v1 := by simpa using hu
      rw [q] at e1
      exact (Option.some.inj e1).symm
    have w2e : w2 = v2 := by
      have q : its2.toArray[i]? = some v2 := by simpa using hu2
      rw [q] at e2
      exact (Option.some.inj e2).symm
    subst w1e
    subst w2e
    refine ⟨_, rfl, wpAny_letOwnedTupleGo_zip (s := { s with heap := h', toks := tk }) hz2 fun h3 hz3 sb => ?_⟩
    have hT2 : h3.get? s.heap.objs.size = some { cls := .type "tuple", data := .seq #[w1, w2] } := (sb.2 _ (Nat.ne_of_gt hzl)).trans hT
    have new : ObjOk X.prog X.w (upd H s.heap.objs.size (.tup [x, y])) h3 s.heap.objs.size (.tup [x, y]) :=
      ⟨by show 2 ≤ sizeLine; decide, [w1, w2], .cons ru (.cons ru2 .nil), ⟨_, hT2, rfl, _, rfl⟩⟩
    have I1 : Inv X pins σ (upd H s.heap.objs.size (.tup [x, y])) { s with heap := h3, toks := tk } :=
      I.turnedNew (ch := [z, TI, TO, i1, i2]) (fun c o hb q => (sb.2 c (fun q2 => hb (by simp [q2]))).trans (hk c o (fun q2 => hb (by simp [q2])) (fun q2 => hb (by simp [q2])) (fun q2 => hb (by simp [q2])) (fun q2 => hb (by simp [q2])) q)) hf (Nat.le_refl _) new
    refine ⟨.ref s.heap.objs.size, _, I1, rfl, ⟨_, x, y, rfl, I.hok.fresh (Nat.le_refl _), rfl, fun l hl => by rw [inv_inj t I hl hqx]; exact hx, fun l hl => by rw [inv_inj u I hl hqy]; exact hy⟩, ⟨hz3, ?_, ⟨w1, w2, ?_⟩, ?_, ?_⟩, fun c hcm => ?_⟩
    · exact (sb.2 _ S.TIz).trans (hk _ _ S.TIz S.TITO S.TIi1 S.TIi2 hTI)
    · exact (sb.2 _ S.TOz).trans hTO2
    · exact isIt_at t st1.1 fun o q => (sb.2 _ (Ne.symm S.zi1)).trans q
    · exact isIt_at u st2.1 fun o q => (sb.2 _ (Ne.symm S.zi2)).trans q
    · have hlt : c < s.heap.objs.size := by
        have ec : c = z ∨ c = TI ∨ c = TO ∨ c = i1 ∨ c = i2 := by simpa using hcm
        rcases ec with q | q | q | q | q
        · rw [q]; exact hzl
        · rw [q]; exact Heap.lt_size hTI
        · rw [q]; exact Heap.lt_size hTO
        · rw [q]; obtain ⟨o, e, _⟩ := isIt_obj t h1; exact Heap.lt_size e
        · rw [q]; obtain ⟨o, e, _⟩ := isIt_obj u h2; exact Heap.lt_size e
      rw [upd_ne (Nat.ne_of_lt hlt)]
      exact (hf c hcm).1
  done := by
    intro X hP hw hK hc i pins s σ H E I hf st hg
    subst hP hw hK
    obtain ⟨hz, hTI, ⟨x0, y0, hTO⟩, h1, h2⟩ := st
    obtain ⟨xs, ys, hqx, hqy, hend⟩ := hg
    obtain ⟨its, rv, p⟩ := inv_sq t I hqx
    obtain ⟨its2, rv2, p2⟩ := inv_sq u I hqy
    have l1 : its.toArray.size = xs.length := by rw [List.size_toArray]; exact rv.length.symm
    have l2 : its2.toArray.size = ys.length := by rw [List.size_toArray]; exact rv2.length.symm
    have hh : X.A.in1.handled = none := I.ok.hd hc
    exact wpAny_pyNext_zipD2_end S (draws_sq t hh i1 a n1 its.toArray) (draws_sq u hh i2 b n2 its2.toArray) hz hTI hTO ⟨h1, p⟩ ⟨h2, p2⟩ (by omega) (by omega) (by omega) fun h' tk hk => ⟨rfl, I.turnedL (ch := [z, TI, TO, i1, i2]) (fun c o hb q =>
      hk c o (fun q2 => hb (by simp [q2])) (fun q2 => hb (by simp [q2])) (fun q2 => hb (by simp [q2])) (fun q2 => hb (by simp [q2])) q) hf⟩
  self := fun A i s Q E st h => wpAny_pyIter_zip st.1 h
def iZipX (K : PySem.W.Frag) (ta : TA) : TI := fun σ H R => ta σ H fun vs H1 => ∃ (t u : Bool) (a b : Addr) (xs ys : List V), vs = [.ref a, .ref b] ∧ SqX t K H1 a xs ∧ SqX u K H1 b ys ∧ R (ItzX t u K a b) H1
theorem nin2 {c x y : Nat} (h : c ≠ x) (k : c ≠ y) : c ∉ [x, y] := fun m => by
  rcases List.mem_cons.mp m with q | q
  · exact h q
  · exact k (List.mem_singleton.mp q)
theorem sep_new {n a b : Nat} (ha : a < n) (hb : b < n) : ZipSep2 (n + 4) (n + 2) (n + 3) n (n + 1) [n, a] [n + 1, b] :=
  ⟨by show n + 2 ≠ n + 4; omega, by show n + 3 ≠ n + 4; omega, by show n + 2 ≠ n + 3; omega, by show n + 2 ≠ n; omega, List.mem_cons_self, nin2 (by omega) (by omega), nin2 (by omega) (by omega), by show n + 2 ≠ n + 1; omega, List.mem_cons_self, nin2 (by omega) (by omega), nin2 (by omega) (by omega), nin2 (by omega) (by omega), nin2 (by omega) (by omega)⟩
theorem pi_zipX {X : Cx} {e e2 : Expr} {ta : TA} {p pos tpos : Pos} {elts : List Expr} {kk : Nat} (hg : Gl X "zip") (hm : X.mg "zip" = none) (ha : PA X [e, e2] ta)
    (hs : starEach [e, e2] X.env = (false, eval e X.env) :: starEach [e2] X.env := by rfl) (hpl : (backTo pos (starEach [e2] X.env)).any (·.1) = false := by rfl) :
    PI X (.Tuple elts kk tpos) (.Call (.Name "zip" p) [e, e2] [] pos) (iZipX X.K ta) := by
  refine ⟨fun pins s σ H R I h => ?_⟩
  refine Call_ (ld_blt I hg hm PyProof.Rows.boot_zip (PyProof.Rows.callWith_type1 (thn (ha.run pos pins s σ H _ I h) fun us s1 ⟨vs, H1, I1, r1, q1⟩ => ?_) hs hpl))
  obtain ⟨t, u, a, b, xs, ys, ex, hqx, hqy, q⟩ := q1
  subst ex
  cases r1 with
  | cons r rr =>
    cases rr with
    | cons r' rr =>
      cases rr
      cases r
      cases r'
      have fresh5 : ∀ c, c ∈ [s1.heap.objs.size + 4, s1.heap.objs.size + 2, s1.heap.objs.size + 3, s1.heap.objs.size, s1.heap.objs.size + 1] → FpOk X pins H1 c := fun c hcm => by
        have hle : s1.heap.objs.size ≤ c := by
          simp only [List.mem_cons, List.not_mem_nil, or_false] at hcm
          rcases hcm with z | z | z | z | z <;> rw [z] <;> first | exact Nat.le_add_right _ _ | exact Nat.le_refl _
        exact I1.fpOk hle (I1.hok.fresh hle)
      obtain ⟨its, rv, p1⟩ := inv_sq t I1 hqx
      obtain ⟨its2, rv2, p2⟩ := inv_sq u I1 hqy
      refine zip_begins2 (begins_sq t a its.toArray) (begins_sq u b its2.toArray) p1 p2 fun h' hz hTI hTO h1 h2 hsz hk => wpAny_pyIter_zip hz ?_
      have I2 : Inv X pins σ H1 { s1 with heap := h' } := I1.kept (t' := s1.toks) hk
      exact ⟨s1.heap.objs.size + 4, [s1.heap.objs.size + 4, s1.heap.objs.size + 2, s1.heap.objs.size + 3, s1.heap.objs.size, s1.heap.objs.size + 1], _, _, H1, rfl, I2,
        turn_zipX t u (sep_new (isSq_lt t p1) (isSq_lt u p2)) (Nat.ne_of_lt (isSq_lt t p1)) (Nat.ne_of_lt (Nat.lt_succ_of_lt (isSq_lt u p2))), ⟨hz, hTI, ⟨_, _, hTO⟩, isIt_new t h1, isIt_new u h2⟩, fresh5, q⟩
def zipD (ds es : List D) : List D := List.zipWith (fun x y => D.tup [x, y]) ds es
theorem wk_zip (t u : Bool) {K : PySem.W.Frag} {B : Hp} {a b : Addr} {xs ys : List V} {ds es : List D} (h : B a = some (if t then HO.tup xs else HO.lst xs)) (r : RpL B xs ds) (h2 : B b = some (if u then HO.tup ys else HO.lst ys)) (r2 : RpL B ys es) :
    Wk (ItzX t u K a b) B (zipD ds es) := by
  refine ⟨fun i H d e hd => ?_, fun i H e hl => ?_⟩
  · unfold zipD at hd
    rw [List.getElem?_zipWith] at hd
    cases q1 : ds[i]? with
    | none => rw [q1] at hd; cases hd
    | some d1 =>
      cases q2 : es[i]? with
      | none => rw [q1, q2] at hd; cases hd
      | some d2 =>
        rw [q1, q2] at hd
        cases hd
        obtain ⟨v1, hv1, rv1⟩ := r.get q1
        obtain ⟨v2, hv2, rv2⟩ := r2.get q2
        refine ⟨⟨xs, ys, v1, v2, sqX_of t e h, sqX_of u e h2, hv1, hv2⟩, fun x H' hy => ?_⟩
        obtain ⟨T, x0, y0, rfl, hT, rfl, hx, hz⟩ := hy
        have hx2 := hx xs (sqX_of t e h)
        have hz2 := hz ys (sqX_of u e h2)
        rw [hv1] at hx2
        rw [hv2] at hz2
        cases hx2
        cases hz2
        exact .inr ⟨T, _, _, hT, rfl, rfl, .cons rv1 (.cons rv2 .nil), rfl⟩
  · exact ⟨xs, ys, sqX_of t e h, sqX_of u e h2, by
      unfold zipD at hl
      rw [List.length_zipWith] at hl
      rw [r.length, r2.length]
      exact hl⟩

/-! ### the walks -/
theorem seq_of {B : Hp} {v : V} {d : D} {ds : List D} (r : Rp B v d) (h : itemsOf d = some ds) : ∃ (t : Bool) (a : Addr) (xs : List V), v = .ref a ∧ B a = some (if t then HO.tup xs else HO.lst xs) ∧ RpL B xs ds := by
  cases r <;> first | cases h | skip
  · rename_i a xs hb hs
    exact ⟨false, a, xs, rfl, hb, hs⟩
  · rename_i a xs hb hs
    exact ⟨true, a, xs, rfl, hb, hs⟩
section
variable {X : Cx} {W : WX} {e e2 : Expr} {fa : FA}
def gEnum (fa : FA) : FA := fun ρ => (fa ρ).bind fun r => match r.1 with
  | [d] => match itemsOf d with
    | some ds => .ok (ds.zipIdx.map fun p => D.tup [.int (p.2 : Nat), p.1], r.2)
    | none => .st
  | _ => .st
theorem si_enum {p pos tpos : Pos} {elts : List Expr} {kk : Nat} (hg : Gl X "enumerate") (hm : X.mg "enumerate" = none) (h : SA X W [e] fa) (hs : starEach [e] X.env = [(false, eval e X.env)] := by rfl) :
    SI X W (.Tuple elts kk tpos) (.Call (.Name "enumerate" p) [e] [] pos) (gEnum fa) := by
  intro B H ρ σ R RR hw
  refine ⟨_, pi_enumX hg hm pa_any hs, ?_⟩
  unfold gEnum at hw
  rw [wp_bind] at hw
  refine h B H ρ σ R _ (hw.mono (fun r hr B1 H1 vs g1 R1 r1 => ?_) fun _ _ z => z)
  obtain ⟨ds0, ρ1⟩ := r
  dsimp only at hr r1 R1 g1
  split at hr
  · rename_i d
    obtain ⟨v, rfl, rv⟩ := r1.one
    cases q : itemsOf d with
    | none => rw [q] at hr; exact hr.elim
    | some ds =>
      rw [q] at hr
      obtain ⟨t, a, xs, rfl, hb, hs2⟩ := seq_of rv q
      exact ⟨t, a, xs, rfl, sqX_of t R1.ex hb, hr _ B1 H1 g1 R1 (wk_enum t hb hs2)⟩
  · exact hr.elim
def gZip (fa : FA) : FA := fun ρ => (fa ρ).bind fun r => match r.1 with
  | [d1, d2] => match itemsOf d1, itemsOf d2 with
    | some ds, some es => .ok (zipD ds es, r.2)
    | _, _ => .st
  | _ => .st
theorem si_zip {p pos tpos : Pos} {elts : List Expr} {kk : Nat} (hg : Gl X "zip") (hm : X.mg "zip" = none) (h : SA X W [e, e2] fa)
    (hs : starEach [e, e2] X.env = (false, eval e X.env) :: starEach [e2] X.env := by rfl) (hpl : (backTo pos (starEach [e2] X.env)).any (·.1) = false := by rfl) :
    SI X W (.Tuple elts kk tpos) (.Call (.Name "zip" p) [e, e2] [] pos) (gZip fa) := by
  intro B H ρ σ R RR hw
  refine ⟨_, pi_zipX hg hm pa_any hs hpl, ?_⟩
  unfold gZip at hw
  rw [wp_bind] at hw
  refine h B H ρ σ R _ (hw.mono (fun r hr B1 H1 vs g1 R1 r1 => ?_) fun _ _ z => z)
  obtain ⟨ds0, ρ1⟩ := r
  dsimp only at hr r1 R1 g1
  split at hr
  · rename_i d1 d2
    obtain ⟨v, w, rfl, rv, rw2⟩ := r1.two
    cases q1 : itemsOf d1 with
    | none => rw [q1] at hr; exact hr.elim
    | some ds =>
      cases q2 : itemsOf d2 with
      | none => rw [q1, q2] at hr; exact hr.elim
      | some es =>
        rw [q1, q2] at hr
        obtain ⟨t, a, xs, rfl, hb, hs2⟩ := seq_of rv q1
        obtain ⟨u, b, ys, rfl, hb2, hs3⟩ := seq_of rw2 q2
        exact ⟨t, u, a, b, xs, ys, rfl, sqX_of t R1.ex hb, sqX_of u R1.ex hb2, hr _ B1 H1 g1 R1 (wk_zip t u hb hs2 hb2 hs3)⟩
  · exact hr.elim
end
end KV
set_option Elab.async false
set_option linter.all false
set_option autoImplicit false
set_option maxRecDepth 100000
set_option maxHeartbeats 4000000
namespace KV
open PySem PySem.Spec PyProof.Rows L2
variable [KK]

/-! ### tuple * 0, tuple * 1 -/
theorem mul_one_t (l : Addr) (items : Array Value) (n : Nat) (dd : Option Addr) (sl : Array (Option Value)) (u : Tok) :
    Meets (Builtin.«tuple.__mul__» ⟨[.ref l, .int 1 u], []⟩) (fun _ R z => z.heap.get? l = some { cls := .type "tuple", dict := dd, data := .seq items n, slots := sl } ∧ R (.ok (.ret (Value.ref l))) z) :=
  .of_wp fun prog w A R z hz => by
    obtain ⟨hp, g, d, tk, os⟩ := z
    obtain ⟨hl, hz⟩ := hz
    have f1 := AutoSeq1.idx_int
    have e1 : (items.isEmpty || (1 : Int) == 1) = true := by simp
    wp_walk using AutoSeq1.wpAny_loadPart' hl
    repeat (first
      | (refine wpAny_ite_false (decide_eq_false (by decide)) ?_; wp_walk using AutoSeq1.wpAny_loadPart' hl)
      | (refine wpAny_ite_true (decide_eq_true e1) ?_; wp_walk using AutoSeq1.wpAny_loadPart' hl))
    exact ⟨_, rfl, hz⟩
theorem mul_zero_t (l : Addr) (items : Array Value) (n : Nat) (dd : Option Addr) (sl : Array (Option Value)) (u : Tok) (hne : items.isEmpty = false) :
    Meets (Builtin.«tuple.__mul__» ⟨[.ref l, .int 0 u], []⟩) (fun _ R z => z.heap.get? l = some { cls := .type "tuple", dict := dd, data := .seq items n, slots := sl } ∧
      R (.ok (.ret (Value.ref z.heap.objs.size))) { z with heap := z.heap.push { cls := Value.type "tuple", data := Data.seq #[] }, toks := z.toks }) :=
  .of_wp fun prog w A R z hz => by
    obtain ⟨hp, g, d, tk, os⟩ := z
    obtain ⟨hl, hz⟩ := hz
    have f1 := AutoSeq1.idx_int
    have e1 : (items.isEmpty || (0 : Int) == 1) = false := by rw [hne]; rfl
    have e2 : (decide ((0 : Int) ≤ 0) || items.isEmpty) = true := by simp
    wp_walk using AutoSeq1.wpAny_loadPart' hl
    repeat (first
      | (refine wpAny_ite_false (decide_eq_false (by decide)) ?_; wp_walk using AutoSeq1.wpAny_loadPart' hl)
      | (refine wpAny_ite_false (decide_eq_false (by rw [e1]; exact Bool.false_ne_true)) ?_; wp_walk using AutoSeq1.wpAny_loadPart' hl)
      | (refine wpAny_ite_true (decide_eq_true e2) ?_; wp_walk using AutoSeq1.wpAny_loadPart' hl))
    exact ⟨_, rfl, hz⟩
def rRep01 (K : PySem.W.Frag) : R2 := fun x y H Q => ∃ l k xs, x = .ref l ∧ y = .int k ∧ SqT K H l xs ∧ xs ≠ [] ∧ ((k = 1 ∧ Q (.ref l) H) ∨ (k = 0 ∧ ∀ p, H p = none → Q (.ref p) (upd H p (.tup []))))
section
variable {X : Cx}
theorem op_rep01 : OpR X (binaryOp .Mult) (rRep01 X.K) := by
  intro pins s σ H x y v u Q I rx ry h
  obtain ⟨l, k, xs, rfl, rfl, hT, hne, hk⟩ := h
  cases rx
  obtain ⟨tt, rfl⟩ := ry
  obtain ⟨its, r, ⟨⟨cls, dd, data, sl⟩, ho, hc, n, hd⟩, hs⟩ := I.tuple hT
  simp only at hc hd
  subst hc hd
  have hn : its ≠ [] := fun e => hne (by
    have hle := r.length
    rw [e] at hle
    exact List.eq_nil_of_length_eq_zero hle)
  have hi : its.toArray.isEmpty = false := by
    cases its with
    | nil => exact absurd rfl hn
    | cons a b => rfl
  rcases hk with ⟨rfl, q⟩ | ⟨rfl, q⟩
  · refine wpAny_binaryOp_repeat_ref (T := "tuple") (U := "int") (by decide) ⟨_, ho, rfl⟩ (fun z => typeIs_int z 1 tt) noFill_tuple_mul F.fills_int_mul F.slot_int_rmul repeat_tuple F.slot_int_index.lookup
      (call_meets F.slot_int_rmul (typeIs_int s 1 tt) F.entry_int_rmul (F.args_int_rmul_2 _ _) (int_rmul_tuple 1 tt l its.toArray n dd sl)
        ⟨ho, rfl, ⟨_, ho, rfl⟩, call_meets F.slot_tuple_mul ⟨_, ho, rfl⟩ F.entry_tuple_mul (F.args_tuple_mul_2 _ _) (mul_one_t l its.toArray n dd sl tt) ⟨ho, ?_⟩⟩)
    exact ⟨.ref l, H, I, rfl, q⟩
  · refine wpAny_binaryOp_repeat_ref (T := "tuple") (U := "int") (by decide) ⟨_, ho, rfl⟩ (fun z => typeIs_int z 0 tt) noFill_tuple_mul F.fills_int_mul F.slot_int_rmul repeat_tuple F.slot_int_index.lookup
      (call_meets F.slot_int_rmul (typeIs_int s 0 tt) F.entry_int_rmul (F.args_int_rmul_2 _ _) (int_rmul_tuple 0 tt l its.toArray n dd sl)
        ⟨ho, rfl, ⟨_, ho, rfl⟩, call_meets F.slot_tuple_mul ⟨_, ho, rfl⟩ F.entry_tuple_mul (F.args_tuple_mul_2 _ _) (mul_zero_t l its.toArray n dd sl tt hi) ⟨ho, ?_⟩⟩)
    refine ⟨.ref s.heap.objs.size, _, I.laid (t' := s.toks) (o := .tup []) (fun b ob q => Heap.get?_push_of_some _ q) (Nat.le_refl _) ?_, rfl, q _ (I.hok.fresh (Nat.le_refl _))⟩
    exact ⟨by show 0 ≤ sizeLine; exact Nat.zero_le _, [], .nil, IsTup.new _ _⟩
theorem op_rep2 : OpR X (binaryOp .Mult) (rOr (rRep01 X.K) (rRepT X.K)) := op_or op_rep01 op_repT
end
/-- (c,) * k -/
def dRep : D → D → Option D
  | .tup [c], .int k => if decide (0 ≤ k) && decide (k ≤ 1000) then some (.tup (List.replicate k.toNat c)) else none
  | _, _ => none
theorem RpL.rep {B : Hp} {v : V} {d : D} (r : Rp B v d) : ∀ n : Nat, RpL B (List.replicate n [v]).flatten (List.replicate n d)
  | 0 => .nil
  | n + 1 => .cons r (RpL.rep r n)
theorem opD_rep {K : PySem.W.Frag} : OpD (rOr (rRep01 K) (rRepT K)) dRep := by
  intro B H ρ σ v u x y d R rx ry hd Q q
  unfold dRep at hd
  split at hd <;> first | cases hd | skip
  rename_i c k
  by_cases z : (decide (0 ≤ k) && decide (k ≤ 1000)) = true
  · rw [if_pos z] at hd
    cases hd
    obtain ⟨z1, z2⟩ := Bool.and_eq_true_iff.mp z
    have z1' := of_decide_eq_true z1
    have z2' := of_decide_eq_true z2
    cases ry
    cases rx with
    | @tup a xs _ hb hs =>
      obtain ⟨w, rfl, rw1⟩ := hs.one
      by_cases c0 : k = 0
      · subst c0
        exact .inl ⟨a, 0, [w], rfl, rfl, SqT.of (R.ex _ _ hb), by simp, .inr ⟨rfl, fun p hp => q _ _ _ (Go.new R.ex hp) (R.new hp) (.tup upd_same .nil)⟩⟩
      · by_cases c1 : k = 1
        · subst c1
          exact .inl ⟨a, 1, [w], rfl, rfl, SqT.of (R.ex _ _ hb), by simp, .inl ⟨rfl, q B H _ (Go.refl ..) R (.tup hb (.cons rw1 .nil))⟩⟩
        · refine .inr ⟨a, k, [w], rfl, rfl, SqT.of (R.ex _ _ hb), by simp, by omega, z2', by simp, fun p hp => ?_⟩
          exact q _ _ _ (Go.new R.ex hp) (R.new hp) (.tup upd_same ((RpL.rep rw1 _).mono (Ex.new (R.ex.none hp))))
  · rw [if_neg z] at hd; cases hd
end KV
set_option Elab.async false
set_option linter.all false
set_option autoImplicit false
set_option maxRecDepth 100000
set_option maxHeartbeats 4000000
namespace PySem.W
open PySem PySem.Spec PySem.Calls PyProof.Rows
section
variable {prog : Program} {w : World} {A : Around} {E : Value → Shared → Prop} {s : Shared} {K : Frag} {x D : Addr} {ox : Obj}
/-- the class of an error that has a dict, asked by its attribute -/
theorem kv_classE {od : Obj} {Q : Option Value → Shared → Prop} (c1 : findIn K (.ref D) "__getattribute__" = some (some (.builtin "BaseException.__getattribute__"))) (c2 : findIn K (.ref D) "__getattr__" = some none) (c3 : subIn K (.ref D) (.type "BaseException") = some true)
    (c4 : hasDictIn K D = true) (c5 : findIn K (.ref D) "__class__" = some (some (.builtin "object.__class__"))) (c6 : specialIn K (.builtin "object.__class__") "__get__" = some (some (.builtin "getset_descriptor.__get__"))) (c7 : takesIn K (.builtin "object.__class__") = some true) (c8 : mroIn K D (.type "object") = some true)
    (X : K.In s.heap) (I : InstAt s.heap x ox D (some od)) (h : Q (some (.ref D)) { s with toks := s.toks + 1 }) : wpAny (model prog w) A (getAttr? (.ref x) "__class__") Q E s := by
  have hf : findObj K D (some od) "__class__" = some (.bind (.builtin "getset_descriptor.__get__") (.builtin "object.__class__")) := findObj_data (by obtain ⟨cd, hc, _⟩ := any_some c4; rw [hc]; rfl) c5 c6 c7
  obtain ⟨hp, g, d, t, os⟩ := s
  have T0 := I.type (M := model prog w)
  have T1 := looks_findIn (M := model prog w) X c1
  have T2 := looks_findIn (M := model prog w) X c2
  have T3 := looks_find (M := model prog w) X I hf
  have sb : Looks (model prog w) hp (isInstance (.ref x) (.type "BaseException")) true := T0.andThen (looks_subIn X c3)
  have y0 : (false && onTheHeap (Value.builtin "BaseException.__getattribute__")) = false := rfl
  have y2 : (Value.builtin "BaseException.__getattribute__" == Value.builtin "object.__getattribute__") = false := by decide +kernel
  have y1 : (onTheHeap (Value.ref D) && Value.builtin "BaseException.__getattribute__" == Value.builtin "object.__getattribute__") = false := by rw [y2]; rfl
  unfold getAttr? getAttrBy? getAttrBy
  refine wpAny_bind (wpAny_mkText (wpAny_bind (wpAny_attempt (wpAny_holding (wpAny_bind (T0.at (wpAny_bind (T1.at ?_))))))))
  show wpAny _ _ (if (onTheHeap (Value.ref D) && Value.builtin "BaseException.__getattribute__" == Value.builtin "object.__getattribute__") = true then _ else _) _ _ _
  rw [y1, if_neg Bool.false_ne_true]
  unfold getAttrByItsOwn hookBefore
  refine wpAny_bind ?_
  rw [if_pos (show onTheHeap (Value.ref D) = true from rfl)]
  refine T2.at ?_
  refine wpAny_bind (wpAny_attempt (wpAny_holding ?_))
  unfold callGetattribute
  rw [y0, if_neg Bool.false_ne_true]
  unfold boundAndCalled
  rw [PySem.F.excAttr_ValueError.ga.bind (.ref x)]
  refine wpAny_bind (wpAny_pure ?_)
  show wpAny _ _ (call (.builtin "BaseException.__getattribute__") [.ref x, .str "__class__" t]) _ _ _
  refine wpAny_call (codeAny_call_builtin PySem.F.excAttr_ValueError.ga.plain PySem.F.entry_bexc_ga ?_)
  refine @check_slot (model prog w) _ _ ⟨hp, g, d, t + 1, os⟩ "BaseException.__getattribute__" "BaseException" "__getattribute__" (.ref x) [.str "__class__" t] [] _ (by decide +kernel) (by decide +kernel) sb (PySem.F.args_bexc_ga (.ref x) (.str "__class__" t)) ?_
  unfold Builtin.«object.__getattribute__»
  refine wpAny_bind (wpAny_of_eq (a := ((Value.ref x : Value), [Value.str "__class__" t])) (by first | rfl | (simp only [slotArgs]; rfl)) ?_)
  refine wpAny_bind (wpAny_pure (wpAny_bind (T0.at (wpAny_bind (T3.at ?_)))))
  show wpAny _ _ (holding [Value.builtin "object.__class__"] (call (.builtin "getset_descriptor.__get__") [.builtin "object.__class__", .ref x, .ref D]) >>= ret) _ _ _
  refine wpAny_bind (wpAny_holding (wpAny_call (class_get (s := ⟨hp, g, d, t + 1, os⟩) (ox := ox) (od := some od) X I c8 ?_)))
  refine wpAny_pure ?_
  show wpAny _ _ (handedOut (.ref D)) _ _ _
  rw [handedOut_of (v := .ref D) rfl]
  first
    | exact wpAny_pure (wpAny_pure h)
    | exact wpAny_pure h
    | exact wpAny_pure (wpAny_bind (wpAny_pure (wpAny_pure h)))
theorem kv_kitx (c1 : findIn K (.ref D) "__getattribute__" = some (some (.builtin "BaseException.__getattribute__"))) (c2 : findIn K (.ref D) "__getattr__" = some none) (c3 : subIn K (.ref D) (.type "BaseException") = some true) (c4 : hasDictIn K D = true) (c5 : findIn K (.ref D) "__class__" = some (some (.builtin "object.__class__")))
    (c6 : specialIn K (.builtin "object.__class__") "__get__" = some (some (.builtin "getset_descriptor.__get__"))) (c7 : takesIn K (.builtin "object.__class__") = some true) (c8 : mroIn K D (.type "object") = some true) :
    KitX K (.ref x) (.ref D) (fun h => ∃ od, InstAt h x ox D (some od)) where
  ty := fun _ _ _ ⟨_, I⟩ => I.type
  it := fun _ _ X _ => by
    obtain ⟨cd, hc, _⟩ := any_some c4
    unfold clsIn at hc
    split at hc
    · rename_i c' d' cd' sl' ho
      intro A' Q' E' s' k q
      unfold isType loadHead
      exact wpAny_bind (wpAny_loadPart (k _ _ (X _ _ ho)) (wpAny_pure q))
    · cases hc
  ne := fun h tp dd its n sl X htp => by
    obtain ⟨cd, hc, _⟩ := any_some c4
    refine Bool.eq_false_iff.mpr fun q => ?_
    have e : D = tp := Value.ref.inj (beq_iff_eq.mp q)
    subst e
    unfold clsIn at hc
    split at hc
    · rename_i c' d' cd' sl' ho
      have z := (X _ _ ho).symm.trans htp
      cases z
    · cases hc
  ca := fun X ⟨_, I⟩ k => kv_classE c1 c2 c3 c4 c5 c6 c7 c8 X I k
end
end PySem.W
namespace KV
open PySem PySem.Spec PyProof.Rows L2
variable [KK]
section
variable {X : Cx}
/-- isinstance(e, c), e the caught error, its dict at dd -/
def rIsD (K : PySem.W.Frag) (D a : Addr) (dd : Addr) : List V → Hp → VK → Prop := fun xs H Q => ∃ (c : V) (cv : Value) (b : Bool) (fs : List (Str × V)), xs = [.ref a, c] ∧ (∀ u, RelV c u → u = cv) ∧ H dd = some (.xd fs) ∧ PySem.W.kitOne K (.ref D) cv = some b ∧ Q (.bl b) H
theorem call_isD {a D dd : Addr} {oe : Obj} {pn : List (Addr × Obj)} (C : ExcC X.K D) (hz : Zc (.ref D) (some dd) oe) (hf : ∃ vs, oe.data = .fields vs) : CallR (X.suite a ((a, oe) :: pn)) (.builtin "isinstance") (rIsD X.K D a dd) := by
  intro pins s σ H xs us Q I r h
  obtain ⟨c, cv, b, fs, rfl, hcv, hd, e, q⟩ := h
  cases r with
  | cons rx rr =>
    cases rr with
    | cons rt rr =>
      cases rr
      cases rx
      have ec := hcv _ rt
      subst ec
      obtain ⟨hget, _⟩ := I.pin (a, oe) (List.mem_append.mpr (.inl List.mem_cons_self))
      obtain ⟨vs, hv⟩ := hf
      have hx : ObjOk X.prog X.w H s.heap dd (.xd fs) := I.hok dd _ hd
      obtain ⟨mA, hns, _⟩ := hx
      obtain ⟨od, ho, _⟩ := lookIn_ns hns
      have J : PySem.W.InstAt s.heap a oe D (some od) := ⟨hget, hz.1, by unfold PySem.W.notCls; rw [hv] <;> rfl, by rw [hz.2]; exact ho⟩
      exact PySem.W.kia_one (PySem.W.kv_kitx C.hg C.hk C.hs C.hd C.ha C.hn C.ht C.hm) I.kIn ⟨od, J⟩ e (fun z => nomatch z) fun tk => ⟨.bl b, H, I.kept (t' := tk) fun _ _ z => z, rfl, q⟩
end
end KV

namespace KV
open PySem PySem.Spec PyProof.Rows L2
variable [KK]
/-! ### several clauses, some that name the error -/
/-- a clause: its class, whether it names the error, its suite -/
abbrev Cla : Type := Value × Bool × (Addr → Value → Option Addr → TS)
def clear (i : Nat) (D : Ends) : Ends := { nx := fun σ H => D.nx (σ.set i none) H, rt := D.rt, bk := fun σ H => D.bk (σ.set i none) H, ct := fun σ H => D.ct (σ.set i none) H }
def wClauses (K : PySem.W.Frag) (i : Nat) (Wout : WX) (D : Ends) : List Cla → WX
  | [] => Wout
  | (c, nm, ts) :: r => fun cls d σ H => ∃ b, PySem.W.exmOne K cls c = some b ∧ (b = true → ∀ a, H a = none → if nm = true then ts a cls d (clear i D) (σ.set i (some (.ref a))) H else ts a cls d D σ H) ∧ (b = false → wClauses K i Wout D r cls d σ H)
inductive ClOk (X : Cx) (n : Str) : List ExceptHandler → List Cla → Prop
  | nil : ClOk X n [] []
  | as {x : Str} {c : Value} {ts : Addr → Value → Option Addr → TS} {b0 : Stmt} {suite : List Stmt} {np q : Pos} {hds : List ExceptHandler} {l : List Cla} (hc : Names X x c)
      (hsu : ∀ (a : Addr) (oe : Obj) (cls : Value) (d : Option Addr) (pn : List (Addr × Obj)), Zc cls d oe → (∃ vs, oe.data = .fields vs) → PSs (X.suite a ((a, oe) :: pn)) (b0 :: suite) (ts a cls d)) (r : ClOk X n hds l) :
      ClOk X n (.ExceptHandler (some (.Name x np)) (some n) (b0 :: suite) q :: hds) ((c, true, ts) :: l)
  | plain {x : Str} {c : Value} {ts : Addr → Value → Option Addr → TS} {b0 : Stmt} {suite : List Stmt} {np q : Pos} {hds : List ExceptHandler} {l : List Cla} (hc : Names X x c)
      (hsu : ∀ (a : Addr) (oe : Obj) (cls : Value) (d : Option Addr) (pn : List (Addr × Obj)), Zc cls d oe → (∃ vs, oe.data = .fields vs) → PSs (X.suite a ((a, oe) :: pn)) (b0 :: suite) (ts a cls d)) (r : ClOk X n hds l) :
      ClOk X n (.ExceptHandler (some (.Name x np)) none (b0 :: suite) q :: hds) ((c, false, ts) :: l)
section
variable {X : Cx} {n : Str} {i : Nat} {body : List Stmt} {k0 : ExceptHandler} {hds : List ExceptHandler} {l : List Cla} {pos : Pos} {tb : WX → TS} {Wout : WX}
theorem ps_clauses (hs : X.stack = X.env :: X.outer) (hf : X.env.frame = some X.env.locals) (hN : X.N.Nodup) (hi : X.N[i]? = some n) (hln : X.env.kindOf n = some .local) (tk : Takes X Wout)
    (hb : ∀ (W : WX) (pn : List (Addr × Obj)) (xe : Value → Shared → Prop), Takes (X.tr pn xe) W → PassesOwn (model X.prog X.w) X.A X.env xe → PSs (X.tr pn xe) body (tb W))
    (hh : ClOk X n (k0 :: hds) l) : PS X (.Try body (k0 :: hds) [] [] pos) (fun D σ H => tb (wClauses X.K i Wout D l) D σ H) := by
  refine ⟨fun pz sa σ H D I hyp => ?_⟩
  have okX := I.ok
  have frs := I.ok.frames
  rw [hs] at frs
  have hloc : Loc X.env.scope n := .inl hln
  refine wpAny_Try_except ?_
  refine wpAny_mono ((hb (wClauses X.K i Wout D l) (X.pn ++ pz) (fun ev t1 => wpAny (model X.prog X.w) X.A (noteFrame ev X.env) (fun _ t2 => wpAny (model X.prog X.w) X.A (setFlight ev none) (fun _ t3 =>
    wpAny (model X.prog X.w) X.A (handleBy ev X.env (k0 :: hds)) (SP X pz D) X.xe t3) X.xe t2) X.xe t1) (fun u t' air => ?_) PassesOwn.looking).run [] sa σ H D (I.toTry _) hyp) (fun fl t1 hsp => ?_) (fun ev t1 he => he)
  · -- caught
    obtain ⟨a, G, sI, pz', σ', H', cls, d, rfl, It, nb, up, sky, na, os, bare, wish⟩ := air
    have Iu : Inv X pz σ' H' sI := It.ofTry okX
    have skyU : Sky G (X.env :: X.outer) a (Zc cls d) X.env.locals t'.heap := by rw [← hs]; exact sky
    show wpAny (model X.prog X.w) X.A (noteFrame (.ref a) X.env) _ _ _
    refine Sky.land Zc.steady frs hf skyU fun hA flA upA => ?_
    have IA : Inv X pz σ' H' { t' with heap := hA } := Iu.landed nb flA.1 (up.trans upA) os bare
    obtain ⟨oA, vA, heA, hzA, hdA⟩ := flA.there
    have notIn : ∀ {h : Heap} {o : Obj} {vs : Array Value}, h.FunFrames G (X.env :: X.outer) → h.get? a = some o → o.data = .fields vs → a ∉ L2.frs (X.env :: X.outer) := fun {h o vs} ff e dd hm => by
      obtain ⟨_, o2, e2, hnf⟩ := ff.mem hm
      rw [e] at e2; cases e2
      exact hnf _ dd
    have nAll := notIn flA.2.2.1 heA hdA
    have nLoc : a ≠ X.env.locals := fun z => nAll (List.mem_filterMap.mpr ⟨X.env, List.mem_cons_self, by rw [hf, z]⟩)
    have nOut : a ∉ X.fs := fun hm => by
      obtain ⟨e, he, q⟩ := List.mem_filterMap.mp hm
      exact nAll (List.mem_filterMap.mpr ⟨e, List.mem_cons_of_mem _ he, q⟩)
    have SA := IA.suite heA hdA na nLoc nOut
    have go : ∀ {hs2 : List ExceptHandler} {l2 : List Cla}, ClOk X n hs2 l2 → wClauses X.K i Wout D l2 cls d σ' H' →
        wpAny (model X.prog X.w) X.A (handleBy (.ref a) X.env hs2) (SP X pz D) X.xe { t' with heap := hA } := by
      intro hs2 l2 ck
      have asked : ∀ {x : Str} {c : Value} {np : Pos}, Names X x c → ∀ {Q : Value → Shared → Prop} {E : Value → Shared → Prop}, Q c { t' with heap := hA } → wpAny (model X.prog X.w) (X.A.mark (some (.ref a))) (eval (.Name x np) X.env) Q E { t' with heap := hA } := fun {x c np} hc {Q E} q => by
        obtain ⟨hg, hdbg, hm | ⟨hm, hv, hnn⟩⟩ := hc
        · exact ld_glob (X := X.suite a ((a, oA) :: (X.pn ++ pz))) SA hg hm q hdbg
        · exact ld_blt (X := X.suite a ((a, oA) :: (X.pn ++ pz))) SA hg hm hv q hnn hdbg
      have LT : PySem.W.Looks (model X.prog X.w) hA (typeOf (.ref a)) cls := fun A Q E s k q => wpAny_typeOf_ref (k _ _ heA) (by rw [hzA.1]; exact q)
      induction ck with
      | nil =>
        intro w
        refine wpAny_handleBy_nil ?_
        obtain ⟨k1, k2, k3, oe, vs, T, oT, ts', he, hz, hd, h1, hr⟩ := id flA
        unfold PySem.passOn
        refine wpAny_bind (wpAny_field he hd h1 ?_)
        rw [if_neg (show ¬ ((Value.ref T == Value.none) = true) from by simp)]
        have out : wpAny (model X.prog X.w) X.A (setFlight (.ref a) X.env.frame) (fun _ t4 => wpAny (model X.prog X.w) X.A (throw (.ref a) : Sem Flow) (SP X pz D) X.xe t4) X.xe { t' with heap := hA } := by
          rw [hf]
          refine HandSPX.setFlight_upZ flA fun h4 hh4 up4 => wpAny_throw (tk _ _ ?_)
          exact ⟨a, G, sI, pz, σ', H', cls, d, rfl, Iu, nb, (up.trans upA).trans up4, .inr (.inr (by rw [hs]; exact hh4)), na, os, bare, w⟩
        first
          | exact wpAny_bind (wpAny_pure (wpAny_bind out))
          | exact wpAny_bind out
      | @as x c ts b0 suite np q hds2 l2 hc hsu r ih =>
        intro w
        obtain ⟨b, hb1, hyes, hno⟩ := w
        refine wpAny_handleBy_cons (codeAny_handlers_test ?_) (by intro q; cases q)
        have LM := PySem.W.exm_one (M := model X.prog X.w) (IA.kIn) LT hb1
        refine asked hc (LM.here ?_)
        cases b with
        | true =>
          refine codeAny_handlers_suite_as ?_
          refine HandSPX.lands_againZ flA fun hB flB upB => ?_
          have IB : Inv X pz σ' H' { t' with heap := hB } := Iu.landed nb flB.1 ((up.trans upA).trans upB) os bare
          obtain ⟨oB, vB, heB, hzB, hdB⟩ := flB.there
          have SB := IB.suite heB hdB na nLoc nOut
          refine store_ok (X := X.suite a ((a, oB) :: (X.pn ++ pz))) (v := .ref a) SB hN hi hloc rfl (fun t5 S5 => ?_) (.inr hln)
          have wi := hyes rfl a na
          rw [if_pos rfl] at wi
          refine wpAny_mono ((hsu a oB cls d (X.pn ++ pz) hzB ⟨_, hdB⟩).run [] t5 _ H' _ S5 wi) (fun fl t6 hsp => ?_) (fun _ _ z => False.elim z)
          have fin : ∀ {σ6 : L2.St} {H6 : Hp} {Q : Shared → Prop}, Inv (X.suite a ((a, oB) :: (X.pn ++ pz))) [] σ6 H6 t6 → (∀ t7, Inv X pz (σ6.set i none) H6 t7 → Q t7) →
              wpAny (model X.prog X.w) X.A (do bindName X.env n .none; unbindBehindTheSuite X.env n q) (fun _ t7 => Q t7) X.xe t6 := fun {σ6 H6 Q} S6 hq => gone_ok (S6.unsuite okX) hN hi hln hq
          cases fl with
          | next =>
            obtain ⟨σ6, H6, S6, q6⟩ := hsp
            exact fin S6 fun t7 J7 => ⟨_, _, J7, q6⟩
          | brk =>
            obtain ⟨σ6, H6, S6, q6⟩ := hsp
            exact fin S6 fun t7 J7 => ⟨_, _, J7, q6⟩
          | cont =>
            obtain ⟨σ6, H6, S6, q6⟩ := hsp
            exact fin S6 fun t7 J7 => ⟨_, _, J7, q6⟩
          | ret u =>
            obtain ⟨v6, σ6, H6, S6, r6, q6⟩ := hsp
            exact fin S6 fun t7 J7 => ⟨_, _, _, J7, r6, q6⟩
        | false =>
          show wpAny _ X.A (handleBy (.ref a) X.env hds2) _ _ _
          exact ih (hno rfl)
      | @plain x c ts b0 suite np q hds2 l2 hc hsu r ih =>
        intro w
        obtain ⟨b, hb1, hyes, hno⟩ := w
        refine wpAny_handleBy_cons (codeAny_handlers_test ?_) (by intro q; cases q)
        have LM := PySem.W.exm_one (M := model X.prog X.w) (IA.kIn) LT hb1
        refine asked hc (LM.here ?_)
        cases b with
        | true =>
          refine codeAny_handlers_suite ?_
          refine HandSPX.lands_againZ flA fun hB flB upB => ?_
          have IB : Inv X pz σ' H' { t' with heap := hB } := Iu.landed nb flB.1 ((up.trans upA).trans upB) os bare
          obtain ⟨oB, vB, heB, hzB, hdB⟩ := flB.there
          have SB := IB.suite heB hdB na nLoc nOut
          have wi := hyes rfl a na
          rw [if_neg Bool.false_ne_true] at wi
          refine wpAny_mono ((hsu a oB cls d (X.pn ++ pz) hzB ⟨_, hdB⟩).run [] _ _ H' _ SB wi) (fun fl t6 hsp => ?_) (fun _ _ z => False.elim z)
          cases fl with
          | next =>
            obtain ⟨σ6, H6, S6, q6⟩ := hsp
            exact ⟨_, _, S6.unsuite okX, q6⟩
          | brk =>
            obtain ⟨σ6, H6, S6, q6⟩ := hsp
            exact ⟨_, _, S6.unsuite okX, q6⟩
          | cont =>
            obtain ⟨σ6, H6, S6, q6⟩ := hsp
            exact ⟨_, _, S6.unsuite okX, q6⟩
          | ret u =>
            obtain ⟨v6, σ6, H6, S6, r6, q6⟩ := hsp
            exact ⟨_, _, _, S6.unsuite okX, r6, q6⟩
        | false =>
          show wpAny _ X.A (handleBy (.ref a) X.env hds2) _ _ _
          exact ih (hno rfl)
    exact go hh wish
  · cases fl with
    | next =>
      obtain ⟨σ2, H2, J2, q2⟩ := hsp
      exact wpAny_execs_nil ⟨σ2, H2, J2.ofTry okX, q2⟩
    | brk =>
      obtain ⟨σ2, H2, J2, q2⟩ := hsp
      exact ⟨σ2, H2, J2.ofTry okX, q2⟩
    | cont =>
      obtain ⟨σ2, H2, J2, q2⟩ := hsp
      exact ⟨σ2, H2, J2.ofTry okX, q2⟩
    | ret u =>
      obtain ⟨v, σ2, H2, J2, r2, q2⟩ := hsp
      exact ⟨v, σ2, H2, J2.ofTry okX, r2, q2⟩
end
end KV
set_option Elab.async false
set_option linter.all false
set_option autoImplicit false
set_option maxRecDepth 100000
set_option maxHeartbeats 4000000
namespace KV
open PySem PySem.Spec PyProof.Rows L2
variable [KK]
/-! ### try: .. except .. as e: x = [..] -/
/-- an element of the list: a text, a field of the error, isinstance(error, c) -/
inductive El where
  | st (s : Str) | fl (f : Str) | isc (c : Str)
/-- what is known of the own error classes -/
structure ErF (K : PySem.W.Frag) (mg : Str → Option Value) (xs fl : List Str) (sb : Str → Str → Bool) : Prop where
  cls : ∀ x ∈ xs, ∀ C, mg x = some (.ref C) → XfC K C ∧ ExcC K C
  exm : ∀ x ∈ xs, ∀ y ∈ xs, ∀ C D, mg x = some (.ref C) → mg y = some (.ref D) → PySem.W.exmOne K (.ref C) (.ref D) = some (sb x y) ∧ PySem.W.kitOne K (.ref C) (.ref D) = some (sb x y)
  noat : ∀ x ∈ xs, ∀ f ∈ fl, ∀ C, mg x = some (.ref C) → PySem.W.findIn K (.ref C) f = some none
  is : ∀ x ∈ xs, ∃ C, mg x = some (.ref C)
def elD (sb : Str → Str → Bool) (e : Er) : El → Option D
  | .st s => some (.str s)
  | .fl f => e.fs.lookup f
  | .isc c => some (.bl (sb e.cls c))
def elDs (sb : Str → Str → Bool) (e : Er) : List El → Option (List D)
  | [] => some []
  | x :: r => (elD sb e x).bind fun d => (elDs sb e r).map fun ds => d :: ds
def pickC (sb : Str → Str → Bool) (e : Er) : List (Str × List El) → Option (List El)
  | [] => none
  | (c, els) :: r => if sb e.cls c = true then some els else pickC sb e r
def elOk (xs fl : List Str) : El → Bool
  | .st _ => true
  | .fl f => fl.contains f
  | .isc c => xs.contains c
def sTry (xs : List Str) (sb : Str → Str → Bool) (body : FS) (i j : Nat) (cls : List (Str × List El)) : FS := fun ρ => match body ρ with
  | .er e ρ' => if xs.contains e.cls && decide (i < ρ'.length) then match pickC sb e cls with
      | some els => match ρ'[i]?, elDs sb e els with
        | some .un, some ds => if decide (j < ρ'.length) && decide (ds.length ≤ 100) then .ok (.nx (ρ'.set j (.ow ds))) else .st
        | _, _ => .st
      | none => .er e ρ'
    else .st
  | x => x
section
variable {X : Cx} {kp : Nat → Bool} {i j : Nat}
/-- an element, read where the error is held -/
def ElV (K : PySem.W.Frag) (mg : Str → Option Value) (C : Addr) (fs : List (Str × V)) : El → V → Prop
  | .st s, v => v = .str s
  | .fl f, v => fs.lookup f = some v ∧ XfC K C ∧ PySem.W.findIn K (.ref C) f = some none
  | .isc c, v => ∃ (D : Addr) (b : Bool), mg c = some (.ref D) ∧ ExcC K C ∧ PySem.W.kitOne K (.ref C) (.ref D) = some b ∧ v = .bl b
def Sue (X : Cx) (i : Nat) (e : Expr) (el : El) : Prop := ∀ (a : Addr) (oe : Obj) (C dd : Addr) (pn : List (Addr × Obj)), Zc (.ref C) (some dd) oe → (∃ vs, oe.data = .fields vs) →
  ∀ (σ : L2.St) (H : Hp) (fs : List (Str × V)) (v : V), σ[i]? = some (some (.ref a)) → H dd = some (.xd fs) → ElV X.K X.mg C fs el v → ∀ Q : VK, Q v H → tAny (X.suite a ((a, oe) :: pn)) e σ H Q
theorem su_str {s : Str} {k : Nat} {pos : Pos} : Sue X i (.Constant (.str s) k pos) (.st s) := by
  intro a oe C dd pn hz hf σ H fs v hi hd hv Q q
  have e : v = .str s := hv
  subst e
  exact ⟨_, pe_str, q⟩
theorem su_fld {x f : Str} {p pos : Pos} (pvi : ∀ (a : Addr) (pn : List (Addr × Obj)), PE (X.suite a pn) (.Name x p) (tVar i))
    (hb : ∀ (a : Addr) (pn : List (Addr × Obj)), attributeBase (.Name x p) f (X.suite a pn).env (eval (.Name x p) (X.suite a pn).env) = eval (.Name x p) (X.suite a pn).env := by intro _ _; rfl) : Sue X i (.Attribute (.Name x p) f pos) (.fl f) := by
  intro a oe C dd pn hz hf σ H fs v hi hd hv Q q
  obtain ⟨hl, T, no⟩ := hv
  exact ⟨_, pe_xf (cls := .ref C) (d := some dd) T no hz hf (pvi a ((a, oe) :: pn)) (hb a ((a, oe) :: pn)), .ref a, hi, rfl, rfl, dd, fs, v, rfl, hd, hl, q⟩
theorem su_isi {x c : Str} {p p2 p3 pos : Pos} (pvi : ∀ (a : Addr) (pn : List (Addr × Obj)), PE (X.suite a pn) (.Name x p) (tVar i)) (hg : Gl X c) (hgi : Gl X "isinstance") (hm : X.mg "isinstance" = none)
    (he : ∀ (a : Addr) (pn : List (Addr × Obj)), starEach [.Name x p, .Name c p2] (X.suite a pn).env = (false, eval (.Name x p) (X.suite a pn).env) :: starEach [.Name c p2] (X.suite a pn).env := by intro _ _; rfl)
    (he2 : ∀ (a : Addr) (pn : List (Addr × Obj)), starEach [.Name c p2] (X.suite a pn).env = (false, eval (.Name c p2) (X.suite a pn).env) :: starEach [] (X.suite a pn).env := by intro _ _; rfl)
    (hpl : ∀ (a : Addr) (pn : List (Addr × Obj)), (backTo pos (starEach [.Name c p2] (X.suite a pn).env)).any (·.1) = false := by intro _ _; rfl)
    (hdb : (c == ("__debug__" : Str)) = false := by decide) : Sue X i (.Call (.Name "isinstance" p3) [.Name x p, .Name c p2] [] pos) (.isc c) := by
  intro a oe C dd pn hz hf σ H fs v hi hd hv Q q
  obtain ⟨D, b, hm2, hC, hk, rfl⟩ := hv
  have pg : PE (X.suite a ((a, oe) :: pn)) (.Name c p2) (tC (.ref D)) := pe_glob hg hm2 rfl hdb
  refine ⟨_, pe_callB (call_isD hC hz hf) hgi hm boot_isinstance (pa_cons (pvi a ((a, oe) :: pn)) (pa_cons pg pa_nil (he2 a ((a, oe) :: pn))) (he a ((a, oe) :: pn))) (by decide) (by decide) (he a ((a, oe) :: pn)) (hpl a ((a, oe) :: pn)), ?_⟩
  exact ⟨.ref a, hi, .ref D, .ref D, b, fs, rfl, fun u r => r, hd, hk, q⟩
inductive ElVs (K : PySem.W.Frag) (mg : Str → Option Value) (C : Addr) (fs : List (Str × V)) : List El → List V → Prop
  | nil : ElVs K mg C fs [] []
  | cons {e : El} {es : List El} {v : V} {vs : List V} : ElV K mg C fs e v → ElVs K mg C fs es vs → ElVs K mg C fs (e :: es) (v :: vs)
theorem ElVs.length {K : PySem.W.Frag} {mg : Str → Option Value} {C : Addr} {fs : List (Str × V)} : ∀ {es : List El} {vs : List V}, ElVs K mg C fs es vs → vs.length = es.length
  | _, _, .nil => rfl
  | _, _, .cons _ t => congrArg (· + 1) (ElVs.length t)
def Sues (X : Cx) (i : Nat) (es : List Expr) (els : List El) : Prop := ∀ (a : Addr) (oe : Obj) (C dd : Addr) (pn : List (Addr × Obj)), Zc (.ref C) (some dd) oe → (∃ vs, oe.data = .fields vs) →
  ∀ (σ : L2.St) (H : Hp) (fs : List (Str × V)) (vs : List V), σ[i]? = some (some (.ref a)) → H dd = some (.xd fs) → ElVs X.K X.mg C fs els vs → ∀ Q : List V → Hp → Prop, Q vs H → tAnyA (X.suite a ((a, oe) :: pn)) es σ H Q
theorem sus_nil : Sues X i [] [] := by
  intro a oe C dd pn hz hf σ H fs vs hi hd hv Q q
  cases hv
  exact ⟨_, pa_nil, q⟩
theorem sus_cons {e : Expr} {es : List Expr} {el : El} {els : List El} (h1 : Sue X i e el) (h2 : Sues X i es els)
    (he : ∀ (a : Addr) (pn : List (Addr × Obj)), starEach (e :: es) (X.suite a pn).env = (false, eval e (X.suite a pn).env) :: starEach es (X.suite a pn).env := by intro _ _; rfl) : Sues X i (e :: es) (el :: els) := by
  intro a oe C dd pn hz hf σ H fs vs hi hd hv Q q
  cases hv with
  | cons hv hvs => exact ⟨_, pa_cons pe_any pa_any (he a ((a, oe) :: pn)), h1 a oe C dd pn hz hf σ H fs _ hi hd hv _ (h2 a oe C dd pn hz hf σ H fs _ hi hd hvs _ q)⟩
/-- the suite x = [..] -/
def SuOk (X : Cx) (i j : Nat) (suite : List Stmt) (els : List El) : Prop := ∀ (a : Addr) (oe : Obj) (C dd : Addr) (pn : List (Addr × Obj)), Zc (.ref C) (some dd) oe → (∃ vs, oe.data = .fields vs) →
  ∀ (σ : L2.St) (H : Hp) (fs : List (Str × V)) (vs : List V), σ[i]? = some (some (.ref a)) → H dd = some (.xd fs) → ElVs X.K X.mg C fs els vs → vs.length ≤ 100 → ∀ D : Ends, (∀ p, H p = none → D.nx (σ.set j (some (.ref p))) (upd H p (.lst vs))) →
    tAnySs (X.suite a ((a, oe) :: pn)) suite D σ H
theorem su_set {es : List Expr} {els : List El} {st : Stmt} {pos : Pos} (hps : ∀ (a : Addr) (pn : List (Addr × Obj)) (te : TE), PE (X.suite a pn) (.List es pos) te → PS (X.suite a pn) st (tAsg te (gName j))) (h : Sues X i es els) : SuOk X i j [st] els := by
  intro a oe C dd pn hz hf σ H fs vs hi hd hv hl D q
  refine ⟨_, pss_one (hps a ((a, oe) :: pn) _ (pe_lst pa_any)), ?_⟩
  exact h a oe C dd pn hz hf σ H fs vs hi hd hv _ ⟨Nat.le_trans hl (by decide), fun p hp => q p hp⟩

theorem su_plain {s : Str} {k : Nat} {p : Pos} {st : Stmt} {pos : Pos} (hps : ∀ (a : Addr) (pn : List (Addr × Obj)) (te : TE), PE (X.suite a pn) (.List [.Constant (.str s) k p] pos) te → PS (X.suite a pn) st (tAsg te (gName j)))
    (he : ∀ (a : Addr) (pn : List (Addr × Obj)), starEach [.Constant (.str s) k p] (X.suite a pn).env = (false, eval (.Constant (.str s) k p) (X.suite a pn).env) :: starEach [] (X.suite a pn).env := by intro _ _; rfl) :
    ∀ (a : Addr) (pn : List (Addr × Obj)) (σ : L2.St) (H : Hp) (D : Ends), (∀ q, H q = none → D.nx (σ.set j (some (.ref q))) (upd H q (.lst [.str s]))) → tAnySs (X.suite a pn) [st] D σ H := by
  intro a pn σ H D q
  refine ⟨_, pss_one (hps a pn _ (pe_lst (pa_cons pe_str pa_nil (he a pn)))), ?_⟩
  exact ⟨(by show 1 ≤ sizeLine; decide), fun r hr => q r hr⟩
inductive HdOk (X : Cx) (xs fl : List Str) (i j : Nat) (n : Str) : List ExceptHandler → List (Str × List El) → Prop
  | nil : HdOk X xs fl i j n [] []
  | as {x : Str} {np q : Pos} {b0 : Stmt} {suite : List Stmt} {hds : List ExceptHandler} {els : List El} {l : List (Str × List El)} (hx : x ∈ xs) (ho : els.all (elOk xs fl) = true) (hg : Gl X x) (hd : (x == ("__debug__" : Str)) = false) (h : SuOk X i j (b0 :: suite) els)
      (r : HdOk X xs fl i j n hds l) : HdOk X xs fl i j n (.ExceptHandler (some (.Name x np)) (some n) (b0 :: suite) q :: hds) ((x, els) :: l)
  | plain {x s : Str} {np q : Pos} {b0 : Stmt} {suite : List Stmt} {hds : List ExceptHandler} {l : List (Str × List El)} (hx : x ∈ xs) (hg : Gl X x) (hd : (x == ("__debug__" : Str)) = false)
      (h : ∀ (a : Addr) (pn : List (Addr × Obj)) (σ : L2.St) (H : Hp) (D : Ends), (∀ q, H q = none → D.nx (σ.set j (some (.ref q))) (upd H q (.lst [.str s]))) → tAnySs (X.suite a pn) (b0 :: suite) D σ H)
      (r : HdOk X xs fl i j n hds l) : HdOk X xs fl i j n (.ExceptHandler (some (.Name x np)) none (b0 :: suite) q :: hds) ((x, [.st s]) :: l)
def tsA (X : Cx) (suite : List Stmt) : Addr → Value → Option Addr → TS := fun a cls d D σ H => ∀ (oe : Obj) (pn : List (Addr × Obj)), Zc cls d oe → (∃ vs, oe.data = .fields vs) → tAnySs (X.suite a ((a, oe) :: pn)) suite D σ H
theorem tsA_ok {suite : List Stmt} (a : Addr) (oe : Obj) (cls : Value) (d : Option Addr) (pn : List (Addr × Obj)) (hz : Zc cls d oe) (hf : ∃ vs, oe.data = .fields vs) : PSs (X.suite a ((a, oe) :: pn)) suite (tsA X suite a cls d) :=
  ⟨fun pins s σ H D I h => pss_any.run pins s σ H D I (h oe pn hz hf)⟩
theorem lookup_rp {B : Hp} {f : Str} : ∀ {fs : List (Str × V)} {gs : List (Str × D)} {d : D}, fs.map (·.1) = gs.map (·.1) → RpL B (fs.map (·.2)) (gs.map (·.2)) → gs.lookup f = some d → ∃ v, fs.lookup f = some v ∧ Rp B v d
  | [], [], _, _, _, h => by cases h
  | [], _ :: _, _, e, _, _ => by cases e
  | _ :: _, [], _, e, _, _ => by cases e
  | (x, v) :: fs, (y, d) :: gs, d', e, r, h => by
    have e1 : x = y := (List.cons.inj e).1
    have e2 := (List.cons.inj e).2
    subst e1
    cases r with
    | cons r1 rr =>
      rw [List.lookup_cons] at h
      by_cases z : (f == x) = true
      · rw [z] at h
        refine ⟨v, by rw [List.lookup_cons, z], ?_⟩
        have hd : d = d' := Option.some.inj h
        rw [← hd]
        exact r1
      · have z2 : (f == x) = false := by simpa using z
        rw [z2] at h
        obtain ⟨w, h1, h2⟩ := lookup_rp e2 rr h
        exact ⟨w, by rw [List.lookup_cons, z2]; exact h1, h2⟩
theorem els_ok {xs fl : List Str} {sb : Str → Str → Bool} (EF : ErF X.K X.mg xs fl sb) {B : Hp} {e : Er} {C : Addr} {fs : List (Str × V)} (hc : e.cls ∈ xs) (hm : X.mg e.cls = some (.ref C)) (h1 : fs.map (·.1) = e.fs.map (·.1)) (h2 : RpL B (fs.map (·.2)) (e.fs.map (·.2))) :
    ∀ {els : List El} {ds : List D}, els.all (elOk xs fl) = true → elDs sb e els = some ds → ∃ vs, ElVs X.K X.mg C fs els vs ∧ RpL B vs ds
  | [], ds, _, h => by cases h; exact ⟨[], .nil, .nil⟩
  | x :: els, ds, ho, h => by
    obtain ⟨o1, o2⟩ := Bool.and_eq_true_iff.mp (show (elOk xs fl x && els.all (elOk xs fl)) = true from ho)
    have h' : ((elD sb e x).bind fun d => (elDs sb e els).map fun ds => d :: ds) = some ds := h
    cases q1 : elD sb e x with
    | none => rw [q1] at h'; cases h'
    | some d =>
      cases q2 : elDs sb e els with
      | none => rw [q1, q2] at h'; cases h'
      | some es =>
        rw [q1, q2] at h'
        cases h'
        obtain ⟨vs, v1, v2⟩ := els_ok EF hc hm h1 h2 o2 q2
        obtain ⟨T, EC⟩ := EF.cls e.cls hc C hm
        cases x with
        | st s =>
          cases q1
          exact ⟨_, .cons (show ElV X.K X.mg C fs (.st s) (.str s) from rfl) v1, .cons (.str s) v2⟩
        | fl f =>
          obtain ⟨v, l1, l2⟩ := lookup_rp h1 h2 q1
          have hf : f ∈ fl := by simpa [elOk] using o1
          exact ⟨_, .cons (show ElV X.K X.mg C fs (.fl f) v from ⟨l1, T, EF.noat e.cls hc f hf C hm⟩) v1, .cons l2 v2⟩
        | isc c =>
          cases q1
          have hcx : c ∈ xs := by simpa [elOk] using o1
          obtain ⟨D, hD⟩ := EF.is c hcx
          exact ⟨_, .cons (show ElV X.K X.mg C fs (.isc c) (.bl (sb e.cls c)) from ⟨D, _, hD, EC, (EF.exm e.cls hc c hcx C D hm hD).2, rfl⟩) v1, .cons (.bl _) v2⟩
theorem try_wish {xs fl : List Str} {sb : Str → Str → Bool} {n : Str} (EF : ErF X.K X.mg xs fl sb) {hds : List ExceptHandler} {cls : List (Str × List El)} (hh : HdOk X xs fl i j n hds cls) : ∃ l : List Cla, ClOk X n hds l ∧
    ∀ (e : Er) (B H : Hp) (ρ : Env) (σ : L2.St) (D : Ends) (Wout : WX) (cv : Value) (dd : Option Addr), i < σ.length → Rep B H ρ σ → ErR X.mg e cv dd B H → e.cls ∈ xs →
      (match pickC sb e cls with
        | some els => ∃ ds, elDs sb e els = some ds ∧ ds.length ≤ 100 ∧ ∀ p vs, H p = none → RpL B vs ds → (∀ a, D.nx (((σ.set i (some (.ref a))).set j (some (.ref p))).set i none) (upd H p (.lst vs))) ∧ D.nx (σ.set j (some (.ref p))) (upd H p (.lst vs))
        | none => Wout cv dd σ H) → wClauses X.K i Wout D l cv dd σ H := by
  induction hh with
  | nil => exact ⟨[], .nil, fun e B H ρ σ D Wout cv dd hi R r hc w => w⟩
  | @as x np q b0 suite hds els l hx ho hg hd h r ih =>
    obtain ⟨l2, c2, w2⟩ := ih
    obtain ⟨Cx, hCx⟩ := EF.is x hx
    refine ⟨(.ref Cx, true, tsA X (b0 :: suite)) :: l2, .as ⟨hg, hd, .inl hCx⟩ tsA_ok c2, fun e B H ρ σ D Wout cv dd hi R rr hc w => ?_⟩
    obtain ⟨C, d, fs, rfl, hm, rfl, hBd, hHd, h1, h2⟩ := id rr
    have ex := (EF.exm e.cls hc x hx C Cx hm hCx).1
    have w' : (match (if sb e.cls x = true then some els else pickC sb e l) with
        | some els => ∃ ds, elDs sb e els = some ds ∧ ds.length ≤ 100 ∧ ∀ p vs, H p = none → RpL B vs ds → (∀ a, D.nx (((σ.set i (some (.ref a))).set j (some (.ref p))).set i none) (upd H p (.lst vs))) ∧ D.nx (σ.set j (some (.ref p))) (upd H p (.lst vs))
        | none => Wout (.ref C) (some d) σ H) := w
    refine ⟨sb e.cls x, ex, fun hb a ha => ?_, fun hb => w2 e B H ρ σ D Wout (.ref C) (some d) hi R rr hc ?_⟩
    · rw [if_pos hb] at w'
      obtain ⟨ds, e1, hl, hq⟩ := w'
      obtain ⟨vs, v1, v2⟩ := els_ok EF hc hm h1 h2 ho e1
      rw [if_pos rfl]
      intro oe pn hz hf
      exact h a oe C d pn hz hf _ H fs vs (List.getElem?_set_self hi) hHd v1 (by rw [v2.length]; exact hl) _ fun p hp => (hq p vs hp v2).1 a
    · rw [hb, if_neg Bool.false_ne_true] at w'
      exact w'
  | @plain x s np q b0 suite hds l hx hg hd h r ih =>
    obtain ⟨l2, c2, w2⟩ := ih
    obtain ⟨Cx, hCx⟩ := EF.is x hx
    refine ⟨(.ref Cx, false, tsA X (b0 :: suite)) :: l2, .plain ⟨hg, hd, .inl hCx⟩ tsA_ok c2, fun e B H ρ σ D Wout cv dd hi R rr hc w => ?_⟩
    obtain ⟨C, d, fs, rfl, hm, rfl, hBd, hHd, h1, h2⟩ := id rr
    have ex := (EF.exm e.cls hc x hx C Cx hm hCx).1
    have w' : (match (if sb e.cls x = true then some [El.st s] else pickC sb e l) with
        | some els => ∃ ds, elDs sb e els = some ds ∧ ds.length ≤ 100 ∧ ∀ p vs, H p = none → RpL B vs ds → (∀ a, D.nx (((σ.set i (some (.ref a))).set j (some (.ref p))).set i none) (upd H p (.lst vs))) ∧ D.nx (σ.set j (some (.ref p))) (upd H p (.lst vs))
        | none => Wout (.ref C) (some d) σ H) := w
    refine ⟨sb e.cls x, ex, fun hb a ha => ?_, fun hb => w2 e B H ρ σ D Wout (.ref C) (some d) hi R rr hc ?_⟩
    · rw [if_pos hb] at w'
      obtain ⟨ds, e1, hl, hq⟩ := w'
      cases e1
      rw [if_neg Bool.false_ne_true]
      intro oe pn hz hf
      exact h a _ σ H D fun p hp => (hq p [.str s] hp (.cons (.str s) .nil)).2
    · rw [hb, if_neg Bool.false_ne_true] at w'
      exact w'
theorem set_un_self {ρ : Env} (h : ρ[i]? = some Sl.un) : ρ.set i .un = ρ := by
  apply List.ext_getElem?
  intro k
  by_cases e : i = k
  · subst e
    rw [List.getElem?_set_self', h]; rfl
  · rw [List.getElem?_set_ne e]
theorem ss_try {W : WX} {xs fl : List Str} {sb : Str → Str → Bool} {n : Str} {body : List Stmt} {k0 : ExceptHandler} {hds : List ExceptHandler} {cls : List (Str × List El)} {p : FS} {pos : Pos} (EF : ErF X.K X.mg xs fl sb) (hs : X.stack = X.env :: X.outer) (hf : X.env.frame = some X.env.locals) (hN : X.N.Nodup) (hi : X.N[i]? = some n) (hln : X.env.kindOf n = some .local) (tk : Takes X W) (hij : i ≠ j) (hki : kp i = false) (hkj : kp j = false)
    (hb : ∀ (W : WX) (pn : List (Addr × Obj)) (xe : Value → Shared → Prop), Takes (X.tr pn xe) W → SSs kp (X.tr pn xe) W body p) (hh : HdOk X xs fl i j n (k0 :: hds) cls) : SS kp X W (.Try body (k0 :: hds) [] [] pos) (sTry xs sb p i j cls) := by
  intro B H ρ σ R D hw
  obtain ⟨l, cl, wi⟩ := try_wish EF hh
  refine ⟨_, ps_clauses (tb := fun W' D σ H => ∀ (pn : List (Addr × Obj)) (xe : Value → Shared → Prop), Takes (X.tr pn xe) W' → tAnySs (X.tr pn xe) body D σ H) hs hf hN hi hln tk (fun W' pn xe tk' po => ⟨fun pins s σ H D I h => pss_any.run pins s σ H D I (h pn xe tk')⟩) cl, ?_⟩
  intro pn xe tk'
  refine hb _ pn xe tk' B H ρ σ R D ?_
  unfold sTry at hw
  cases q : p ρ with
  | st => rw [q] at hw; exact hw.elim
  | ok fl' => rw [q] at hw; exact hw
  | er e ρ' =>
    rw [q] at hw
    intro B' H' σ' cv dd k' g' R' er'
    replace hw : (if (xs.contains e.cls && decide (i < ρ'.length)) = true then match pickC sb e cls with
      | some els => match ρ'[i]?, elDs sb e els with
        | some .un, some ds => if decide (j < ρ'.length) && decide (ds.length ≤ 100) then Out.ok (Fl.nx (ρ'.set j (.ow ds))) else .st
        | _, _ => .st
      | none => .er e ρ'
    else .st).wp (AskS kp B H (Own ρ σ) σ D) (AskES kp X W B H (Own ρ σ) σ) := hw
    by_cases c : (xs.contains e.cls && decide (i < ρ'.length)) = true
    · rw [if_pos c] at hw
      obtain ⟨ca, cb⟩ := Bool.and_eq_true_iff.mp c
      have hc : e.cls ∈ xs := by simpa using ca
      have hil : i < σ'.length := by rw [← R'.len]; exact of_decide_eq_true cb
      cases q1 : pickC sb e cls with
      | none =>
        rw [q1] at hw
        refine wi e B' H' ρ' σ' D W cv dd hil R' er' hc ?_
        rw [q1]
        exact hw B' H' σ' cv dd k' g' R' er'
      | some els =>
        rw [q1] at hw
        dsimp only at hw
        cases q2 : ρ'[i]? with
        | none => rw [q2] at hw; exact hw.elim
        | some sl =>
          cases sl with
          | sh d => rw [q2] at hw; exact hw.elim
          | ow d => rw [q2] at hw; exact hw.elim
          | un =>
            cases q3 : elDs sb e els with
            | none => rw [q2, q3] at hw; exact hw.elim
            | some ds =>
              rw [q2, q3] at hw
              dsimp only at hw
              by_cases cz : (decide (j < ρ'.length) && decide (ds.length ≤ 100)) = true
              · rw [if_pos cz] at hw
                obtain ⟨z1, z2⟩ := Bool.and_eq_true_iff.mp cz
                have z1' := of_decide_eq_true z1
                have z2' := of_decide_eq_true z2
                refine wi e B' H' ρ' σ' D W cv dd hil R' er' hc ?_
                rw [q1]
                refine ⟨ds, q3, z2', fun r vs hr rv => ?_⟩
                have hw' : AskS kp B H (Own ρ σ) σ D (.nx (ρ'.set j (.ow ds))) := hw
                have hjl : j < σ'.length := by rw [← R'.len]; exact z1'
                have gg : Go B' H' (Own ρ' σ') B' (upd H' r (.lst vs)) (Own ρ' σ') := Go.newH hr
                have R1 := R'.newH (o := HO.lst vs) hr
                have mk : ∀ {τ : L2.St}, Kp kp σ τ → Rep B' (upd H' r (.lst vs)) (ρ'.set j (.ow ds)) τ → (∀ a, Own (ρ'.set j (.ow ds)) τ a → Own ρ' σ' a ∨ a = r) → D.nx τ (upd H' r (.lst vs)) := fun {τ} kk RR oo =>
                  hw' B' (upd H' r (.lst vs)) τ kk (g'.trans ⟨gg.ex, gg.fr, gg.nb, fun a z => by
                    rcases oo a z with y | y
                    · exact .inl y
                    · rw [y]; exact .inr hr, gg.th⟩) RR
                have R2 : Rep B' (upd H' r (.lst vs)) (ρ'.set j (.ow ds)) (σ'.set j (some (.ref r))) := R1.setOw (R'.ex.none hr) upd_same rv (R'.not_own hr)
                have o2 : ∀ a, Own (ρ'.set j (.ow ds)) (σ'.set j (some (.ref r))) a → Own ρ' σ' a ∨ a = r := fun a z => Own.set_ow hjl z
                refine ⟨fun a => ?_, mk (k'.trans (Kp.set hkj)) R2 o2⟩
                have eσ : ((σ'.set i (some (.ref a))).set j (some (.ref r))).set i none = (σ'.set j (some (.ref r))).set i none := by
                  rw [List.set_comm _ _ hij, List.set_set]
                rw [eσ]
                have hun : (ρ'.set j (.ow ds))[i]? = some Sl.un := by rw [List.getElem?_set_ne (Ne.symm hij)]; exact q2
                have R3 := R2.setUn (i := i) (o := none)
                rw [set_un_self hun] at R3
                refine mk ((k'.trans (Kp.set hkj)).trans (Kp.set hki)) R3 fun b z => ?_
                have z' : Own ((ρ'.set j (.ow ds)).set i .un) ((σ'.set j (some (.ref r))).set i none) b := by rw [set_un_self hun]; exact z
                exact o2 b z'.set_un
              · rw [if_neg cz] at hw; exact hw.elim
    · rw [if_neg c] at hw; exact hw.elim
end
end KV
set_option Elab.async false
set_option linter.all false
set_option autoImplicit false
set_option maxRecDepth 100000
set_option maxHeartbeats 4000000
namespace KV
open PySem PySem.Spec PyProof.Rows L2
variable [KK]

/-! ### an error out of a comprehension's element, out of a call there -/
theorem funFrames_less {B G h : Heap} (hg : ∀ b o, G.get? b = some o → B.get? b = some o) : ∀ {l : List PySem.Env}, h.FunFrames B l → h.FunFrames G l
  | [], _ => trivial
  | _ :: l, ⟨hk, ⟨L, o, hf, hb, ho, hd⟩, hr⟩ => by
    refine ⟨hk, ⟨L, o, hf, ?_, ho, hd⟩, funFrames_less hg hr⟩
    cases e : G.get? L with
    | none => rfl
    | some u =>
      rw [hg L u e] at hb
      cases hb
section
variable {X : Cx} {W : WX} {pins : List (Addr × Obj)} {σ : L2.St} {H3 H9 : Hp} {s3 s9 s' : Shared} {fp : List Addr} {ce : PySem.Env} {E : XK} {u : Value} {D : Value}
theorem comp_fail (hs : X.stack = X.env :: X.outer) (hf : X.env.frame = some X.env.locals) (tk : Takes X W) (I3 : Inv X pins σ H3 s3) (hce : ce.frame = X.env.frame) (hC : ce.locals = s3.heap.objs.size)
    (hch : ∀ b ∈ fp, (b ∈ X.ex ∨ X.s_0.heap.objs.size ≤ b) ∧ b ≠ X.env.locals ∧ (∀ x c, X.env.cells.lookup x = some c → c ≠ b) ∧ ∀ p ∈ X.pn ++ pins, p.1 ≠ b)
    (un : Un (L2.frs X.stack) fp H3 H9 s3.heap s9.heap) (hos : s9.os = s3.os) {m : Str → Option Value} (hns : s9.heap.Ns ce.locals m) (hCf : H9 ce.locals = none) (hE : ∀ cls d H, E cls d H → W cls d σ H)
    (c : L2.CX X.prog X.w X.stack H9 s9 E u s') : notedBy (model X.prog X.w) X.A ce (CompFails (model X.prog X.w) X.A X.xe ce) u s' := by
  obtain ⟨a, B, H', cls, d, rfl, fl, hok, ub, na, os, ag, he⟩ := c
  have hfr : X.A.frames = some (X.env :: X.outer) := by rw [I3.ok.frames, hs]
  have fl2 : HandSPX.FlyingZ B (X.env :: X.outer) a (Zc cls d) s'.heap := by rw [← hs]; exact fl
  have nC : ce.locals ∉ L2.frs X.stack := fun hm => by
    obtain ⟨_, o, e, _⟩ := I3.stack.mem hm
    have q := Heap.lt_size e
    rw [hC] at q
    exact absurd q (Nat.lt_irrefl _)
  obtain ⟨oC, esC, epC, hoC, rC⟩ := id hns
  have bC : B.get? ce.locals = some oC := ub.keep _ oC hoC hCf nC
  have nsB : ∀ {h : Heap}, B.StaysIn h → h.Ns ce.locals m := fun {h} st => ⟨oC, esC, epC, st _ _ bC, rC⟩
  show wpAny (model X.prog X.w) X.A (noteFrame (.ref a) ce) _ _ s'
  rw [noteFrame_env _ hce]
  refine HandSPX.looks_onZ Zc.steady hfr hf fl2 fun h1 hh1 up1 => ?_
  obtain ⟨b1, b0, f1, t1⟩ := hh1
  refine ⟨m, nsB b1, fun h2 m2 hn2 sb => ?_⟩
  obtain ⟨oe, vs, T, oT, ts, e1, ez, ed, ev, eT0, eTa, eT, edT, e3⟩ := t1
  have aC : a ≠ ce.locals := fun z => by rw [z, bC] at b0; cases b0
  have TC : T ≠ ce.locals := fun z => by rw [z, bC] at eT0; cases eT0
  have a2 : h2.get? a = some oe := (sb.2 a aC).trans e1
  have T2 : h2.get? T = some oT := (sb.2 T TC).trans eT
  obtain ⟨G1, g1, g2⟩ := restrict B fun b => !decide (b = ce.locals)
  have gB : ∀ b o, G1.get? b = some o → B.get? b = some o ∧ b ≠ ce.locals := fun b o e => by
    by_cases z : b = ce.locals
    · rw [g2 b (by simp [z])] at e; cases e
    · rw [g1 b (by simp [z])] at e
      exact ⟨e, z⟩
  have Bg : ∀ b o, b ≠ ce.locals → B.get? b = some o → G1.get? b = some o := fun b o z e => by rw [g1 b (by simp [z])]; exact e
  have none1 : ∀ b, B.get? b = none → G1.get? b = none := fun b e => by
    cases q : G1.get? b with
    | none => rfl
    | some o => rw [(gB b o q).1] at e; cases e
  have hh2 : HandSPX.HeldZ G1 (X.env :: X.outer) a (Zc cls d) X.env.locals h2 :=
    ⟨fun b o e => (sb.2 b (gB b o e).2).trans (b1 b o (gB b o e).1), none1 a b0, funFrames_less (fun b o e => (gB b o e).1) (Heap.FunFrames.sameBut sb hn2 f1), ⟨oe, vs, T, oT, ts, a2, ez, ed, ev, none1 T eT0, eTa, T2, edT, e3⟩⟩
  unfold PySem.passOn
  refine wpAny_bind (wpAny_field a2 ed ev ?_)
  rw [if_neg (show ¬ ((Value.ref T == Value.none) = true) from by simp), hce, hf]
  refine wpAny_bind (HandSPX.setFlight_onZ hh2 fun h3 hh3 up3 => wpAny_throw (tk _ _ ?_))
  obtain ⟨G2, k1, k2⟩ := restrict s'.heap fun b => ((B.get? b).isSome && !decide (b = ce.locals)) || decide (b ∈ L2.frs X.stack)
  have st : B.StaysIn s'.heap := fl.1
  have gin : ∀ b o, b ≠ ce.locals → B.get? b = some o → G2.get? b = some o := fun b o z e => by
    rw [k1 b (by simp [e, z])]
    exact st b o e
  have gfr : ∀ b, b ∈ L2.frs X.stack → G2.get? b = s'.heap.get? b := fun b hb => k1 b (by simp [hb])
  have gout : ∀ b o, G2.get? b = some o → s'.heap.get? b = some o ∧ (((B.get? b).isSome = true ∧ b ≠ ce.locals) ∨ b ∈ L2.frs X.stack) := fun b o e => by
    cases q : (((B.get? b).isSome && !decide (b = ce.locals)) || decide (b ∈ L2.frs X.stack)) with
    | false => rw [k2 b q] at e; cases e
    | true =>
      rw [k1 b q] at e
      refine ⟨e, ?_⟩
      rcases (Bool.or_eq_true_iff.mp q) with z | z
      · obtain ⟨z1, z2⟩ := Bool.and_eq_true_iff.mp z
        exact .inl ⟨z1, by simpa using z2⟩
      · exact .inr (by simpa using z)
  have old : ∀ {b : Addr} {o : Obj}, s3.heap.get? b = some o → b ≠ ce.locals := fun {b o} e z => by
    have q := Heap.lt_size e
    rw [z, hC] at q
    exact absurd q (Nat.lt_irrefl _)
  have hC' : H' ce.locals = none := ub.free _ oC hoC hCf
  have I5 : Inv X pins σ H' { s3 with heap := G2, gens := s'.gens, drawn := s'.drawn, toks := s'.toks } := by
    refine I3.call (ch := fp) ⟨fun b o e n hb hx => ?_, fun b o e n hb hx => ?_, fun b o e n hx => ?_, fun b o e hx => ?_, fun b xs e => ub.tups b xs (un.tups b xs e), fun b o xs e => ub.frzs b o xs (un.frzs b o xs e), fun b ps e => ?_⟩ ?_ ag hch
    · exact gin b o (old e) (ub.keep b o (un.keep b o e n hb hx) (un.free b o e n hx) hb)
    · obtain ⟨sl, q⟩ := un.slot b o e n hb hx
      obtain ⟨sl2, q2⟩ := ub.slot b _ q hb
      exact ⟨sl2, by rw [gfr b hb]; exact q2⟩
    · obtain ⟨o', q⟩ := un.there b o e hx
      exact ub.free b o' q (un.free b o e n hx)
    · obtain ⟨o', q⟩ := un.there b o e hx
      by_cases hb : b ∈ L2.frs X.stack
      · obtain ⟨sl, q2⟩ := ub.slot b o' q hb
        exact ⟨_, by rw [gfr b hb]; exact q2⟩
      · obtain ⟨o2, q2⟩ := ub.there b o' q hb
        exact ⟨o2, gin b o2 (old e) q2⟩
    · obtain ⟨m1, q1⟩ := un.tbls b ps e
      obtain ⟨m2, q2⟩ := ub.tbls b _ q1
      exact ⟨m1 ++ m2, by rw [q2, Array.append_assoc]⟩
    · intro b o q
      refine (hok b o q).stay (fun x v hx r => gin x v (fun z => ?_) r) (fun _ r => r) fun _ _ r => r
      rcases hx with hx | hx
      · rw [← hx, z, hC'] at q; cases q
      · rw [z, hC'] at hx; cases hx
  refine ⟨a, G1, _, pins, σ, H', cls, d, rfl, I5, fun b o e hb => ?_, fun b o e hnf => ?_, .inr (.inr (by rw [hs]; exact hh3)), na, ?_, ag, hE _ _ _ he⟩
  · obtain ⟨e1', z⟩ := gout b o e
    rcases z with ⟨z1, z2⟩ | z
    · obtain ⟨o2, q⟩ := Option.isSome_iff_exists.mp z1
      have q2 := st b o2 q
      rw [e1'] at q2
      cases q2
      exact Bg b o z2 q
    · exact absurd z hb
  · obtain ⟨e1', z⟩ := gout b o e
    have bne : b ≠ ce.locals := by
      rcases z with ⟨_, z2⟩ | z
      · exact z2
      · exact fun q => nC (by rw [← q]; exact z)
    obtain ⟨sl, q⟩ := up1 b o e1' hnf
    obtain ⟨sl2, q2⟩ := up3 b _ ((sb.2 b bne).trans q) hnf
    exact ⟨sl2, q2⟩
  · exact os.trans hos
end

/-- a block's context whose errors go where xe says -/
abbrev blkE (X : Cx) (s : Shared) (H : Hp) (scope : Scope) (ce : PySem.Env) (fp : List Addr) (xe : Value → Shared → Prop) : Cx := { X.blk s H scope ce fp with xe := xe }
section
variable {X : Cx}
theorem blkE_inv {s0 : Shared} {H0 : Hp} {scope : Scope} {ce : PySem.Env} {fp : List Addr} {xe : Value → Shared → Prop} {pins : List (Addr × Obj)} {σ : L2.St} {H : Hp} {s : Shared} (I : Inv (X.blk s0 H0 scope ce fp) pins σ H s) : Inv (blkE X s0 H0 scope ce fp xe) pins σ H s :=
  ⟨⟨I.ok.mod, I.ok.kind, I.ok.glob, I.ok.blt, I.ok.above, I.ok.inj, I.ok.has, I.ok.cab, I.ok.hd, I.ok.frames, I.ok.stk, I.ok.exf, I.ok.bs, I.ok.bsz, I.ok.noex, I.ok.exfs, I.ok.funs, I.ok.frf⟩, I.os, I.bare, I.base, I.loc, I.cell, I.free, I.freeC, I.pin, I.hok, I.len⟩
/-- [elt for target in iter], the element may let an error out: W what is wished of it -/
def tLcX (wi : TI) (g : TG) (te : WX → TE) (vs : List Nat) (W : WX) : TE := fun σ H Q => wi σ H fun J H1 => ∀ D, H1 D = none → ∃ V : Nat → Nat → Hp → Prop, (∃ m, V 0 m (upd H1 D (.lst []))) ∧ ∀ i m H, V i m H →
  (J.stop i H ∧ Q (.ref D) H) ∨ (J.go i H ∧ ∃ Nx : Hp → Prop, (∀ H', Nx H' → ∃ m', m' < m ∧ V (i + 1) m' H') ∧ ∀ x H', J.yld i H x H' → g x (wipe σ vs) H' fun σ2 H2 => wipe σ2 vs = wipe σ vs ∧
    te (fun cls d _ H => W cls d σ H) σ2 H2 fun y H4 => ∃ acc, H4 D = some (.lst acc) ∧ acc.length < sizeLine ∧ Nx (upd H4 D (.lst (acc ++ [y]))))
theorem lcx_core {pins : List (Addr × Obj)} {s : Shared} {σ : L2.St} {H : Hp} {Q : VK} {elt tg iter : Expr} {scope : Scope} {own : List (Str × Nat)} {pos pos' : Pos} {wi : TI} {g : TG} {te : WX → TE} {W : WX} {use : Option (Value → Sem Unit)} {Qf : Value → Shared → Prop}
    (hs : X.stack = X.env :: X.outer) (hf : X.env.frame = some X.env.locals) (tk : Takes X W) (hc : X.calm = true) (hN : X.N.Nodup) (I : Inv X pins σ H s) (hi : PI X tg iter wi) (ok : BlkOk X.N X.env.scope scope own)
    (hg : ∀ (s : Shared) (H : Hp) (C : Addr) (cl : List (Str × Addr)) (fp : List Addr) (xe : Value → Shared → Prop), PG (blkE X s H scope (compEnvC scope cl C X.env) fp xe) tg g)
    (he : ∀ (s : Shared) (H : Hp) (C : Addr) (cl : List (Str × Addr)) (fp : List Addr) (xe : Value → Shared → Prop) (V : WX), (∀ τ, PassesAt (L2.CX X.prog X.w) (blkE X s H scope (compEnvC scope cl C X.env) fp xe) τ (WE V τ)) → PE (blkE X s H scope (compEnvC scope cl C X.env) fp xe) elt (te V))
    (hfs : ∀ x, foldedSetIterable iter X.env x = pure x) (h : tLcX wi g te (own.map (·.2)) W σ H Q)
    (hRR : ∀ D (ce : PySem.Env) s' m H', Inv X pins σ H' s' → Q (.ref D) H' → s'.heap.Ns ce.locals m → FpOk X pins H' ce.locals → compEnds (model X.prog X.w) X.A X.xe use Qf (.ref D) ce (.ok .next) s') :
    wpAny (model X.prog X.w) X.A (comprehension (.ListComp elt [⟨tg, iter, [], 0⟩] scope pos) scope X.env pos' (newList []) false (eval iter X.env) use) Qf X.xe s := by
  have hfree : ∀ y ∈ scope.names, y.2 = .free → ∃ c, X.env.cells.lookup y.1 = some c := fun y hy e => by
    rcases ok.free y hy e with k | k
    · exact I.ok.has _ (.inl k)
    · exact I.ok.has _ (.inr k)
  refine comprehension_at (use := use) rfl hfs (closure_ok hfree) ok.kind (fun y hy e => by rw [ok.uniq y hy, e]) (thn (hi.run pins s σ H _ I h) fun xv s1 hx => thn hx fun itv s2 h2 => ?_)
  obtain ⟨it, fp, tn, J, H2, e, I2, T, st2, f2, q⟩ := h2
  subst e
  refine wpAny_newObj_type (newEnv_comp ?_) (by show 0 ≤ sizeLine; decide)
  generalize hD : s2.heap.objs.size = D
  have hDn : H2 D = none := I2.hok.fresh (Nat.le_of_eq hD)
  obtain ⟨V, ⟨m0, w0⟩, turn⟩ := q D hDn
  generalize hs3 : ({ s2 with heap := s2.heap.push { cls := .type "list", data := .seq ([] : List Value).toArray } } : Shared) = s3
  have I3 : Inv X pins σ (upd H2 D (.lst [])) s3 := by
    rw [← hs3]
    refine I2.laid (t' := s2.toks) (fun b o e => Heap.get?_push_of_some _ e) (Nat.le_of_eq hD) ⟨Nat.zero_le _, [], 0, .nil, ?_⟩
    rw [← hD]
    exact Heap.get?_push_size _ rfl
  have h3 : s3.heap = s2.heap.push { cls := .type "list", data := .seq ([] : List Value).toArray } := by rw [← hs3]
  have f3 : ∀ b ∈ fp, FpOk X pins (upd H2 D (.lst [])) b ∧ b < s3.heap.objs.size := fun b hb => by
    obtain ⟨o, eo, _⟩ := T.obj _ _ st2 b hb
    have hlt := Heap.lt_size eo
    refine ⟨⟨?_, (f2 b hb).2⟩, by rw [h3, Heap.size_push]; exact Nat.lt_succ_of_lt hlt⟩
    rw [upd_ne (by rw [← hD]; exact Nat.ne_of_lt hlt)]
    exact (f2 b hb).1
  have st3 : tn 0 s3.heap := T.keep _ _ _ st2 fun b _ o e => by rw [h3]; exact Heap.get?_push_of_some _ e
  have I4' := block_start I3 ok hN f3
  have hch : ∀ b ∈ fp, (b ∈ X.ex ∨ X.s_0.heap.objs.size ≤ b) ∧ b ≠ X.env.locals ∧ (∀ x c, X.env.cells.lookup x = some c → c ≠ b) ∧ ∀ p ∈ X.pn ++ pins, p.1 ≠ b := fun b hb => ⟨(f3 b hb).1.2.2.2.1, (f3 b hb).1.2.1, (f3 b hb).1.2.2.2.2.1, (f3 b hb).1.2.2.2.2.2⟩
  have pg0 := hg s3 (upd H2 D (.lst [])) s3.heap.objs.size (cellsFrom (s3.heap.objs.size + 1) scope.names (cloFrom X.env.cells scope.names [])) fp
  have pe0 := he s3 (upd H2 D (.lst [])) s3.heap.objs.size (cellsFrom (s3.heap.objs.size + 1) scope.names (cloFrom X.env.cells scope.names [])) fp
  show codeAny _ _ (.compStart (.ListComp elt [⟨tg, iter, [], 0⟩] scope pos) 0 (.ref it) (.ref D) (compEnvC scope (cellsFrom (s3.heap.objs.size + 1) scope.names (cloFrom X.env.cells scope.names [])) s3.heap.objs.size X.env)) (compEnds (model X.prog X.w) X.A X.xe use Qf (.ref D) (compEnvC scope (cellsFrom (s3.heap.objs.size + 1) scope.names (cloFrom X.env.cells scope.names [])) s3.heap.objs.size X.env)) { s3 with heap := pushCells (s3.heap.push { cls := .type "dict", data := .dict #[] }) scope.names }
  have nfp : ∀ b ∈ fp, (upd H2 D (.lst [])) b = none := fun b hb => (f3 b hb).1.1
  generalize hce : compEnvC scope (cellsFrom (s3.heap.objs.size + 1) scope.names (cloFrom X.env.cells scope.names [])) s3.heap.objs.size X.env = ce at I4' pg0 pe0 ⊢
  have cL : ce.locals = s3.heap.objs.size := by subst hce; rfl
  have cF : ce.frame = X.env.frame := by subst hce; rfl
  generalize hH3 : upd H2 D (.lst []) = H3 at I3 I4' pg0 pe0 w0 nfp f3
  generalize hs4 : ({ s3 with heap := pushCells (s3.heap.push { cls := .type "dict", data := .dict #[] }) scope.names } : Shared) = s4 at I4' ⊢
  have st4 : tn 0 s4.heap := T.keep _ _ _ st3 fun b _ o e => by rw [← hs4]; exact pushCells_keeps _ _ _ _ (Heap.get?_push_of_some _ e)
  generalize hxe : (notedBy (model X.prog X.w) X.A ce fun e s' => compEnds (model X.prog X.w) X.A X.xe use Qf (.ref D) ce (.error e) s') = xe
  have pg := pg0 xe
  have pe := pe0 xe (fun cls d _ H => W cls d σ H) (fun τ pins9 H9 s9 ev s' I9 c => by
    show xe ev s'
    rw [← hxe]
    obtain ⟨m, hn, _⟩ := I9.loc
    have key := comp_fail hs hf tk I3 cF cL hch I9.base I9.os (m := m) hn I9.free (E := fun cls d H => W cls d σ H) (fun _ _ _ z => z) c
    cases use <;> exact key)
  have I4 : Inv (blkE X s3 H3 scope ce fp xe) [] (wipe σ (own.map (·.2))) H3 s4 := blkE_inv I4'
  have stat : ∀ {τ : L2.St} {H' : Hp} {s' : Shared}, Inv (blkE X s3 H3 scope ce fp xe) [] τ H' s' → (∀ b ∈ fp, H' b = none) → ∀ b ∈ fp, FpOk (blkE X s3 H3 scope ce fp xe) [] H' b := fun {τ H' s'} I' hn b hb =>
    ⟨hn b hb, (I'.ok.exf b hb).1, I'.ok.exfs b hb, .inl hb, fun x c e => (I'.ok.exf b hb).2 x c e, fun p hp => absurd (show p ∈ ([] : List (Addr × Obj)) ++ [] from hp) (by simp)⟩
  have errs : ∀ ev s', xe ev s' → notedBy (model X.prog X.w) X.A ce (fun e s' => compEnds (model X.prog X.w) X.A X.xe use Qf (.ref D) ce (.error e) s') ev s' := fun ev s' z => by rw [hxe]; exact z
  have loop : codeAny (model X.prog X.w) X.A (.compLoop (.ListComp elt [⟨tg, iter, [], 0⟩] scope pos) 0 (.ref it) (.ref D) ce) (compEnds (model X.prog X.w) X.A X.xe use Qf (.ref D) ce) s4 := by
    refine compLoop_any (fun n s' => ∃ i H', Inv (blkE X s3 H3 scope ce fp xe) [] (wipe σ (own.map (·.2))) H' s' ∧ tn i s'.heap ∧ (∀ b ∈ fp, H' b = none) ∧ V i n H') ?_ m0 ⟨0, H3, I4, st4, nfp, w0⟩
    rintro n s5 ⟨i, H5, I5, st5, n5, w5⟩
    rcases turn i n H5 w5 with ⟨stop, qq⟩ | ⟨go, Nx, hNx, step⟩
    · have td := T.done (blkE X s3 H3 scope ce fp xe) rfl rfl rfl hc i [] s5 _ H5 (fun _ _ => False) I5 (stat I5 n5) st5 stop
      refine thnF td fun r s6 ⟨hr, I6⟩ => ?_
      subst hr
      have I7 : Inv X pins σ H5 s6 := I3.call' (ch := fp) I6.os I6.base I6.hok I6.bare hch
      have nC : H5 ce.locals = none := I6.free
      obtain ⟨m, hn, _⟩ := I6.loc
      exact hRR D ce s6 m H5 I7 qq hn (I3.fpOk (Nat.le_of_eq cL.symm) nC)
    · have ti := T.item (blkE X s3 H3 scope ce fp xe) rfl rfl rfl hc i [] s5 _ H5 (fun _ _ => False) I5 (stat I5 n5) st5 go
      refine thnF ti fun r s6 ⟨u, hr, h6⟩ => ?_
      subst hr
      refine thnF h6 fun _ s7 ⟨x, H7, I7, r7, y7, st7, n7⟩ => ?_
      have I7' := I7.pinned (stat I7 n7) (T.obj _ _ st7)
      refine wpAny_mono (pg.run _ s7 _ H7 x u _ I7' r7 (step x H7 y7)) (fun _ s8 ⟨σ8, H8, I8, hw8, q8⟩ => ?_) errs
      refine wpAny_pure ?_
      rw [if_pos rfl]
      have fin : ∀ {s' : Shared} {H' : Hp}, Inv (blkE X s3 H3 scope ce fp xe) ([] ++ pinsAt fp s7.heap) σ8 H' s' → Nx H' → ∃ m, m < n ∧ ∃ i H', Inv (blkE X s3 H3 scope ce fp xe) [] (wipe σ (own.map (·.2))) H' s' ∧ tn i s'.heap ∧ (∀ b ∈ fp, H' b = none) ∧ V i m H' := fun {s' H'} I' nx => by
        obtain ⟨m', hm, w'⟩ := hNx H' nx
        have pin' : ∀ b ∈ fp, ∀ o, s7.heap.get? b = some o → s'.heap.get? b = some o ∧ H' b = none := fun b hb o e =>
          let z := I'.pin (b, o) (List.mem_append_right _ (List.mem_append_right _ (mem_pinsAt hb e)))
          ⟨z.1, z.2.1⟩
        have hl : (wipe σ (own.map (·.2))).length = σ8.length := by rw [← hw8, wipe_length]
        refine ⟨m', hm, i + 1, H', (I'.unpinned (pins := [])).weak hl (fun j v e => ?_), T.keep _ _ _ st7 fun b hb o e => (pin' b hb o e).1, fun b hb => ?_, w'⟩
        · rw [← hw8] at e
          exact (wipe_some e).1
        · obtain ⟨o, e, _⟩ := T.obj _ _ st7 b hb
          exact (pin' b hb o e).2
      refine wpAny_mono (pe.run _ s8 σ8 H8 _ I8 q8) (fun z s10 ⟨yv, H10, I10, r10, acc, hD10, hz10, nx⟩ => ?_) errs
      exact app_ok (X := blkE X s3 H3 scope ce fp xe) I10 hD10 hz10 r10 fun s11 I11 => fin I11 nx
  exact codeAny_compStart_list loop (T.self X.A 0 _ _ _ st4 loop)
/-- name = [..] on one row -/
theorem ps_setLcX {i : Nat} {y : Str} {py : Pos} {elt tg iter : Expr} {scope : Scope} {own : List (Str × Nat)} {pos spos : Pos} {wi : TI} {g : TG} {te : WX → TE} {W : WX} (hs : X.stack = X.env :: X.outer) (hf : X.env.frame = some X.env.locals) (tk : Takes X W) (hc : X.calm = true) (hN : X.N.Nodup) (hy : X.N[i]? = some y) (hyl : X.env.scope.names.lookup y = some .local)
    (hsw : swapsWith (.ListComp elt [⟨tg, iter, [], 0⟩] scope pos) (some (.Name y py)) spos.line X.env = pure true) (hi : PI X tg iter wi) (ok : BlkOk X.N X.env.scope scope own)
    (hg : ∀ (s : Shared) (H : Hp) (C : Addr) (cl : List (Str × Addr)) (fp : List Addr) (xe : Value → Shared → Prop), PG (blkE X s H scope (compEnvC scope cl C X.env) fp xe) tg g)
    (he : ∀ (s : Shared) (H : Hp) (C : Addr) (cl : List (Str × Addr)) (fp : List Addr) (xe : Value → Shared → Prop) (V : WX), (∀ τ, PassesAt (L2.CX X.prog X.w) (blkE X s H scope (compEnvC scope cl C X.env) fp xe) τ (WE V τ)) → PE (blkE X s H scope (compEnvC scope cl C X.env) fp xe) elt (te V))
    (hfs : ∀ x, foldedSetIterable iter X.env x = pure x := by intro _; rfl) :
    PS X (.Assign [.Name y py] (.ListComp elt [⟨tg, iter, [], 0⟩] scope pos) spos) (tAsg (tLcX wi g te (own.map (·.2)) W) (gName i)) := by
  refine ⟨fun pins s σ H D I h => ?_⟩
  rw [exec_Assign_Name_used _ _ _ _ hsw]
  refine wpAny_bind (wpAny_standAt (wpAny_bind ?_))
  show wpAny _ X.A (do let _ ← comprehension (.ListComp elt [⟨tg, iter, [], 0⟩] scope pos) scope X.env (firstIterPos [⟨tg, iter, [], 0⟩] pos) (newList []) false (eval iter X.env) (some (assign (.Name y py) X.env))) _ _ s
  have h : tLcX wi g te (own.map (·.2)) W σ H (fun x H1 => gName i x σ H1 D.nx) := h
  refine wpAny_bind (thn (lcx_core (Qf := fun _ s' => SP X pins D .next s') hs hf tk hc hN I hi ok hg he hfs h fun L ce s' m H' I' q hn f => ?_) fun _ s' hq => wpAny_pure (wpAny_pure hq))
  show wpAny _ _ (assign (.Name y py) X.env (.ref L)) _ _ _
  refine wpAny_assign_Name (store_ok2 (v := V.ref L) I' hN hy (.inl hyl) rfl (fun s2 I2 ⟨a, sb, ha⟩ => ?_) (.inr hyl))
  obtain ⟨f0, f1, f2, f3, f4, f5⟩ := f
  have haC : ce.locals ≠ a := by
    rcases ha with z | z
    · rw [z]; exact f1
    · exact fun e => f4 y a z e.symm
  obtain ⟨o, es, ep, ho, r⟩ := hn
  refine ⟨m, ⟨o, es, ep, (sb.2 _ haC).trans ho, r⟩, fun h2 sb2 => ?_⟩
  exact ⟨_, H', I2.turned (t' := s2.toks) (fun b o hb e => (sb2.2 b hb).trans e) f0 f1 f3 f4 f5, q⟩
end

/-! ### .. over data -/
def cLoopX (h : HT') (f : FE) (vs : List Nat) : List D → Env → Out (List D × Env)
  | [], ρ => .ok ([], ρ)
  | d :: ds, ρ => match h d ρ with
    | none => .st
    | some ρ1 => match f ρ1 with
      | .ok x => (cLoopX h f vs ds (wipeE x.2 vs)).bind fun r => .ok (x.1 :: r.1, r.2)
      | .er e ρ' => .er e (wipeE ρ' vs)
      | .st => .st
def fCompX (g : FA) (h : HT') (f : FE) (vs : List Nat) : FF := fun ρ => (g ρ).bind fun r => if decide (r.1.length ≤ 100000) then match cLoopX h f vs r.1 (wipeE r.2 vs) with
    | .ok s => .ok (s.1, wipeE s.2 vs)
    | .er e ρ' => .er e (wipeE ρ' vs)
    | .st => .st
  else .st
section
variable {X : Cx} {W : WX} {scope : Scope} {tg it elt : Expr} {kp : Nat → Bool}
def tgE (X : Cx) (scope : Scope) (e : Expr) : TG := fun v σ H Q => ∀ (s : Shared) (H0 : Hp) (C : Addr) (cl : List (Str × Addr)) (fp : List Addr) (xe : Value → Shared → Prop), tAnyG (blkE X s H0 scope (compEnvC scope cl C X.env) fp xe) e v σ H Q
def teE (X : Cx) (scope : Scope) (e : Expr) (V : WX) : TE := fun σ H Q => ∀ (s : Shared) (H0 : Hp) (C : Addr) (cl : List (Str × Addr)) (fp : List Addr) (xe : Value → Shared → Prop), (∀ τ, PassesAt (L2.CX X.prog X.w) (blkE X s H0 scope (compEnvC scope cl C X.env) fp xe) τ (WE V τ)) → tAny (blkE X s H0 scope (compEnvC scope cl C X.env) fp xe) e σ H Q
def SEX (X : Cx) (scope : Scope) (e : Expr) (f : FE) : Prop := ∀ (s : Shared) (H : Hp) (C : Addr) (cl : List (Str × Addr)) (fp : List Addr) (xe : Value → Shared → Prop) (V : WX), (∀ τ, PassesAt (L2.CX X.prog X.w) (blkE X s H scope (compEnvC scope cl C X.env) fp xe) τ (WE V τ)) → SE (blkE X s H scope (compEnvC scope cl C X.env) fp xe) V e f
theorem lcx_read {g : FA} {h : HT'} {f : FE} {vs : List Nat} (hi : SI X W tg it g) (hg : ∀ (s : Shared) (H : Hp) (C : Addr) (cl : List (Str × Addr)) (fp : List Addr) (xe : Value → Shared → Prop), SG (kpv vs) (blkE X s H scope (compEnvC scope cl C X.env) fp xe) tg h) (he : SEX X scope elt f)
    (B H : Hp) (ρ : Env) (σ : L2.St) (R : Rep B H ρ σ) (Q : VK) (hw : (fCompX g h f vs ρ).wp (AskF B H (Own ρ σ) σ Q) (AskE X W B H (Own ρ σ) σ)) : tLcX (tAnyI X tg it) (tgE X scope tg) (teE X scope elt) vs W σ H Q := by
  unfold fCompX at hw
  rw [wp_bind] at hw
  refine hi B H ρ σ R _ (hw.mono (fun r hr J B1 H1 g1 R1 wk => ?_) fun _ _ z => z)
  obtain ⟨ds, ρ1⟩ := r
  dsimp only at hr g1 R1 wk
  intro D hD
  by_cases cz : decide (ds.length ≤ 100000) = true
  · rw [if_pos cz] at hr
    have hz : ds.length ≤ 100000 := of_decide_eq_true cz
    have hr' : (cLoopX h f vs ds (wipeE ρ1 vs)).wp (fun s => AskF B H (Own ρ σ) σ Q (s.1, wipeE s.2 vs)) (fun e ρe => AskE X W B H (Own ρ σ) σ e (wipeE ρe vs)) := by
      cases q : cLoopX h f vs ds (wipeE ρ1 vs) with
      | ok s => rw [q] at hr; exact hr
      | er e ρe => rw [q] at hr; exact hr
      | st => rw [q] at hr; exact hr
    clear hr
    have hD0 : Own ρ σ D ∨ H D = none := g1.back (.inr hD)
    obtain ⟨Rw, ow⟩ := wipe_rep R1 (vs := vs)
    refine ⟨fun i m H' => ∃ B' ρ' acc es, Go B H (Own ρ σ) B' H' (Own ρ' (wipe σ vs)) ∧ Rep B' H' ρ' (wipe σ vs) ∧ Ex B1 B' ∧ B' D = none ∧ H' D = some (.lst acc) ∧ RpL B' acc es ∧ ¬ Own ρ' (wipe σ vs) D ∧ es.length ≤ i ∧ m = ds.length - i ∧ i ≤ ds.length ∧
      (cLoopX h f vs (ds.drop i) ρ').wp (fun s => AskF B H (Own ρ σ) σ Q (es ++ s.1, wipeE s.2 vs)) (fun e ρe => AskE X W B H (Own ρ σ) σ e (wipeE ρe vs)), ⟨ds.length, B1, wipeE ρ1 vs, [], [], ?_, ?_, Ex.refl B1, R1.ex.none hD, upd_same, .nil, ?_, Nat.le_refl _, rfl, Nat.zero_le _, hr'⟩, ?_⟩
    · exact (⟨g1.ex, g1.fr, g1.nb, fun a z => g1.ow a (ow a z), g1.th⟩ : Go B H (Own ρ σ) B1 H1 (Own (wipeE ρ1 vs) (wipe σ vs))).updNew hD0
    · exact Rw.updOther (R1.ex.none hD) (Rw.not_own hD)
    · exact Rw.not_own hD
    · rintro i m H' ⟨B', ρ', acc, es, g', R', e', nD, hDl, rl, oD, hle, rfl, hi', hw'⟩
      by_cases hlt : i < ds.length
      · obtain ⟨go, yl⟩ := wk.item i H' ds[i] (e'.trans R'.ex) (List.getElem?_eq_getElem hlt)
        rw [List.drop_eq_getElem_cons hlt] at hw'
        unfold cLoopX at hw'
        cases qh : h ds[i] ρ' with
        | none => rw [qh] at hw'; exact hw'.elim
        | some ρ2 =>
          rw [qh] at hw'
          dsimp only at hw'
          refine .inr ⟨go, fun H3 => ∃ B3 ρ3 acc3 es3, Go B H (Own ρ σ) B3 H3 (Own ρ3 (wipe σ vs)) ∧ Rep B3 H3 ρ3 (wipe σ vs) ∧ Ex B1 B3 ∧ B3 D = none ∧ H3 D = some (.lst acc3) ∧ RpL B3 acc3 es3 ∧ ¬ Own ρ3 (wipe σ vs) D ∧ es3.length ≤ i + 1 ∧
            (cLoopX h f vs (ds.drop (i + 1)) ρ3).wp (fun s => AskF B H (Own ρ σ) σ Q (es3 ++ s.1, wipeE s.2 vs)) (fun e ρe => AskE X W B H (Own ρ σ) σ e (wipeE ρe vs)),
            fun H3 ⟨B3, ρ3, acc3, es3, a1, a2, a3, a4, a5, a6, a7, a8, a9⟩ => ⟨ds.length - (i + 1), by omega, B3, ρ3, acc3, es3, a1, a2, a3, a4, a5, a6, a7, a8, rfl, hlt, a9⟩, fun x H2 y => ?_⟩
          obtain ⟨B2, R2, g2, r2⟩ := Yld.rep (o := Own ρ' (wipe σ vs)) R' ((yl x H2 y).mono e')
          have nD2 : B2 D = none := g2.nb D _ hDl nD oD
          have hD2 : H2 D = some (.lst acc) := g2.fr D _ hDl oD
          intro s0 H00 C0 cl0 fp0 xe0
          refine hg s0 H00 C0 cl0 fp0 xe0 B2 H2 ρ' (wipe σ vs) x ds[i] ρ2 R2 r2 qh _ fun σ2 k2 R3 o2 l2 => ?_
          have ws : wipe σ2 vs = wipe σ vs := by
            have := wipe_same (σ := wipe σ vs) (σ' := σ2) (vs := vs) l2 fun j hj => k2 j (by unfold kpv; simp [hj])
            rw [this, wipe_wipe]
          have oD2 : ¬ Own ρ2 σ2 D := fun z => oD (o2 D z)
          have g3 : Go B H (Own ρ σ) B2 H2 (Own ρ2 σ2) := g'.trans ⟨g2.ex, g2.fr, g2.nb, fun a z => .inl (o2 a z), g2.th⟩
          refine ⟨ws, fun s1 H01 C1 cl1 fp1 xe1 hpa => ?_⟩
          refine he s1 H01 C1 cl1 fp1 xe1 _ hpa B2 H2 ρ2 σ2 R3 _ ?_
          cases qf : f ρ2 with
          | st => rw [qf] at hw'; exact hw'.elim
          | er e ρe =>
            rw [qf] at hw'
            intro B6 H6 cls dd g6 R6 er6
            have hx : AskE X W B H (Own ρ σ) σ e (wipeE (wipeE ρe vs) vs) := hw'
            obtain ⟨R7, o7⟩ := wipe_rep R6 (vs := vs)
            rw [ws] at R7 o7
            obtain ⟨R8, o8⟩ := wipe_back R7
            exact hx B6 H6 cls dd ((g3.trans g6).trans ⟨Ex.refl _, fun _ _ h _ => h, fun _ _ _ h _ => h, fun a z => .inl (o7 a (o8 a z)), fun _ h => h⟩) R8 er6
          | ok xx =>
            rw [qf] at hw'
            obtain ⟨d, ρ6⟩ := xx
            intro B6 H6 v g6 R6 r6
            dsimp only at g6 R6 r6 hw'
            have nD6 : B6 D = none := g6.nb D _ hD2 nD2 oD2
            have hD6 : H6 D = some (.lst acc) := g6.fr D _ hD2 oD2
            have oD6 : ¬ Own ρ6 σ2 D := fun z => by
              rcases g6.ow D z with q | q
              · exact oD2 q
              · rw [hD2] at q; cases q
            obtain ⟨R7, o7⟩ := wipe_rep R6 (vs := vs)
            rw [ws] at R7 o7
            have g7 : Go B H (Own ρ σ) B6 H6 (Own (wipeE ρ6 vs) (wipe σ vs)) := (g3.trans g6).trans ⟨Ex.refl _, fun _ _ h _ => h, fun _ _ _ h _ => h, fun a z => .inl (o7 a z), fun _ h => h⟩
            have oD7 : ¬ Own (wipeE ρ6 vs) (wipe σ vs) D := fun z => oD6 (o7 D z)
            have rl7 := rl.mono (g2.ex.trans g6.ex)
            refine ⟨acc, hD6, lt_line (by rw [rl.length]; omega), B6, wipeE ρ6 vs, acc ++ [v], es ++ [d], g7.updNew hD0, R7.updOther nD6 oD7, (e'.trans g2.ex).trans g6.ex, nD6, upd_same, rl7.append (.cons r6 .nil), oD7, by rw [List.length_append]; simp only [List.length_singleton]; omega, ?_⟩
            have hx : ((cLoopX h f vs (ds.drop (i + 1)) (wipeE ρ6 vs)).bind fun r => Out.ok (d :: r.1, r.2)).wp (fun s => AskF B H (Own ρ σ) σ Q (es ++ s.1, wipeE s.2 vs)) (fun e ρe => AskE X W B H (Own ρ σ) σ e (wipeE ρe vs)) := hw'
            rw [wp_bind] at hx
            refine hx.mono (fun s hs => ?_) fun _ _ z => z
            have e1 : es ++ [d] ++ s.1 = es ++ (d :: s.1) := by simp
            rw [e1]
            exact hs
      · have ei : i = ds.length := by omega
        subst ei
        rw [List.drop_length] at hw'
        refine .inl ⟨wk.done _ H' (e'.trans R'.ex) rfl, ?_⟩
        obtain ⟨R8, o8⟩ := wipe_back R'
        have hw2 : AskF B H (Own ρ σ) σ Q (es ++ [], wipeE ρ' vs) := hw'
        rw [List.append_nil] at hw2
        exact hw2 B' H' D acc (g'.trans ⟨Ex.refl _, fun _ _ h _ => h, fun _ _ _ h _ => h, fun a z => .inl (o8 a z), fun _ h => h⟩) R8 nD hDl rl (fun z => oD (o8 D z)) hD0
  · rw [if_neg cz] at hr; exact hr.elim
theorem ss_setLcX {pos spos py : Pos} {y : Str} {i : Nat} {g : FA} {h : HT'} {f : FE} {own : List (Str × Nat)} (hs : X.stack = X.env :: X.outer) (hf : X.env.frame = some X.env.locals) (tk : Takes X W) (hc : X.calm = true) (hN : X.N.Nodup) (hy : X.N[i]? = some y) (hyl : X.env.scope.names.lookup y = some .local)
    (hsw : swapsWith (.ListComp elt [⟨tg, it, [], 0⟩] scope pos) (some (.Name y py)) spos.line X.env = pure true) (ok : BlkOk X.N X.env.scope scope own) (hi : SI X W tg it g)
    (hg : ∀ (s : Shared) (H : Hp) (C : Addr) (cl : List (Str × Addr)) (fp : List Addr) (xe : Value → Shared → Prop), SG (kpv (own.map (·.2))) (blkE X s H scope (compEnvC scope cl C X.env) fp xe) tg h)
    (he : SEX X scope elt f) (hk : kp i = false) (hfs : ∀ x, foldedSetIterable it X.env x = pure x := by intro _; rfl) :
    SS kp X W (.Assign [.Name y py] (.ListComp elt [⟨tg, it, [], 0⟩] scope pos) spos) (sSetF i (fCompX g h f (own.map (·.2)))) :=
  ss_setF' (ps_setLcX hs hf tk hc hN hy hyl hsw pi_any ok (fun s H C cl fp xe => ⟨fun pins s' σ H' v u Q I r hh => pg_any.run pins s' σ H' v u Q I r (hh s H C cl fp xe)⟩)
    (te := teE X scope elt) (fun s H C cl fp xe V hpa => ⟨fun pins s' σ H' Q I hh => pe_any.run pins s' σ H' Q I (hh s H C cl fp xe hpa)⟩) hfs) (fun B H ρ σ R Q hw => lcx_read hi hg he B H ρ σ R Q hw) hk
end
end KV
set_option Elab.async false
set_option linter.all false
set_option autoImplicit false
set_option maxRecDepth 100000
set_option maxHeartbeats 4000000
namespace KV
open PySem PySem.Spec PyProof.Rows L2
variable [KK]

/-! ### zip of three whose last tuple is still out -/
section
variable {prog : Program} {w : World} {A : Around} {E : Value → Shared → Prop} {s : Shared} {z TI TO T i1 i2 i3 : Addr} {f : Bool} {oT : Obj} {fp1 fp2 fp3 : List Addr} {n1 n2 n3 i : Nat} {P1 P2 P3 : Nat → Value → Prop} {St1 St2 St3 : Nat → Heap → Prop}
theorem z3_item (S : ZipSep3 z TI TO i1 i2 i3 fp1 fp2 fp3) (D1 : Draws prog w A.in1 i1 fp1 n1 P1 St1) (D2 : Draws prog w A.in1 i2 fp2 n2 P2 St2) (D3 : Draws prog w A.in1 i3 fp3 n3 P3 St3) (hz : IsZipHeld s.heap z TI TO T f) (hT : s.heap.get? T = some oT) (hTI : IsTupOf3 s.heap TI (.ref i1) (.ref i2) (.ref i3))
    (st1 : St1 i s.heap) (st2 : St2 i s.heap) (st3 : St3 i s.heap) (k1 : i < n1) (k2 : i < n2) (k3 : i < n3) {Q : Option Value → Shared → Prop}
    (hQ : ∀ x1 x2 x3 h' tk, P1 i x1 → P2 i x2 → P3 i x3 → IsZipHeld h' z TI TO T true → St1 (i + 1) h' → St2 (i + 1) h' → St3 (i + 1) h' → IsTupOf3 h' s.heap.objs.size x1 x2 x3 → h'.objs.size = s.heap.objs.size + 1 →
      (∀ c o, c ≠ z → c ≠ i1 → c ≠ i2 → c ≠ i3 → s.heap.get? c = some o → h'.get? c = some o) → Q (some (.ref s.heap.objs.size)) { s with heap := h', toks := tk }) : wpAny (model prog w) A (pyNext (.ref z)) Q E s := by
  have hTy : s.TypeIs (.ref z) "zip" := ⟨_, hz, rfl⟩
  unfold pyNext
  refine wpAny_bind (wpAny_attempt (wpAny_callSpecial?_slot (name := Str.ofString "__next__") hTy F.slot_zip_next (wpAny_call_entry F.slot_zip_next hTy F.entry_zip_next ?_ (F.args_zip_next_1 _))))
  obtain ⟨hp, g, d, tk0, os⟩ := s
  show wpAny _ _ (field (.ref z) 2 >>= _) _ _ _
  refine wpAny_bind (wpAny_field hz rfl (x := .bool false) rfl ?_)
  show wpAny _ _ (field (.ref z) 3 >>= _) _ _ _
  refine wpAny_bind (wpAny_field hz rfl (x := .ref TI) rfl ?_)
  refine wpAny_bind (wpAny_seqItems hTI rfl ?_)
  show wpAny _ _ (Builtin.SmallTypes.ownedTupleIsFree (.ref z) >>= _) _ _ _
  refine wpAny_bind (wpAny_tupleHeld_zip hz hT fun g0 z0 s0 => ?_)
  simp only [Bool.false_eq_true, if_false]
  refine wpAny_bind ?_
  rw [← Array.forIn_toList]
  simp only [List.forIn_cons, List.forIn_nil]
  refine wpAny_bind (wpAny_bind (wpAny_holding ?_))
  show wpAny _ _ (Builtin.SmallTypes.nextOf (.ref i1) >>= _) _ _ ⟨g0, g, d, tk0, os⟩
  refine wpAny_bind (D1.item i _ _ _ k1 (D1.over st1 s0 S.zf1) fun x1 p1 t1 y1 n1' q1 => wpAny_pure ?_)
  replace q1 : Heap.SameBut i1 g0 p1 := q1
  refine wpAny_pure ?_
  refine wpAny_bind (wpAny_bind (wpAny_holding ?_))
  show wpAny _ _ (Builtin.SmallTypes.nextOf (.ref i2) >>= _) _ _ ⟨p1, g, d, t1, os⟩
  refine wpAny_bind (D2.item i _ _ _ k2 (D2.over (D2.over st2 s0 S.zf2) q1 S.sep1_2) fun x2 p2 t2 y2 n2' q2 => wpAny_pure ?_)
  replace q2 : Heap.SameBut i2 p1 p2 := q2
  refine wpAny_pure ?_
  refine wpAny_bind (wpAny_bind (wpAny_holding ?_))
  show wpAny _ _ (Builtin.SmallTypes.nextOf (.ref i3) >>= _) _ _ ⟨p2, g, d, t2, os⟩
  refine wpAny_bind (D3.item i _ _ _ k3 (D3.over (D3.over (D3.over st3 s0 S.zf3) q1 S.sep1_3) q2 S.sep2_3) fun x3 p3 t3 y3 n3' q3 => wpAny_pure ?_)
  replace q3 : Heap.SameBut i3 p2 p3 := q3
  refine wpAny_pure (wpAny_pure ?_)
  show wpAny _ _ (newTuple [x1, x2, x3] >>= _) _ _ _
  refine wpAny_bind (wpAny_newTuple ?_)
  have sz : p3.objs.size = hp.objs.size := by rw [q3.1, q2.1, q1.1, s0.1]
  have z3 : IsZipHeld p3 z TI TO T true := q3.extBut _ _ S.zi3 (q2.extBut _ _ S.zi2 (q1.extBut _ _ S.zi1 z0))
  have kp : ∀ c o, c ≠ z → c ≠ i1 → c ≠ i2 → c ≠ i3 → hp.get? c = some o → p3.get? c = some o := fun c o c0 c1 c2 c3 e => q3.extBut _ _ c3 (q2.extBut _ _ c2 (q1.extBut _ _ c1 (s0.extBut _ _ c0 e)))
  have j1 : St1 (i + 1) p3 := D1.over (D1.over n1' q2 S.sep2_1) q3 S.sep3_1
  have j2 : St2 (i + 1) p3 := D2.over n2' q3 S.sep3_2
  have up : ∀ c o, p3.get? c = some o → (p3.push { cls := .type "tuple", data := .seq #[x1, x2, x3] }).get? c = some o := fun c o e => Heap.get?_push_of_some _ e
  have hN : IsTupOf3 (p3.push { cls := .type "tuple", data := .seq #[x1, x2, x3] }) p3.objs.size x1 x2 x3 := Heap.get?_push_size _ rfl
  have hsz : (p3.push { cls := .type "tuple", data := .seq #[x1, x2, x3] }).objs.size = p3.objs.size + 1 := Heap.size_push ..
  refine wpAny_pure ⟨_, rfl, wpAny_pure ?_⟩
  show Q (some (.ref p3.objs.size)) _
  rw [sz] at hN hsz ⊢
  exact hQ x1 x2 x3 _ t3 y1 y2 y3 (up _ _ z3) (D1.frame _ _ _ j1 fun b _ o e => up b o e) (D2.frame _ _ _ j2 fun b _ o e => up b o e) (D3.frame _ _ _ n3' fun b _ o e => up b o e) hN hsz fun c o c0 c1 c2 c3 e => up c o (kp c o c0 c1 c2 c3 e)
theorem z3_end (S : ZipSep3 z TI TO i1 i2 i3 fp1 fp2 fp3) (D1 : Draws prog w A.in1 i1 fp1 n1 P1 St1) (hz : IsZipHeld s.heap z TI TO T f) (hT : s.heap.get? T = some oT) (hTI : IsTupOf3 s.heap TI (.ref i1) (.ref i2) (.ref i3)) (st1 : St1 n1 s.heap) {Q : Option Value → Shared → Prop}
    (hQ : ∀ h', (∀ c o, c ≠ z → c ≠ i1 → s.heap.get? c = some o → h'.get? c = some o) → Q none { s with heap := h' }) : wpAny (model prog w) A (pyNext (.ref z)) Q E s := by
  have hTy : s.TypeIs (.ref z) "zip" := ⟨_, hz, rfl⟩
  unfold pyNext
  refine wpAny_bind (wpAny_attempt (wpAny_callSpecial?_slot (name := Str.ofString "__next__") hTy F.slot_zip_next (wpAny_call_entry F.slot_zip_next hTy F.entry_zip_next ?_ (F.args_zip_next_1 _))))
  obtain ⟨hp, g, d, tk0, os⟩ := s
  show wpAny _ _ (field (.ref z) 2 >>= _) _ _ _
  refine wpAny_bind (wpAny_field hz rfl (x := .bool false) rfl ?_)
  show wpAny _ _ (field (.ref z) 3 >>= _) _ _ _
  refine wpAny_bind (wpAny_field hz rfl (x := .ref TI) rfl ?_)
  refine wpAny_bind (wpAny_seqItems hTI rfl ?_)
  show wpAny _ _ (Builtin.SmallTypes.ownedTupleIsFree (.ref z) >>= _) _ _ _
  refine wpAny_bind (wpAny_tupleHeld_zip hz hT fun g0 z0 s0 => ?_)
  simp only [Bool.false_eq_true, if_false]
  refine wpAny_bind ?_
  rw [← Array.forIn_toList]
  simp only [List.forIn_cons, List.forIn_nil]
  refine wpAny_bind (wpAny_bind (wpAny_holding ?_))
  show wpAny _ _ (Builtin.SmallTypes.nextOf (.ref i1) >>= _) _ _ ⟨g0, g, d, tk0, os⟩
  refine wpAny_bind (D1.done ⟨g0, g, d, tk0, os⟩ _ _ (D1.over st1 s0 S.zf1) fun q e hq he => ?_)
  obtain ⟨o, ho, hc⟩ := he
  refine wpAny_bind (wpAny_isInstance (T := "StopIteration") (b := true) ⟨o, ho, hc⟩ isSubtype_stop ?_)
  exact wpAny_pure (hQ _ fun c o c0 c1 x => hq _ _ c1 (s0.extBut _ _ c0 x))
end

/-! ### an iterator that looks whether its first tuple is still there -/
structure TurnA (P : Program) (w : World) (K : PySem.W.Frag) (tg : Expr) (J : It) (fp : List Addr) (it : Addr) (tn : Nat → Addr → Heap → Prop) : Prop where
  mem : it ∈ fp
  obj : ∀ i T h, tn i T h → ∀ b ∈ fp, ∃ o, h.get? b = some o ∧ ∀ v, o.data ≠ .cell v
  keep : ∀ i T h h', tn i T h → (∀ b ∈ fp, ∀ o, h.get? b = some o → h'.get? b = some o) → tn i T h'
  item : ∀ (X : Cx), X.prog = P → X.w = w → X.K = K → X.calm = true → ∀ (i : Nat) (T : Addr) (pins : List (Addr × Obj)) (s : Shared) (σ : L2.St) (H : Hp) (E : Value → Shared → Prop), Inv X pins σ H s → (∀ b ∈ fp, FpOk X pins H b) → tn i T s.heap → (i = 0 ∨ ∃ xs, H T = some (.tup xs)) → J.go i H →
    wpAny (model P w) X.A (pyNext (.ref it)) (fun r s1 => ∃ u N, r = some u ∧ u = .ref N ∧
      wpAny (model P w) X.A (letOwnedTupleGo tg (.ref it) u) (fun _ s2 => ∃ H', Inv X pins σ H' s2 ∧ J.yld i H (.ref N) H' ∧ tn (i + 1) (if i = 0 then N else T) s2.heap ∧ ∀ b ∈ fp, H' b = none) E s1) E s
  done : ∀ (X : Cx), X.prog = P → X.w = w → X.K = K → X.calm = true → ∀ (i : Nat) (T : Addr) (pins : List (Addr × Obj)) (s : Shared) (σ : L2.St) (H : Hp) (E : Value → Shared → Prop), Inv X pins σ H s → (∀ b ∈ fp, FpOk X pins H b) → tn i T s.heap → (i = 0 ∨ ∃ xs, H T = some (.tup xs)) → J.stop i H →
    wpAny (model P w) X.A (pyNext (.ref it)) (fun r s1 => r = none ∧ Inv X pins σ H s1) E s
  self : ∀ (A : Around) (s : Shared) (Q : Value → Shared → Prop) (E : Value → Shared → Prop), tn 0 0 s.heap → Q (.ref it) s → wpAny (model P w) A (pyIter (.ref it)) Q E s
def PIEA (X : Cx) (pins : List (Addr × Obj)) (σ : L2.St) (tg : Expr) (R : It → Hp → Prop) (itv : Value) (s2 : Shared) : Prop :=
  ∃ (it : Addr) (fp : List Addr) (tn : Nat → Addr → Heap → Prop) (J : It) (H' : Hp), itv = .ref it ∧ Inv X pins σ H' s2 ∧ TurnA X.prog X.w X.K tg J fp it tn ∧ tn 0 0 s2.heap ∧ (∀ b ∈ fp, FpOk X pins H' b) ∧ R J H'
structure PIA (X : Cx) (tg iter : Expr) (wi : TI) : Prop where
  run : ∀ (pins : List (Addr × Obj)) (s : Shared) (σ : L2.St) (H : Hp) (R : It → Hp → Prop), Inv X pins σ H s → wi σ H R →
    wpAny (model X.prog X.w) X.A (eval iter X.env) (fun v s1 => wpAny (model X.prog X.w) X.A (pyIter v) (PIEA X pins σ tg R) X.xe s1) X.xe s
section
variable {X : Cx}
def tLcA (wi : TI) (g : TG) (te : TE) (vs : List Nat) : TE := fun σ H Q => wi σ H fun J H1 => ∀ D, H1 D = none → ∃ V : Nat → Nat → Addr → Hp → Prop, (∃ m, V 0 m 0 (upd H1 D (.lst []))) ∧ ∀ i m T H, V i m T H → (i = 0 ∨ ∃ xs, H T = some (.tup xs)) ∧
  ((J.stop i H ∧ Q (.ref D) H) ∨ (J.go i H ∧ ∃ Nx : Addr → Hp → Prop, (∀ T' H', Nx T' H' → ∃ m', m' < m ∧ V (i + 1) m' T' H') ∧ ∀ N H', J.yld i H (.ref N) H' → g (.ref N) (wipe σ vs) H' fun σ2 H2 => wipe σ2 vs = wipe σ vs ∧
    te σ2 H2 fun y H4 => ∃ acc, H4 D = some (.lst acc) ∧ acc.length < sizeLine ∧ Nx (if i = 0 then N else T) (upd H4 D (.lst (acc ++ [y])))))
theorem pe_lcA {elt tg iter : Expr} {scope : Scope} {own : List (Str × Nat)} {pos : Pos} {wi : TI} {g : TG} {te : TE} (hc : X.calm = true) (hN : X.N.Nodup) (hi : PIA X tg iter wi) (ok : BlkOk X.N X.env.scope scope own)
    (hg : ∀ (s : Shared) (H : Hp) (C : Addr) (cl : List (Str × Addr)) (fp : List Addr), PG (X.blk s H scope (compEnvC scope cl C X.env) fp) tg g)
    (he : ∀ (s : Shared) (H : Hp) (C : Addr) (cl : List (Str × Addr)) (fp : List Addr), PE (X.blk s H scope (compEnvC scope cl C X.env) fp) elt te) (hfs : ∀ x, foldedSetIterable iter X.env x = pure x := by intro _; rfl) :
    PE X (.ListComp elt [⟨tg, iter, [], 0⟩] scope pos) (tLcA wi g te (own.map (·.2))) := by
  refine ⟨fun pins s σ H Q I h => ?_⟩
  rw [eval_ListComp]
  have hfree : ∀ y ∈ scope.names, y.2 = .free → ∃ c, X.env.cells.lookup y.1 = some c := fun y hy e => by
    rcases ok.free y hy e with k | k
    · exact I.ok.has _ (.inl k)
    · exact I.ok.has _ (.inr k)
  refine wpAny_comprehension_free (use := none) rfl hfs (closure_ok hfree) ok.kind (fun y hy e => by rw [ok.uniq y hy, e]) (thn (hi.run pins s σ H _ I h) fun xv s1 hx => thn hx fun itv s2 h2 => ?_)
  obtain ⟨it, fp, tn, J, H2, e, I2, T, st2, f2, q⟩ := h2
  subst e
  refine wpAny_newObj_type (newEnv_comp ?_) (by show 0 ≤ sizeLine; decide)
  generalize hD : s2.heap.objs.size = D
  have hDn : H2 D = none := I2.hok.fresh (Nat.le_of_eq hD)
  obtain ⟨V, ⟨m0, w0⟩, turn⟩ := q D hDn
  generalize hs3 : ({ s2 with heap := s2.heap.push { cls := .type "list", data := .seq ([] : List Value).toArray } } : Shared) = s3
  have I3 : Inv X pins σ (upd H2 D (.lst [])) s3 := by
    rw [← hs3]
    refine I2.laid (t' := s2.toks) (fun b o e => Heap.get?_push_of_some _ e) (Nat.le_of_eq hD) ⟨Nat.zero_le _, [], 0, .nil, ?_⟩
    rw [← hD]
    exact Heap.get?_push_size _ rfl
  have h3 : s3.heap = s2.heap.push { cls := .type "list", data := .seq ([] : List Value).toArray } := by rw [← hs3]
  have f3 : ∀ b ∈ fp, FpOk X pins (upd H2 D (.lst [])) b ∧ b < s3.heap.objs.size := fun b hb => by
    obtain ⟨o, eo, _⟩ := T.obj _ _ _ st2 b hb
    have hlt := Heap.lt_size eo
    refine ⟨⟨?_, (f2 b hb).2⟩, by rw [h3, Heap.size_push]; exact Nat.lt_succ_of_lt hlt⟩
    rw [upd_ne (by rw [← hD]; exact Nat.ne_of_lt hlt)]
    exact (f2 b hb).1
  have st3 : tn 0 0 s3.heap := T.keep _ _ _ _ st2 fun b _ o e => by rw [h3]; exact Heap.get?_push_of_some _ e
  have I4 := block_start I3 ok hN f3
  have hch : ∀ b ∈ fp, (b ∈ X.ex ∨ X.s_0.heap.objs.size ≤ b) ∧ b ≠ X.env.locals ∧ (∀ x c, X.env.cells.lookup x = some c → c ≠ b) ∧ ∀ p ∈ X.pn ++ pins, p.1 ≠ b := fun b hb => ⟨(f3 b hb).1.2.2.2.1, (f3 b hb).1.2.1, (f3 b hb).1.2.2.2.2.1, (f3 b hb).1.2.2.2.2.2⟩
  have pg := hg s3 (upd H2 D (.lst [])) s3.heap.objs.size (cellsFrom (s3.heap.objs.size + 1) scope.names (cloFrom X.env.cells scope.names [])) fp
  have pe := he s3 (upd H2 D (.lst [])) s3.heap.objs.size (cellsFrom (s3.heap.objs.size + 1) scope.names (cloFrom X.env.cells scope.names [])) fp
  show codeAny _ _ (.compStart (.ListComp elt [⟨tg, iter, [], 0⟩] scope pos) 0 (.ref it) (.ref D) (compEnvC scope (cellsFrom (s3.heap.objs.size + 1) scope.names (cloFrom X.env.cells scope.names [])) s3.heap.objs.size X.env)) (compPost (model X.prog X.w) X.A X.xe none (EP X pins σ Q) (.ref D) s3.heap.objs.size) { s3 with heap := pushCells (s3.heap.push { cls := .type "dict", data := .dict #[] }) scope.names }
  have nfp : ∀ b ∈ fp, (upd H2 D (.lst [])) b = none := fun b hb => (f3 b hb).1.1
  generalize hce : compEnvC scope (cellsFrom (s3.heap.objs.size + 1) scope.names (cloFrom X.env.cells scope.names [])) s3.heap.objs.size X.env = ce at I4 pg pe ⊢
  have cL : ce.locals = s3.heap.objs.size := by subst hce; rfl
  generalize hH3 : upd H2 D (.lst []) = H3 at I3 I4 pg pe w0 nfp f3
  generalize hs4 : ({ s3 with heap := pushCells (s3.heap.push { cls := .type "dict", data := .dict #[] }) scope.names } : Shared) = s4 at I4 ⊢
  have st4 : tn 0 0 s4.heap := T.keep _ _ _ _ st3 fun b _ o e => by rw [← hs4]; exact pushCells_keeps _ _ _ _ (Heap.get?_push_of_some _ e)
  have stat : ∀ {τ : L2.St} {H' : Hp} {s' : Shared}, Inv (X.blk s3 H3 scope ce fp) [] τ H' s' → (∀ b ∈ fp, H' b = none) → ∀ b ∈ fp, FpOk (X.blk s3 H3 scope ce fp) [] H' b := fun {τ H' s'} I' hn b hb =>
    ⟨hn b hb, (I'.ok.exf b hb).1, I'.ok.exfs b hb, .inl hb, fun x c e => (I'.ok.exf b hb).2 x c e, fun p hp => absurd (show p ∈ ([] : List (Addr × Obj)) ++ [] from hp) (by simp)⟩
  have loop : codeAny (model X.prog X.w) X.A (.compLoop (.ListComp elt [⟨tg, iter, [], 0⟩] scope pos) 0 (.ref it) (.ref D) ce) (compPost (model X.prog X.w) X.A X.xe none (EP X pins σ Q) (.ref D) s3.heap.objs.size) s4 := by
    refine compLoop_any (fun n s' => ∃ i T1 H', Inv (X.blk s3 H3 scope ce fp) [] (wipe σ (own.map (·.2))) H' s' ∧ tn i T1 s'.heap ∧ (∀ b ∈ fp, H' b = none) ∧ V i n T1 H') ?_ m0 ⟨0, 0, H3, I4, st4, nfp, w0⟩
    rintro n s5 ⟨i, T1, H5, I5, st5, n5, w5⟩
    obtain ⟨alive, tt⟩ := turn i n T1 H5 w5
    rcases tt with ⟨stop, qq⟩ | ⟨go, Nx, hNx, step⟩
    · have td := T.done (X.blk s3 H3 scope ce fp) rfl rfl rfl hc i T1 [] s5 _ H5 (fun _ _ => False) I5 (stat I5 n5) st5 alive stop
      refine thnF td fun r s6 ⟨hr, I6⟩ => ?_
      subst hr
      have I7 : Inv X pins σ H5 s6 := I3.call' (ch := fp) I6.os I6.base I6.hok I6.bare hch
      have nC : H5 s3.heap.objs.size = none := by
        have z : H5 ce.locals = none := I6.free
        rw [cL] at z
        exact z
      obtain ⟨m, hn, _⟩ := I6.loc
      have hn : s6.heap.Ns ce.locals m := hn
      rw [cL] at hn
      refine ⟨m, hn, fun h4 sb => ?_⟩
      obtain ⟨f0, f1, f2', f3', f4, f5⟩ := I3.fpOk (Nat.le_refl _) nC
      exact ⟨.ref D, H5, I7.turned (t' := s6.toks) (fun b o hb e => (sb.2 b hb).trans e) f0 f1 f3' f4 f5, rfl, qq⟩
    · have ti := T.item (X.blk s3 H3 scope ce fp) rfl rfl rfl hc i T1 [] s5 _ H5 (fun _ _ => False) I5 (stat I5 n5) st5 alive go
      refine thnF ti fun r s6 ⟨u, N, hr, hu, h6⟩ => ?_
      subst hr
      subst hu
      refine thnF h6 fun _ s7 ⟨H7, I7, y7, st7, n7⟩ => ?_
      have I7' := I7.pinned (stat I7 n7) (T.obj _ _ _ st7)
      refine thnF (pg.run _ s7 _ H7 (.ref N) (.ref N) _ I7' rfl (step N H7 y7)) fun _ s8 ⟨σ8, H8, I8, hw8, q8⟩ => ?_
      refine wpAny_pure ?_
      rw [if_pos rfl]
      have fin : ∀ {s' : Shared} {H' : Hp}, Inv (X.blk s3 H3 scope ce fp) ([] ++ pinsAt fp s7.heap) σ8 H' s' → Nx (if i = 0 then N else T1) H' → ∃ m, m < n ∧ ∃ i T1 H', Inv (X.blk s3 H3 scope ce fp) [] (wipe σ (own.map (·.2))) H' s' ∧ tn i T1 s'.heap ∧ (∀ b ∈ fp, H' b = none) ∧ V i m T1 H' := fun {s' H'} I' nx => by
        obtain ⟨m', hm, w'⟩ := hNx _ H' nx
        have pin' : ∀ b ∈ fp, ∀ o, s7.heap.get? b = some o → s'.heap.get? b = some o ∧ H' b = none := fun b hb o e =>
          let z := I'.pin (b, o) (List.mem_append_right _ (List.mem_append_right _ (mem_pinsAt hb e)))
          ⟨z.1, z.2.1⟩
        have hl : (wipe σ (own.map (·.2))).length = σ8.length := by rw [← hw8, wipe_length]
        refine ⟨m', hm, i + 1, _, H', (I'.unpinned (pins := [])).weak hl (fun j v e => ?_), T.keep _ _ _ _ st7 fun b hb o e => (pin' b hb o e).1, fun b hb => ?_, w'⟩
        · rw [← hw8] at e
          exact (wipe_some e).1
        · obtain ⟨o, e, _⟩ := T.obj _ _ _ st7 b hb
          exact (pin' b hb o e).2
      refine thnF (pe.run _ s8 σ8 H8 _ I8 q8) fun z s10 ⟨yv, H10, I10, r10, acc, hD10, hz10, nx⟩ => ?_
      exact app_ok (X := X.blk s3 H3 scope ce fp) I10 hD10 hz10 r10 fun s11 I11 => fin I11 nx
  exact codeAny_compStart_list loop (T.self X.A s4 _ _ st4 loop)
end

/-! ### zip(*x), x three tuples of one length -/
def It3 (K : PySem.W.Frag) (a b c : Addr) : It :=
  ⟨fun i H => ∃ (xs ys us : List V) (x y u : V), SqT K H a xs ∧ SqT K H b ys ∧ SqT K H c us ∧ xs[i]? = some x ∧ ys[i]? = some y ∧ us[i]? = some u,
    fun i H v H' => ∃ N x y u, v = .ref N ∧ H N = none ∧ H' = upd H N (.tup [x, y, u]) ∧ (∀ xs, SqT K H a xs → xs[i]? = some x) ∧ (∀ ys, SqT K H b ys → ys[i]? = some y) ∧ ∀ us, SqT K H c us → us[i]? = some u,
    fun i H => ∃ xs ys us : List V, SqT K H a xs ∧ SqT K H b ys ∧ SqT K H c us ∧ xs.length = i ∧ ys.length = i ∧ us.length = i⟩
def tn3 (z TI TO i1 i2 i3 a b c : Addr) (i : Nat) (T : Addr) (h : Heap) : Prop :=
  (if i = 0 then IsZip h z TI TO .none else ∃ f, IsZipHeld h z TI TO T f) ∧ IsTupOf3 h TI (.ref i1) (.ref i2) (.ref i3) ∧ (∃ x y u, IsTupOf3 h TO x y u) ∧ isIt true h i1 a i ∧ isIt true h i2 b i ∧ isIt true h i3 c i
theorem turn_zip3 {P : Program} {w : World} {K : PySem.W.Frag} {nm : Str} {tpos : Pos} {a b c z TI TO i1 i2 i3 : Addr} (S : ZipSep3 z TI TO i1 i2 i3 [i1, a] [i2, b] [i3, c]) (n1 : a ≠ i1) (n2 : b ≠ i2) (n3 : c ≠ i3) :
    TurnA P w K (.Name nm tpos) (It3 K a b c) [z, TI, TO, i1, i2, i3] z (tn3 z TI TO i1 i2 i3 a b c) where
  mem := by simp
  obj := fun i T h st e he => by
    obtain ⟨hz, hTI, ⟨x, y, u, hTO⟩, d1, d2, d3⟩ := st
    have ec : e = z ∨ e = TI ∨ e = TO ∨ e = i1 ∨ e = i2 ∨ e = i3 := by simpa using he
    rcases ec with q | q | q | q | q | q
    · rw [q]
      by_cases i0 : i = 0
      · rw [if_pos i0] at hz
        exact ⟨_, hz, fun v q => nomatch q⟩
      · rw [if_neg i0] at hz
        obtain ⟨f, hz⟩ := hz
        exact ⟨_, hz, fun v q => nomatch q⟩
    · rw [q]; exact ⟨_, hTI, fun v q => nomatch q⟩
    · rw [q]; exact ⟨_, hTO, fun v q => nomatch q⟩
    · rw [q]; exact isIt_obj true d1
    · rw [q]; exact isIt_obj true d2
    · rw [q]; exact isIt_obj true d3
  keep := fun i T h h' st k => by
    obtain ⟨hz, hTI, ⟨x, y, u, hTO⟩, h1, h2, h3⟩ := st
    refine ⟨?_, k TI (by simp) _ hTI, ⟨x, y, u, k TO (by simp) _ hTO⟩, isIt_at true h1 fun o q => k i1 (by simp) o q, isIt_at true h2 fun o q => k i2 (by simp) o q, isIt_at true h3 fun o q => k i3 (by simp) o q⟩
    by_cases i0 : i = 0
    · rw [if_pos i0] at hz ⊢
      exact k z (by simp) _ hz
    · rw [if_neg i0] at hz ⊢
      obtain ⟨f, hz⟩ := hz
      exact ⟨f, k z (by simp) _ hz⟩
  item := by
    intro X hP hw hK hc i T pins s σ H E I hf st alive hg
    subst hP hw hK
    have st' := st
    obtain ⟨hz, hTI, ⟨x0, y0, u0, hTO⟩, h1, h2, h3⟩ := st
    obtain ⟨xs, ys, us, x, y, u, hqx, hqy, hqu, hx, hy, hu⟩ := hg
    obtain ⟨its, rv, p⟩ := inv_sq true I hqx
    obtain ⟨its2, rv2, p2⟩ := inv_sq true I hqy
    obtain ⟨its3, rv3, p3⟩ := inv_sq true I hqu
    obtain ⟨v1, hu1, ru⟩ := rv.get hx
    obtain ⟨v2, hu2, ru2⟩ := rv2.get hy
    obtain ⟨v3, hu3, ru3⟩ := rv3.get hu
    have lt1 : i < its.toArray.size := by
      obtain ⟨q1, _⟩ := List.getElem?_eq_some_iff.mp hu1
      simpa using q1
    have lt2 : i < its2.toArray.size := by
      obtain ⟨q1, _⟩ := List.getElem?_eq_some_iff.mp hu2
      simpa using q1
    have lt3 : i < its3.toArray.size := by
      obtain ⟨q1, _⟩ := List.getElem?_eq_some_iff.mp hu3
      simpa using q1
    have hh : X.A.in1.handled = none := I.ok.hd hc
    have D1 := draws_sq (P := X.prog) (w := X.w) true hh i1 a n1 its.toArray
    have D2 := draws_sq (P := X.prog) (w := X.w) true hh i2 b n2 its2.toArray
    have D3 := draws_sq (P := X.prog) (w := X.w) true hh i3 c n3 its3.toArray
    have old : ∀ e, e ∈ [z, TI, TO, i1, i2, i3] → e < s.heap.objs.size := fun e he => by
      have ec : e = z ∨ e = TI ∨ e = TO ∨ e = i1 ∨ e = i2 ∨ e = i3 := by simpa using he
      rcases ec with q | q | q | q | q | q
      · rw [q]
        by_cases i0 : i = 0
        · rw [if_pos i0] at hz; exact Heap.lt_size hz
        · rw [if_neg i0] at hz; obtain ⟨f, hz⟩ := hz; exact Heap.lt_size hz
      · rw [q]; exact Heap.lt_size hTI
      · rw [q]; exact Heap.lt_size hTO
      · rw [q]; obtain ⟨o, e, _⟩ := isIt_obj true h1; exact Heap.lt_size e
      · rw [q]; obtain ⟨o, e, _⟩ := isIt_obj true h2; exact Heap.lt_size e
      · rw [q]; obtain ⟨o, e, _⟩ := isIt_obj true h3; exact Heap.lt_size e
    have fin : ∀ (h' : Heap) (tk : Nat) (w1 w2 w3 : Value), its.toArray[i]? = some w1 → its2.toArray[i]? = some w2 → its3.toArray[i]? = some w3 → h'.get? s.heap.objs.size = some { cls := .type "tuple", data := .seq #[w1, w2, w3] } →
        (∀ e o, e ∉ [z, TI, TO, i1, i2, i3] → s.heap.get? e = some o → h'.get? e = some o) → tn3 z TI TO i1 i2 i3 a b c (i + 1) (if i = 0 then s.heap.objs.size else T) h' →
        ∃ u N, some (Value.ref s.heap.objs.size) = some u ∧ u = .ref N ∧ wpAny (model X.prog X.w) X.A (letOwnedTupleGo (.Name nm tpos) (.ref z) u) (fun _ s2 => ∃ H', Inv X pins σ H' s2 ∧ (It3 X.K a b c).yld i H (.ref N) H' ∧ tn3 z TI TO i1 i2 i3 a b c (i + 1) (if i = 0 then N else T) s2.heap ∧ ∀ b ∈ [z, TI, TO, i1, i2, i3], H' b = none) E { s with heap := h', toks := tk } := fun h' tk w1 w2 w3 e1 e2 e3 hT hk ht => by
      have ee1 : w1 = v1 := by
        have q : its.toArray[i]? = some v1 := by simpa using hu1
        rw [q] at e1
        exact (Option.some.inj e1).symm
      have ee2 : w2 = v2 := by
        have q : its2.toArray[i]? = some v2 := by simpa using hu2
        rw [q] at e2
        exact (Option.some.inj e2).symm
      have ee3 : w3 = v3 := by
        have q : its3.toArray[i]? = some v3 := by simpa using hu3
        rw [q] at e3
        exact (Option.some.inj e3).symm
      subst ee1
      subst ee2
      subst ee3
      refine ⟨_, s.heap.objs.size, rfl, rfl, ?_⟩
      show wpAny _ _ (pure ()) _ _ _
      have new : ObjOk X.prog X.w (upd H s.heap.objs.size (.tup [x, y, u])) h' s.heap.objs.size (.tup [x, y, u]) :=
        ⟨by show 3 ≤ sizeLine; decide, [w1, w2, w3], .cons ru (.cons ru2 (.cons ru3 .nil)), ⟨_, hT, rfl, _, rfl⟩⟩
      have I1 : Inv X pins σ (upd H s.heap.objs.size (.tup [x, y, u])) { s with heap := h', toks := tk } := I.turnedNew (ch := [z, TI, TO, i1, i2, i3]) (fun e o hb q => hk e o hb q) hf (Nat.le_refl _) new
      refine wpAny_pure ⟨_, I1, ⟨_, x, y, u, rfl, I.hok.fresh (Nat.le_refl _), rfl, fun l hl => by rw [I.tuple_inj hl hqx]; exact hx, fun l hl => by rw [I.tuple_inj hl hqy]; exact hy, fun l hl => by rw [I.tuple_inj hl hqu]; exact hu⟩, ht, fun e he => ?_⟩
      rw [upd_ne (Nat.ne_of_lt (old e he))]
      exact (hf e he).1
    by_cases i0 : i = 0
    · subst i0
      rw [if_pos rfl] at hz
      refine wpAny_pyNext_zipD3_item S D1 D2 D3 hz hTI hTO ⟨h1, p⟩ ⟨h2, p2⟩ ⟨h3, p3⟩ lt1 lt2 lt3 fun w1 w2 w3 h' tk e1 e2 e3 hz2 hTO2 st1 st2 st3 hT hsz hk => ?_
      refine fin h' tk w1 w2 w3 e1 e2 e3 hT (fun e o ne q => hk e o (fun q2 => ne (by simp [q2])) (fun q2 => ne (by simp [q2])) (fun q2 => ne (by simp [q2])) (fun q2 => ne (by simp [q2])) (fun q2 => ne (by simp [q2])) q) ⟨?_, hk _ _ S.TIz S.TITO S.TIi1 S.TIi2 S.TIi3 hTI, ⟨w1, w2, w3, hTO2⟩, st1.1, st2.1, st3.1⟩
      rw [if_neg (by omega), if_pos rfl]
      exact ⟨false, hz2⟩
    · rw [if_neg i0] at hz
      obtain ⟨f, hz⟩ := hz
      obtain ⟨zs, hzs⟩ := alive.resolve_left i0
      obtain ⟨itT, _, ⟨oT, hoT, _⟩, _⟩ := I.tuple (SqT.of hzs)
      refine z3_item S D1 D2 D3 hz hoT hTI ⟨h1, p⟩ ⟨h2, p2⟩ ⟨h3, p3⟩ lt1 lt2 lt3 fun w1 w2 w3 h' tk e1 e2 e3 hz2 st1 st2 st3 hT hsz hk => ?_
      refine fin h' tk w1 w2 w3 e1 e2 e3 hT (fun e o ne q => hk e o (fun q2 => ne (by simp [q2])) (fun q2 => ne (by simp [q2])) (fun q2 => ne (by simp [q2])) (fun q2 => ne (by simp [q2])) q) ⟨?_, hk _ _ S.TIz S.TIi1 S.TIi2 S.TIi3 hTI, ⟨x0, y0, u0, hk _ _ S.TOz S.Ti1 S.Ti2 S.Ti3 hTO⟩, st1.1, st2.1, st3.1⟩
      rw [if_neg (by omega), if_neg i0]
      exact ⟨true, hz2⟩
  done := by
    intro X hP hw hK hc i T pins s σ H E I hf st alive hg
    subst hP hw hK
    obtain ⟨hz, hTI, ⟨x0, y0, u0, hTO⟩, h1, h2, h3⟩ := st
    obtain ⟨xs, ys, us, hqx, hqy, hqu, hx, hy, hu⟩ := hg
    obtain ⟨its, rv, p⟩ := inv_sq true I hqx
    obtain ⟨its2, rv2, p2⟩ := inv_sq true I hqy
    obtain ⟨its3, rv3, p3⟩ := inv_sq true I hqu
    have l1 : its.toArray.size = i := by rw [List.size_toArray, ← rv.length]; exact hx
    have l2 : its2.toArray.size = i := by rw [List.size_toArray, ← rv2.length]; exact hy
    have l3 : its3.toArray.size = i := by rw [List.size_toArray, ← rv3.length]; exact hu
    have hh : X.A.in1.handled = none := I.ok.hd hc
    have D1 := draws_sq (P := X.prog) (w := X.w) true hh i1 a n1 its.toArray
    have D2 := draws_sq (P := X.prog) (w := X.w) true hh i2 b n2 its2.toArray
    have D3 := draws_sq (P := X.prog) (w := X.w) true hh i3 c n3 its3.toArray
    by_cases i0 : i = 0
    · subst i0
      rw [if_pos rfl] at hz
      exact wpAny_pyNext_zipD3_end S D1 D2 D3 hz hTI hTO ⟨h1, p⟩ ⟨h2, p2⟩ ⟨h3, p3⟩ (Nat.zero_le _) (Nat.zero_le _) (Nat.zero_le _) (.inl l1.symm) fun h' tk hk => ⟨rfl, I.turnedL (ch := [z, TI, TO, i1, i2, i3]) (fun e o ne q =>
        hk e o (fun q2 => ne (by simp [q2])) (fun q2 => ne (by simp [q2])) (fun q2 => ne (by simp [q2])) (fun q2 => ne (by simp [q2])) (fun q2 => ne (by simp [q2])) q) hf⟩
    · rw [if_neg i0] at hz
      obtain ⟨f, hz⟩ := hz
      obtain ⟨zs, hzs⟩ := alive.resolve_left i0
      obtain ⟨itT, _, ⟨oT, hoT, _⟩, _⟩ := I.tuple (SqT.of hzs)
      exact z3_end S D1 hz hoT hTI (by rw [l1]; exact ⟨h1, p⟩) fun h' hk => ⟨rfl, I.turnedL (t' := s.toks) (ch := [z, TI, TO, i1, i2, i3]) (fun e o ne q => hk e o (fun q2 => ne (by simp [q2])) (fun q2 => ne (by simp [q2])) q) hf⟩
  self := fun A s Q E st h => wpAny_pyIter_zip (by have := st.1; rw [if_pos rfl] at this; exact this) h
end KV
set_option Elab.async false
set_option linter.all false
set_option autoImplicit false
set_option maxRecDepth 100000
set_option maxHeartbeats 4000000
namespace KV
open PySem PySem.Spec PyProof.Rows L2
variable [KK]
section
variable {M : Model} {A : Around} {E : Value → Shared → Prop} {s : Shared} {env : PySem.Env} {pos p : Pos} {T : String} {Q : Value → Shared → Prop} {e : Expr}
/-- T(*e), T a built-in type -/
theorem callWith_tyStar (h : wpAny M A (eval e env) (fun v s1 => PySem.W.StarOf M A E v (fun vs s2 => wpAny M A (call (.type T) vs) Q E s2) s1) E s) (he : starEach [.Starred e p] env = [(true, eval e env)] := by rfl) :
    wpAny M A (callWith pos (.type T) [] (backTo pos (starEach [.Starred e p] env)) []) Q E s := by
  rw [he]
  exact PySem.W.ks_call (P := fun _ => True) rfl (fun h _ => ⟨.machine, .inr (.inl rfl), .now⟩) (PySem.W.ks_lone (wpAny_mono h (fun v s1 q => wpAny_mono q (fun b s2 ⟨e1, q2⟩ => ⟨e1, wpAny_mono q2 (fun vs s3 q3 => ⟨trivial, q3⟩) fun _ _ z => z⟩) fun _ _ z => z) fun _ _ z => z))
end
theorem nin6 {c x y : Nat} (h : c ≠ x) (k : c ≠ y) : c ∉ [x, y] := nin2 h k
theorem sep3_new {n a b c : Nat} (ha : a < n) (hb : b < n) (hc : c < n) : ZipSep3 (n + 5) (n + 3) (n + 4) n (n + 1) (n + 2) [n, a] [n + 1, b] [n + 2, c] :=
  ⟨by show n + 3 ≠ n + 5; omega, by show n + 4 ≠ n + 5; omega, by show n + 3 ≠ n + 4; omega,
   by show n + 3 ≠ n; omega, List.mem_cons_self, nin2 (by omega) (by omega), nin2 (by omega) (by omega),
   by show n + 3 ≠ n + 1; omega, List.mem_cons_self, nin2 (by omega) (by omega), nin2 (by omega) (by omega),
   by show n + 3 ≠ n + 2; omega, List.mem_cons_self, nin2 (by omega) (by omega), nin2 (by omega) (by omega),
   nin2 (by omega) (by omega), nin2 (by omega) (by omega), nin2 (by omega) (by omega), nin2 (by omega) (by omega), nin2 (by omega) (by omega), nin2 (by omega) (by omega)⟩
def iZip3 (K : PySem.W.Frag) (te : TE) : TI := fun σ H R => te σ H fun x H1 => ∃ (q a b c : Addr) (xs ys us : List V), x = .ref q ∧ SqL K H1 q [.ref a, .ref b, .ref c] ∧ SqT K H1 a xs ∧ SqT K H1 b ys ∧ SqT K H1 c us ∧ R (It3 K a b c) H1
theorem pia_zipS {X : Cx} {e : Expr} {te : TE} {p p2 pos tpos : Pos} {nm : Str} (hg : Gl X "zip") (hm : X.mg "zip" = none) (he : PE X e te) (hs : starEach [.Starred e p2] X.env = [(true, eval e X.env)] := by rfl) :
    PIA X (.Name nm tpos) (.Call (.Name "zip" p) [.Starred e p2] [] pos) (iZip3 X.K te) := by
  refine ⟨fun pins s σ H R I h => ?_⟩
  refine Call_ (ld_blt I hg hm PyProof.Rows.boot_zip (callWith_tyStar (thn (he.run pins s σ H _ I h) fun v s1 ⟨y, H1, I1, ry, q, a, b, c, xs, ys, us, ey, hq, hx, hy, hu, r⟩ => ?_) hs))
  subst ey
  obtain rfl : v = Value.ref q := ry
  refine StX.star_any I1 (.inr hq) fun ws s2 I2 rv => ?_
  cases rv with
  | cons r1 rr =>
    cases rr with
    | cons r2 rr =>
      cases rr with
      | cons r3 rr =>
        cases rr
        cases r1
        cases r2
        cases r3
        obtain ⟨its, rv, q1⟩ := inv_sq true I2 hx
        obtain ⟨its2, rv2, q2⟩ := inv_sq true I2 hy
        obtain ⟨its3, rv3, q3⟩ := inv_sq true I2 hu
        refine zip_begins3 (begins_sq true a its.toArray) (begins_sq true b its2.toArray) (begins_sq true c its3.toArray) q1 q2 q3 fun h' hz hTI hTO h1 h2 h3 hsz hk => wpAny_pyIter_zip hz ?_
        have I3 : Inv X pins σ H1 { s2 with heap := h' } := I2.kept (t' := s2.toks) hk
        have l1 := isSq_lt true q1
        have l2 := isSq_lt true q2
        have l3 := isSq_lt true q3
        refine ⟨s2.heap.objs.size + 5, [s2.heap.objs.size + 5, s2.heap.objs.size + 3, s2.heap.objs.size + 4, s2.heap.objs.size, s2.heap.objs.size + 1, s2.heap.objs.size + 2], _, _, H1, rfl, I3,
          turn_zip3 (sep3_new l1 l2 l3) (Nat.ne_of_lt l1) (Nat.ne_of_lt (Nat.lt_succ_of_lt l2)) (Nat.ne_of_lt (Nat.lt_succ_of_lt (Nat.lt_succ_of_lt l3))), ⟨by rw [if_pos rfl]; exact hz, hTI, ⟨_, _, _, hTO⟩, isIt_new true h1, isIt_new true h2, isIt_new true h3⟩, fun e he => ?_, r⟩
        have hle : s2.heap.objs.size ≤ e := by
          simp only [List.mem_cons, List.not_mem_nil, or_false] at he
          rcases he with z | z | z | z | z | z <;> rw [z] <;> first | exact Nat.le_add_right _ _ | exact Nat.le_refl _
        exact I2.fpOk hle (I2.hok.fresh hle)
structure WkA (J : It) (B : Hp) (ds : List D) : Prop where
  item : ∀ (i : Nat) (H : Hp) (d : D), Ex B H → ds[i]? = some d → J.go i H ∧ ∀ x H', J.yld i H x H' → ∃ N xs es, x = .ref N ∧ H N = none ∧ H' = upd H N (.tup xs) ∧ RpL B xs es ∧ d = .tup es
  done : ∀ (H : Hp), Ex B H → J.stop ds.length H
def zip3D : List D → List D → List D → List D
  | x :: xs, y :: ys, z :: zs => .tup [x, y, z] :: zip3D xs ys zs
  | _, _, _ => []
theorem zip3_get : ∀ {xs ys zs : List D} {i : Nat} {d : D}, (zip3D xs ys zs)[i]? = some d → ∃ x y z, xs[i]? = some x ∧ ys[i]? = some y ∧ zs[i]? = some z ∧ d = .tup [x, y, z]
  | [], _, _, i, d, h => by cases h
  | _ :: _, [], _, i, d, h => by cases h
  | _ :: _, _ :: _, [], i, d, h => by cases h
  | x :: xs, y :: ys, z :: zs, 0, d, h => by
    cases h
    exact ⟨x, y, z, rfl, rfl, rfl, rfl⟩
  | x :: xs, y :: ys, z :: zs, i + 1, d, h => zip3_get (xs := xs) (ys := ys) (zs := zs) (i := i) (d := d) h
theorem zip3_len : ∀ {xs ys zs : List D}, xs.length = ys.length → xs.length = zs.length → (zip3D xs ys zs).length = xs.length
  | [], _, _, _, _ => rfl
  | _ :: _, [], _, h, _ => by cases h
  | _ :: _, _ :: _, [], _, h => by cases h
  | x :: xs, y :: ys, z :: zs, h1, h2 => congrArg (· + 1) (zip3_len (Nat.succ.inj h1) (Nat.succ.inj h2))
theorem wk_zip3 {K : PySem.W.Frag} {B : Hp} {a b c : Addr} {xs ys us : List V} {ds es fs : List D} (h1 : B a = some (.tup xs)) (r1 : RpL B xs ds) (h2 : B b = some (.tup ys)) (r2 : RpL B ys es) (h3 : B c = some (.tup us)) (r3 : RpL B us fs) (l1 : ds.length = es.length) (l2 : ds.length = fs.length) : WkA (It3 K a b c) B (zip3D ds es fs) := by
  refine ⟨fun i H d e hd => ?_, fun H e => ⟨xs, ys, us, SqT.of (e _ _ h1), SqT.of (e _ _ h2), SqT.of (e _ _ h3), ?_, ?_, ?_⟩⟩
  · obtain ⟨x, y, z, q1, q2, q3, rfl⟩ := zip3_get hd
    obtain ⟨v1, hv1, rv1⟩ := r1.get q1
    obtain ⟨v2, hv2, rv2⟩ := r2.get q2
    obtain ⟨v3, hv3, rv3⟩ := r3.get q3
    refine ⟨⟨xs, ys, us, v1, v2, v3, SqT.of (e _ _ h1), SqT.of (e _ _ h2), SqT.of (e _ _ h3), hv1, hv2, hv3⟩, fun x' H' hy => ?_⟩
    obtain ⟨N, w1, w2, w3, rfl, hN, rfl, f1, f2, f3⟩ := hy
    have g1 := f1 xs (SqT.of (e _ _ h1))
    have g2 := f2 ys (SqT.of (e _ _ h2))
    have g3 := f3 us (SqT.of (e _ _ h3))
    rw [hv1] at g1
    rw [hv2] at g2
    rw [hv3] at g3
    cases g1
    cases g2
    cases g3
    exact ⟨N, _, _, rfl, hN, rfl, .cons rv1 (.cons rv2 (.cons rv3 .nil)), rfl⟩
  · rw [zip3_len l1 l2, r1.length]
  · rw [zip3_len l1 l2, r2.length, l1]
  · rw [zip3_len l1 l2, r3.length, l2]
section
variable {X : Cx} {W : WX} {scope : Scope} {tg it elt e : Expr}
def tAnyIA (X : Cx) (tg it : Expr) : TI := fun σ H R => ∃ t, PIA X tg it t ∧ t σ H R
theorem pia_any : PIA X tg it (tAnyIA X tg it) := ⟨fun pins s σ H R I ⟨_, p, h⟩ => p.run pins s σ H R I h⟩
def SIA (X : Cx) (W : WX) (tg it : Expr) (g : FA) : Prop := ∀ B H ρ σ, Rep B H ρ σ → ∀ R : It → Hp → Prop, (g ρ).wp (fun r => ∀ J B' H', Go B H (Own ρ σ) B' H' (Own r.2 σ) → Rep B' H' r.2 σ → WkA J B' r.1 → R J H') (AskE X W B H (Own ρ σ) σ) → tAnyIA X tg it σ H R
def gZipS (f : FE) : FA := fun ρ => (f ρ).bind fun r => match r.1 with
  | .lst [.tup xs, .tup ys, .tup zs] => if decide (xs.length = ys.length) && decide (xs.length = zs.length) then .ok (zip3D xs ys zs, r.2) else .st
  | _ => .st
theorem sia_zipS {f : FE} {p p2 pos tpos : Pos} {nm : Str} (hg : Gl X "zip") (hm : X.mg "zip" = none) (h : SE X W e f) (hs : starEach [.Starred e p2] X.env = [(true, eval e X.env)] := by rfl) : SIA X W (.Name nm tpos) (.Call (.Name "zip" p) [.Starred e p2] [] pos) (gZipS f) := by
  intro B H ρ σ R RR hw
  refine ⟨_, pia_zipS hg hm pe_any hs, ?_⟩
  unfold gZipS at hw
  rw [wp_bind] at hw
  refine h B H ρ σ R _ (hw.mono (fun r hr B1 H1 v g1 R1 r1 => ?_) fun _ _ z => z)
  obtain ⟨d, ρ1⟩ := r
  dsimp only at hr r1 R1 g1
  split at hr
  · rename_i xs ys zs
    by_cases c : (decide (xs.length = ys.length) && decide (xs.length = zs.length)) = true
    · rw [if_pos c] at hr
      obtain ⟨c1, c2⟩ := Bool.and_eq_true_iff.mp c
      cases r1 with
      | lst hb hs2 =>
        cases hs2 with
        | cons p1 hs2 =>
          cases hs2 with
          | cons p2 hs2 =>
            cases hs2 with
            | cons p3 hs2 =>
              cases hs2
              cases p1 with
              | tup b1 s1 =>
                cases p2 with
                | tup b2 s2 =>
                  cases p3 with
                  | tup b3 s3 =>
                    exact ⟨_, _, _, _, _, _, _, rfl, SqL.of (R1.ex _ _ hb), SqT.of (R1.ex _ _ b1), SqT.of (R1.ex _ _ b2), SqT.of (R1.ex _ _ b3), hr _ B1 H1 g1 R1 (wk_zip3 b1 s1 b2 s2 b3 s3 (of_decide_eq_true c1) (of_decide_eq_true c2))⟩
    · rw [if_neg c] at hr; exact hr.elim
  · exact hr.elim
theorem lcA_read {g : FA} {h : HT'} {f : FE} {vs : List Nat} (hi : SIA X W tg it g) (hg : ∀ (s : Shared) (H : Hp) (C : Addr) (cl : List (Str × Addr)) (fp : List Addr), SG (kpv vs) (X.blk s H scope (compEnvC scope cl C X.env) fp) tg h)
    (he : ∀ (s : Shared) (H : Hp) (C : Addr) (cl : List (Str × Addr)) (fp : List Addr), SE (X.blk s H scope (compEnvC scope cl C X.env) fp) W0 elt f)
    (B H : Hp) (ρ : Env) (σ : L2.St) (R : Rep B H ρ σ) (Q : VK) (hw : (fComp g h tYes2 f vs ρ).wp (AskF B H (Own ρ σ) σ Q) (AskE X W B H (Own ρ σ) σ)) : tLcA (tAnyIA X tg it) (tgA X scope tg) (teA X scope elt) vs σ H Q := by
  unfold fComp at hw
  rw [wp_bind] at hw
  refine hi B H ρ σ R _ (hw.mono (fun r hr J B1 H1 g1 R1 wk => ?_) fun _ _ z => z)
  obtain ⟨ds, ρ1⟩ := r
  dsimp only at hr g1 R1 wk
  intro D hD
  by_cases cz : decide (ds.length ≤ 100000) = true
  · rw [if_pos cz] at hr
    have hz : ds.length ≤ 100000 := of_decide_eq_true cz
    have hr' : (cLoop h tYes2 f vs ds (wipeE ρ1 vs)).wp (fun s => AskF B H (Own ρ σ) σ Q (s.1, wipeE s.2 vs)) (fun _ _ => True) := by
      rw [wp_bind] at hr
      exact hr.mono (fun _ z => z) fun _ _ _ => trivial
    clear hr
    have hD0 : Own ρ σ D ∨ H D = none := g1.back (.inr hD)
    obtain ⟨Rw, ow⟩ := wipe_rep R1 (vs := vs)
    refine ⟨fun i m T H' => ∃ B' ρ' acc es, Go B H (Own ρ σ) B' H' (Own ρ' (wipe σ vs)) ∧ Rep B' H' ρ' (wipe σ vs) ∧ Ex B1 B' ∧ B' D = none ∧ H' D = some (.lst acc) ∧ RpL B' acc es ∧ ¬ Own ρ' (wipe σ vs) D ∧ es.length ≤ i ∧ m = ds.length - i ∧ i ≤ ds.length ∧ (i = 0 ∨ ∃ zs, B' T = some (.tup zs)) ∧
      (cLoop h tYes2 f vs (ds.drop i) ρ').wp (fun s => AskF B H (Own ρ σ) σ Q (es ++ s.1, wipeE s.2 vs)) (fun _ _ => True), ⟨ds.length, B1, wipeE ρ1 vs, [], [], ?_, ?_, Ex.refl B1, R1.ex.none hD, upd_same, .nil, ?_, Nat.le_refl _, rfl, Nat.zero_le _, .inl rfl, hr'⟩, ?_⟩
    · exact (⟨g1.ex, g1.fr, g1.nb, fun a z => g1.ow a (ow a z), g1.th⟩ : Go B H (Own ρ σ) B1 H1 (Own (wipeE ρ1 vs) (wipe σ vs))).updNew hD0
    · exact Rw.updOther (R1.ex.none hD) (Rw.not_own hD)
    · exact Rw.not_own hD
    · rintro i m T H' ⟨B', ρ', acc, es, g', R', e', nD, hDl, rl, oD, hle, rfl, hi', al, hw'⟩
      refine ⟨al.imp id fun ⟨zs, q⟩ => ⟨zs, R'.ex _ _ q⟩, ?_⟩
      by_cases hlt : i < ds.length
      · obtain ⟨go, yl⟩ := wk.item i H' ds[i] (e'.trans R'.ex) (List.getElem?_eq_getElem hlt)
        rw [List.drop_eq_getElem_cons hlt] at hw'
        unfold cLoop at hw'
        cases qh : h ds[i] ρ' with
        | none => rw [qh] at hw'; exact hw'.elim
        | some ρ2 =>
          rw [qh] at hw'
          dsimp only at hw'
          rw [wp_bind] at hw'
          refine .inr ⟨go, fun T3 H3 => ∃ B3 ρ3 acc3 es3, Go B H (Own ρ σ) B3 H3 (Own ρ3 (wipe σ vs)) ∧ Rep B3 H3 ρ3 (wipe σ vs) ∧ Ex B1 B3 ∧ B3 D = none ∧ H3 D = some (.lst acc3) ∧ RpL B3 acc3 es3 ∧ ¬ Own ρ3 (wipe σ vs) D ∧ es3.length ≤ i + 1 ∧ (∃ zs, B3 T3 = some (.tup zs)) ∧
            (cLoop h tYes2 f vs (ds.drop (i + 1)) ρ3).wp (fun s => AskF B H (Own ρ σ) σ Q (es3 ++ s.1, wipeE s.2 vs)) (fun _ _ => True),
            fun T3 H3 ⟨B3, ρ3, acc3, es3, a1, a2, a3, a4, a5, a6, a7, a8, a9, a10⟩ => ⟨ds.length - (i + 1), by omega, B3, ρ3, acc3, es3, a1, a2, a3, a4, a5, a6, a7, a8, rfl, hlt, .inr a9, a10⟩, fun N H2 y => ?_⟩
          obtain ⟨N', zs, ws, eN, hN, rfl, rz, ed⟩ := yl _ H2 y
          cases eN
          have hNB : B' N = none := R'.ex.none hN
          have R2 := R'.new (o := HO.tup zs) hN
          have g2 : Go B' H' (Own ρ' (wipe σ vs)) (upd B' N (.tup zs)) (upd H' N (.tup zs)) (Own ρ' (wipe σ vs)) := Go.new R'.ex hN
          have r2 : Rp (upd B' N (.tup zs)) (.ref N) ds[i] := by rw [ed]; exact .tup upd_same (rz.mono (e'.trans (Ex.new hNB)))
          have al2 : ∃ us, (upd B' N (.tup zs)) (if i = 0 then N else T) = some (.tup us) := by
            by_cases i0 : i = 0
            · rw [if_pos i0]; exact ⟨zs, upd_same⟩
            · rw [if_neg i0]
              obtain ⟨us, q⟩ := al.resolve_left i0
              exact ⟨us, Ex.new hNB _ _ q⟩
          have nD2 := g2.nb D _ hDl nD oD
          have hD2 := g2.fr D _ hDl oD
          intro s0 H00 C0 cl0 fp0
          refine hg s0 H00 C0 cl0 fp0 _ _ ρ' (wipe σ vs) _ ds[i] ρ2 R2 r2 qh _ fun σ2 k2 R3 o2 l2 => ?_
          have ws2 : wipe σ2 vs = wipe σ vs := by
            have := wipe_same (σ := wipe σ vs) (σ' := σ2) (vs := vs) l2 fun j hj => k2 j (by unfold kpv; simp [hj])
            rw [this, wipe_wipe]
          have oD2 : ¬ Own ρ2 σ2 D := fun z => oD (o2 D z)
          have g3 : Go B H (Own ρ σ) (upd B' N (.tup zs)) (upd H' N (.tup zs)) (Own ρ2 σ2) := g'.trans ⟨g2.ex, g2.fr, g2.nb, fun a z => .inl (o2 a z), g2.th⟩
          have hb : ((noEr (f ρ2)).bind fun x => (cLoop h tYes2 f vs (ds.drop (i + 1)) (wipeE x.2 vs)).bind fun r => Out.ok (x.1 :: r.1, r.2)).wp (fun s => AskF B H (Own ρ σ) σ Q (es ++ s.1, wipeE s.2 vs)) (fun _ _ => True) := by
            have z : (noEr (tYes2 ρ2)).wp (fun b => (if b.1 = true then (noEr (f b.2)).bind fun x => (cLoop h tYes2 f vs (ds.drop (i + 1)) (wipeE x.2 vs)).bind fun r => Out.ok (x.1 :: r.1, r.2) else cLoop h tYes2 f vs (ds.drop (i + 1)) (wipeE b.2 vs)).wp (fun s => AskF B H (Own ρ σ) σ Q (es ++ s.1, wipeE s.2 vs)) (fun _ _ => True)) (fun _ _ => True) := hw'
            have z2 : (if (true : Bool) = true then (noEr (f ρ2)).bind fun x => (cLoop h tYes2 f vs (ds.drop (i + 1)) (wipeE x.2 vs)).bind fun r => Out.ok (x.1 :: r.1, r.2) else cLoop h tYes2 f vs (ds.drop (i + 1)) (wipeE ρ2 vs)).wp (fun s => AskF B H (Own ρ σ) σ Q (es ++ s.1, wipeE s.2 vs)) (fun _ _ => True) := z
            rw [if_pos rfl] at z2
            exact z2
          rw [wp_bind] at hb
          refine ⟨ws2, fun s1 H01 C1 cl1 fp1 => ?_⟩
          refine he s1 H01 C1 cl1 fp1 _ _ ρ2 σ2 R3 _ (noEr_wp (hb.mono (fun xx hx B6 H6 v g6 R6 r6 => ?_) fun _ _ _ => trivial))
          obtain ⟨d, ρ6⟩ := xx
          dsimp only at hx g6 R6 r6
          have nD6 : B6 D = none := g6.nb D _ hD2 nD2 oD2
          have hD6 : H6 D = some (.lst acc) := g6.fr D _ hD2 oD2
          have oD6 : ¬ Own ρ6 σ2 D := fun z => by
            rcases g6.ow D z with q | q
            · exact oD2 q
            · rw [hD2] at q; cases q
          obtain ⟨R7, o7⟩ := wipe_rep R6 (vs := vs)
          rw [ws2] at R7 o7
          have g7 : Go B H (Own ρ σ) B6 H6 (Own (wipeE ρ6 vs) (wipe σ vs)) := (g3.trans g6).trans ⟨Ex.refl _, fun _ _ h _ => h, fun _ _ _ h _ => h, fun a z => .inl (o7 a z), fun _ h => h⟩
          have oD7 : ¬ Own (wipeE ρ6 vs) (wipe σ vs) D := fun z => oD6 (o7 D z)
          have rl7 := rl.mono (g2.ex.trans g6.ex)
          obtain ⟨us, q⟩ := al2
          refine ⟨acc, hD6, lt_line (by rw [rl.length]; omega), B6, wipeE ρ6 vs, acc ++ [v], es ++ [d], g7.updNew hD0, R7.updOther nD6 oD7, (e'.trans g2.ex).trans g6.ex, nD6, upd_same, rl7.append (.cons r6 .nil), oD7, by rw [List.length_append]; simp only [List.length_singleton]; omega, ⟨us, g6.ex _ _ q⟩, ?_⟩
          rw [wp_bind] at hx
          refine hx.mono (fun s hs => ?_) fun _ _ z => z
          have e1 : es ++ [d] ++ s.1 = es ++ (d :: s.1) := by simp
          rw [e1]
          exact hs
      · have ei : i = ds.length := by omega
        subst ei
        rw [List.drop_length] at hw'
        refine .inl ⟨wk.done H' (e'.trans R'.ex), ?_⟩
        obtain ⟨R8, o8⟩ := wipe_back R'
        have hw2 : AskF B H (Own ρ σ) σ Q (es ++ [], wipeE ρ' vs) := hw'
        rw [List.append_nil] at hw2
        exact hw2 B' H' D acc (g'.trans ⟨Ex.refl _, fun _ _ h _ => h, fun _ _ _ h _ => h, fun a z => .inl (o8 a z), fun _ h => h⟩) R8 nD hDl rl (fun z => oD (o8 D z)) hD0
  · rw [if_neg cz] at hr; exact hr.elim
theorem sf_lcA {pos : Pos} {g : FA} {h : HT'} {f : FE} {own : List (Str × Nat)} (hc : X.calm = true) (hN : X.N.Nodup) (ok : BlkOk X.N X.env.scope scope own) (hi : SIA X W tg it g)
    (hg : ∀ (s : Shared) (H : Hp) (C : Addr) (cl : List (Str × Addr)) (fp : List Addr), SG (kpv (own.map (·.2))) (X.blk s H scope (compEnvC scope cl C X.env) fp) tg h)
    (he : ∀ (s : Shared) (H : Hp) (C : Addr) (cl : List (Str × Addr)) (fp : List Addr), SE (X.blk s H scope (compEnvC scope cl C X.env) fp) W0 elt f) (hs : ∀ x, foldedSetIterable it X.env x = pure x := by intro _; rfl) :
    SF X W (.ListComp elt [⟨tg, it, [], 0⟩] scope pos) (fComp g h tYes2 f (own.map (·.2))) :=
  fun B H ρ σ R Q hw => ⟨_, pe_lcA hc hN pia_any ok pg_A pe_A hs, lcA_read hi hg he B H ρ σ R Q hw⟩
end
end KV
set_option Elab.async false
set_option linter.all false
set_option autoImplicit false
set_option maxRecDepth 100000
set_option maxHeartbeats 4000000
namespace KV
open PySem PySem.Spec PyProof.Rows L2
variable [KK]
/-! ### def f(a, *b) -/
def shs : List Sl → Option (List D)
  | [] => some []
  | .sh d :: r => (shs r).map (d :: ·)
  | _ => none
theorem shs_eq : ∀ {as : List Sl} {ds : List D}, shs as = some ds → as = ds.map Sl.sh
  | [], _, h => by cases h; rfl
  | .un :: _, _, h => by cases h
  | .ow _ :: _, _, h => by cases h
  | .sh d :: r, ds, h => by
    have h' : (shs r).map (d :: ·) = some ds := h
    cases q : shs r with
    | none => rw [q] at h'; cases h'
    | some es =>
      rw [q] at h'
      cases h'
      rw [shs_eq q]
      rfl
/-- the function on the arguments one by one, of a function on the first and a tuple of the others -/
def starFn (F2 : Fn) : Fn := fun as => match shs as with
  | some (w :: ds) => if decide (ds.length ≤ 1000) then match F2 [.sh w, .sh (.tup ds)] with
      | .ok (.sh d, _) => .ok (.sh d, as)
      | .er e b => .er e b
      | _ => .st
    else .st
  | _ => .st
theorem rep_sh {B H : Hp} (e : Ex B H) {vs : List V} {ds : List D} (r : RpL B vs ds) : Rep B H (ds.map Sl.sh) (vs.map some) := by
  refine ⟨e, by rw [List.length_map, List.length_map, r.length], fun i s h => ?_, fun i j es fs _ h _ => ?_⟩
  · rw [List.getElem?_map] at h
    cases q : ds[i]? with
    | none => rw [q] at h; cases h
    | some d =>
      rw [q] at h
      cases h
      obtain ⟨v, h1, h2⟩ := r.get q
      exact ⟨v, by rw [List.getElem?_map, h1]; rfl, h2⟩
  · rw [List.getElem?_map] at h
    cases q : ds[i]? with
    | none => rw [q] at h; cases h
    | some d => rw [q] at h; cases h
theorem rpL_of_rep {B H : Hp} {ds : List D} {vs : List V} (R : Rep B H (ds.map Sl.sh) (vs.map some)) : RpL B vs ds := by
  have hl : ds.length = vs.length := by have := R.len; rwa [List.length_map, List.length_map] at this
  have h : ∀ (i : Nat) (d : D), ds[i]? = some d → ∃ v, vs[i]? = some v ∧ Rp B v d := fun i d q => by
    obtain ⟨v, e, r⟩ := R.at_ i (.sh d) (by rw [List.getElem?_map, q]; rfl)
    rw [List.getElem?_map] at e
    cases qv : vs[i]? with
    | none => rw [qv] at e; cases e
    | some u =>
      rw [qv] at e
      cases e
      exact ⟨_, rfl, r⟩
  clear R
  induction ds generalizing vs with
  | nil =>
    cases vs with
    | nil => exact .nil
    | cons _ _ => cases hl
  | cons d ds ih =>
    cases vs with
    | nil => cases hl
    | cons v vs =>
      obtain ⟨u, e, r⟩ := h 0 d rfl
      have ev : v = u := Option.some.inj e
      rw [ev]
      exact .cons r (ih (Nat.succ.inj hl) fun i d' q => h (i + 1) d' q)
theorem own_sh {ds : List D} {σ : L2.St} {a : Addr} (h : Own (ds.map Sl.sh) σ a) : False := by
  obtain ⟨i, es, h1, _⟩ := h
  rw [List.getElem?_map] at h1
  cases q : ds[i]? with
  | none => rw [q] at h1; cases h1
  | some d => rw [q] at h1; cases h1
theorem star_sp {mg : Str → Option Value} {F2 : Fn} {n : Nat} {vs : List V} {H : Hp} {Q : VK} {E : XK} (h : SpF mg (starFn F2) n vs H Q E) :
    ∃ ws rest, vs = ws ++ rest ∧ ws.length = 1 ∧ rest.length ≤ sizeLine ∧ ∀ p, H p = none → SpF mg F2 2 (ws ++ [V.ref p]) (upd H p (.tup rest)) Q E := by
  obtain ⟨hl, B, as, R, hw⟩ := h
  unfold starFn at hw
  cases q : shs as with
  | none => rw [q] at hw; exact hw.elim
  | some ds0 =>
    rw [q] at hw
    cases ds0 with
    | nil => exact hw.elim
    | cons w ds =>
      have ea := shs_eq q
      subst ea
      have rl := rpL_of_rep R
      cases rl with
      | @cons v vr _ _ r1 rr =>
        replace hw : (if decide (ds.length ≤ 1000) then match F2 [.sh w, .sh (.tup ds)] with
          | .ok (.sh d, _) => Out.ok (Sl.sh d, (w :: ds).map Sl.sh)
          | .er e b => .er e b
          | _ => .st
        else .st).wp _ _ := hw
        by_cases c : decide (ds.length ≤ 1000) = true
        · rw [if_pos c] at hw
          have c' := of_decide_eq_true c
          refine ⟨[v], vr, rfl, rfl, Nat.le_trans (by rw [rr.length]; exact c') (by decide), fun p hp => ?_⟩
          have hnB : B p = none := R.ex.none hp
          have R2 : Rep (upd B p (.tup vr)) (upd H p (.tup vr)) ([w, .tup ds].map Sl.sh) ([v, V.ref p].map some) := rep_sh R.ex.upd2 (.cons (r1.mono (Ex.new hnB)) (.cons (.tup upd_same (rr.mono (Ex.new hnB))) .nil))
          refine ⟨rfl, upd B p (.tup vr), [.sh w, .sh (.tup ds)], R2, ?_⟩
          have back : ∀ {B' H' : Hp} {o' : Addr → Prop}, Go (upd B p (.tup vr)) (upd H p (.tup vr)) (Own ([w, .tup ds].map Sl.sh) ([v, V.ref p].map some)) B' H' o' → Go B H (Own ((w :: ds).map Sl.sh) ((v :: vr).map some)) B' H' (fun _ => False) := fun {B' H' o'} g =>
            (Go.new (o := Own ((w :: ds).map Sl.sh) ((v :: vr).map some)) R.ex hp).trans ⟨g.ex, fun a u e z => g.fr a u e fun y => (own_sh y).elim, fun a u e hb z => g.nb a u e hb fun y => (own_sh y).elim, fun a z => z.elim, g.th⟩
          cases qF : F2 [.sh w, .sh (.tup ds)] with
          | st => rw [qF] at hw; exact hw.elim
          | er e b =>
            rw [qF] at hw
            exact fun B' H' cls dd g ex er => hw B' H' cls dd (back g) ex er
          | ok r =>
            obtain ⟨rs, bs⟩ := r
            rw [qF] at hw
            cases rs with
            | un => exact hw.elim
            | ow es => exact hw.elim
            | sh d =>
              intro B' H' u g R' ret
              have g2 := back g
              exact hw B' H' u ⟨g2.ex, g2.fr, g2.nb, fun a z => (own_sh z).elim, g2.th⟩ (rep_sh R'.ex (.cons (r1.mono g2.ex) (rr.mono g2.ex))) ret
        · rw [if_neg c] at hw; exact hw.elim
structure StarOk (P : Program) (w : World) (K : PySem.W.Frag) (mg : Str → Option Value) (base : Heap) (x : Str) (k : Nat) (F2 : Fn) : Prop where
  ex : ∃ f : Addr, mg x = some (.ref f) ∧ FnR P w K mg base (L2.CX P w) k f (fun vs H Q E => ∃ ws rest, vs = ws ++ rest ∧ ws.length = 1 ∧ rest.length ≤ sizeLine ∧ ∀ p, H p = none → SpF mg F2 2 (ws ++ [V.ref p]) (upd H p (.tup rest)) Q E) ∧ PySem.W.keepIn K (.ref f) = true
section
variable {X : Cx} {W : WX} {e : Expr} {es : List Expr} {fr : FAr}
theorem pe_callRS {CX : CXT} {k : Nat} {f : Addr} {sp : Sp} {E : L2.St → XK} {x : Str} {p pos : Pos} {t : TA} (F : FnR X.prog X.w X.K X.mg X.base CX k f sp) (hr : Room k X.A) (hg : Gl X x) (hm : X.mg x = some (.ref f)) (hk : PySem.W.keepIn X.K (.ref f) = true) (hx : ∀ σ, PassesAt CX X σ (E σ))
    (ha : PA X (e :: es) t) (hdb : (x == ("__debug__" : Str)) = false := by decide) (he : starEach (e :: es) X.env = (false, eval e X.env) :: starEach es X.env := by rfl) (hpl : (backTo pos (starEach es X.env)).any (·.1) = false := by rfl) :
    PE X (.Call (.Name x p) (e :: es) [] pos) (tCallS sp E t) := by
  refine ⟨fun pins s σ H Q I h => ?_⟩
  refine wpAny_Call_Name_kw (ld_glob I hg hm ?_ hdb)
  refine PySem.W.callWith_K (h₀ := X.base) I.ok.mod.kin hk (thn (ha.run pos pins s σ H _ I h) fun us s1 ⟨vs, H1, I1, r, q⟩ => ⟨I1.kIn, ?_⟩) he hpl
  refine wpAny_call (codeAny_mono (F X.A X.stack s1 H1 us vs Q (E σ) hr I1.env0 r q) fun r s' hq => ?_)
  cases r with
  | error ev => exact hx σ pins H1 s1 ev s' I1 hq
  | ok fl =>
    cases fl with
    | ret u => exact I1.after hq
    | next => exact False.elim hq
    | brk => exact False.elim hq
    | cont => exact False.elim hq
theorem sc_star {x : Str} {p pos : Pos} {k n : Nat} {F2 : Fn} (D : StarOk X.prog X.w X.K X.mg X.base x k F2) (tk : Takes X W) (hr : Room k X.A) (hg : Gl X x) (ha : SAr X W (e :: es) fr)
    (hdb : (x == ("__debug__" : Str)) = false := by decide) (he : starEach (e :: es) X.env = (false, eval e X.env) :: starEach es X.env := by rfl) (hpl : (backTo pos (starEach es X.env)).any (·.1) = false := by rfl) :
    SC X W (.Call (.Name x p) (e :: es) [] pos) (cCall (starFn F2) n fr) := by
  obtain ⟨f, h1, h2, h3⟩ := D.ex
  exact sc_call tk (fun E t hE pa => pe_callRS (h2.imp fun vs H Q E h => star_sp (n := n) h) hr hg h1 h3 hE pa hdb he hpl) ha
theorem star_ok {P : Program} {w : World} {K : PySem.W.Frag} {mg : Str → Option Value} {base : Heap} {x qual p0 pv : Str} {params : Arguments} {body : List Stmt} {scope : Scope} {f : Addr} {fd : FuncData} {N : List Str} {k : Nat} {kp : Nat → Bool} {g : FS}
    (F : FunD K x qual params body scope [] [] f fd) (S : FnScope N ([p0] ++ [pv]) scope) (hn : 2 ≤ N.length) (hm : mg x = some (.ref f))
    (hbd : ∀ (kV doc pm : Value) (an : Option Addr) (cdv ct : Value) (us rest : List Value), us.length = [p0].length → bindArgs (PySem.W.fnOf x qual params body scope .none kV doc pm an cdv ct) ⟨us ++ rest, []⟩ = (newTuple rest >>= fun t => pure ([p0].zip us ++ [(pv, t)])))
    (hb : ∀ (cdv : Value) (A : Around) (outer : List PySem.Env) (s : Shared) (H : Hp) (E : XK), Room k (A.deeper (envOfC qual scope s.heap.objs.size f cdv)) → SSs kp (cxOf (L2.CX P w) P w K mg base N qual scope f cdv A outer s H E) (WD E) body g) :
    StarOk P w K mg base x (k + 1) (fnOf N.length 2 kp g) := by
  obtain ⟨oc, od, dV, kV, doc, pm, an, cdv, ct, osl, rfl, lk, hcd, hD, _⟩ := F.ex
  have eD : dV = .none := by
    rcases hD with ⟨_, e⟩ | ⟨e, _⟩
    · exact e
    · exact absurd rfl e
  subst eD
  refine ⟨f, hm, StX.fn_star (ps := [p0]) (pv := pv) lk hcd S StX.cxUp (hbd kV doc pm an cdv ct) fun A outer s H vs Q E hr h => ?_, F.kp⟩
  exact body_ok (X := cxOf (L2.CX P w) P w K mg base N qual scope f cdv A outer s H E) hn (hb cdv A outer s H E hr) h
end
end KV
set_option Elab.async false
set_option linter.all false
set_option autoImplicit false
set_option maxRecDepth 100000
set_option maxHeartbeats 4000000
namespace KV
open PySem PySem.Spec PyProof.Rows L2
variable [KK]
abbrev FnP (K : PySem.W.Frag) (x : Str) (st : Stmt) (f : Addr) (fd : FuncData) : Prop := FunD K x x (defArgs st) (defBody st) (defScope st) [] [] f fd
section
variable {P : Program} {w : World} {mg : Str → Option Value} {base : Heap}
/-! is_int -/
def b_is_int : FS := sSeq (sRet (eAndV (eCB dIsi (aCons (eVar 0) (aCons (eC (.ty "int")) (aNil)))) (eNotV (eCB dIsi (aCons (eVar 0) (aCons (eC (.ty "bool")) (aNil)))))))
      (sNil)
def F_is_int : Fn := fnOf 1 1 (fun _ => false) b_is_int
theorem sc_is_int : FnScope ["value"] ["value"] (defScope st_is_int) := ⟨rfl, rfl, rfl, by decide +kernel, rfl, by decide +kernel, by decide +kernel⟩
theorem ok_is_int (b : Blt mg) {f : Addr} {fd : FuncData} (F : FnP KK.K "is_int" st_is_int f fd) (gF : mg "is_int" = some (.ref f)) : DefOk P w KK.K mg base "is_int" 1 1 F_is_int := by
  have S := sc_is_int
  refine ⟨f, fd, ["value"], gF, def_ok (N := ["value"]) (kp := (fun _ => false)) (g := b_is_int) F S (by decide) (fun cdv A outer s H E hr => ?_), F.kp, F.bindsN fun _ _ _ _ _ _ us hl => match us, hl with | [_], _ => rfl⟩
  exact ss_cons (ss_ret (se_and (se_cb caD_isi (fun ta h => pe_callB call_isi2 rfl b.isinstance boot_isinstance h) (sa_cons (se_var (pv 0)) (sa_cons (se_ty rfl b.int boot_int) (sa_nil)))) (se_one (se_not (se_cb caD_isi (fun ta h => pe_callB call_isi2 rfl b.isinstance boot_isinstance h) (sa_cons (se_var (pv 0)) (sa_cons (se_ty rfl b.bool boot_bool) (sa_nil))))))))
      (ss_nil)

/-! is_row -/
def b_is_row : FS := sSeq (sRet (eCB dIsi (aCons (eVar 0) (aCons (eTup (aCons (eC (.ty "list")) (aCons (eC (.ty "tuple")) (aNil)))) (aNil)))))
      (sNil)
def F_is_row : Fn := fnOf 1 1 (fun _ => false) b_is_row
theorem sc_is_row : FnScope ["value"] ["value"] (defScope st_is_row) := ⟨rfl, rfl, rfl, by decide +kernel, rfl, by decide +kernel, by decide +kernel⟩
theorem ok_is_row (b : Blt mg) {f : Addr} {fd : FuncData} (F : FnP KK.K "is_row" st_is_row f fd) (gF : mg "is_row" = some (.ref f)) : DefOk P w KK.K mg base "is_row" 1 1 F_is_row := by
  have S := sc_is_row
  refine ⟨f, fd, ["value"], gF, def_ok (N := ["value"]) (kp := (fun _ => false)) (g := b_is_row) F S (by decide) (fun cdv A outer s H E hr => ?_), F.kp, F.bindsN fun _ _ _ _ _ _ us hl => match us, hl with | [_], _ => rfl⟩
  exact ss_cons (ss_ret (se_cb caD_isi (fun ta h => pe_callB call_isi2 rfl b.isinstance boot_isinstance h) (sa_cons (se_var (pv 0)) (sa_cons (se_tup (sa_cons (se_ty rfl b.list boot_list) (sa_cons (se_ty rfl b.tuple boot_tuple) (sa_nil)))) (sa_nil)))))
      (ss_nil)

/-! check_int -/
def b_check_int : FS := sSeq (sIf (tOr2 (tNot2 (tVal (eVal (cCall F_is_int 1 (arV (eVar 0) (arNil)))))) (tVal (eBin dLt (eVar 0) (eVar 2)))) (sSeq (sRaise "BadNumber" ["name"] (aCons (eVar 1) (aNil)))
      (sNil)) (sNil))
      (sSeq (sRetVar 0)
      (sNil))
def F_check_int : Fn := fnOf 3 3 (fun _ => false) b_check_int
theorem sc_check_int : FnScope ["value", "name", "low"] ["value", "name", "low"] (defScope st_check_int) := ⟨rfl, rfl, rfl, by decide +kernel, rfl, by decide +kernel, by decide +kernel⟩
theorem ok_check_int (d_is_int : DefOk P w KK.K mg base "is_int" 1 1 F_is_int) {C_BadNumber f_BadNumber : Addr} {fd_BadNumber : FuncData} (e_BadNumber : ErC P w KK.K mg base "BadNumber" 1 (fun C => SpI1 C "name") C_BadNumber f_BadNumber fd_BadNumber ["self", "name"]) (b : Blt mg) {f : Addr} {fd : FuncData} (F : FnP KK.K "check_int" st_check_int f fd) (gF : mg "check_int" = some (.ref f)) : DefOk P w KK.K mg base "check_int" 3 3 F_check_int := by
  have S := sc_check_int
  refine ⟨f, fd, ["value", "name", "low"], gF, def_ok (N := ["value", "name", "low"]) (kp := (fun _ => false)) (g := b_check_int) F S (by decide) (fun cdv A outer s H E hr => ?_), F.kp, F.bindsN fun _ _ _ _ _ _ us hl => match us, hl with | [_, _, _], _ => rfl⟩
  have tk : Takes (cxOf (L2.CX P w) P w KK.K mg base ["value", "name", "low"] "check_int" (defScope st_check_int) f cdv A outer s H E) (WD E) := takes_of rfl rfl rfl rfl
  exact ss_cons (ss_if (sb_w (sw_or (sb_not (sb_val (se_val (sc_own d_is_int tk (hr.mono (by decide)) rfl (sar_v (se_var (pv 0)) (sar_nil)))))) (sw_or1 (sb_cmp op_lt opD_lt (se_var (pv 0)) (se_var (pv 2)) (nomark _))))) (ss_cons (ss_raise1 rfl tk e_BadNumber (hr.mono (by decide)) rfl (sa_cons (se_var (pv 1)) (sa_nil)))
      (ss_nil)) (ss_nil))
      (ss_cons (ss_retVar (pv 0))
      (ss_nil))

/-! check_between -/
def b_check_between : FS := sSeq (sIf (tOr2 (tNot2 (tVal (eVal (cCall F_is_int 1 (arV (eVar 0) (arNil)))))) (tNot2 (tChainF dLe dLe (eVar 2) (eVar 0) (eVar 3)))) (sSeq (sRaise "BadNumber" ["name"] (aCons (eVar 1) (aNil)))
      (sNil)) (sNil))
      (sSeq (sRetVar 0)
      (sNil))
def F_check_between : Fn := fnOf 4 4 (fun _ => false) b_check_between
theorem sc_check_between : FnScope ["value", "name", "low", "high"] ["value", "name", "low", "high"] (defScope st_check_between) := ⟨rfl, rfl, rfl, by decide +kernel, rfl, by decide +kernel, by decide +kernel⟩
theorem ok_check_between (d_is_int : DefOk P w KK.K mg base "is_int" 1 1 F_is_int) {C_BadNumber f_BadNumber : Addr} {fd_BadNumber : FuncData} (e_BadNumber : ErC P w KK.K mg base "BadNumber" 1 (fun C => SpI1 C "name") C_BadNumber f_BadNumber fd_BadNumber ["self", "name"]) (b : Blt mg) {f : Addr} {fd : FuncData} (F : FnP KK.K "check_between" st_check_between f fd) (gF : mg "check_between" = some (.ref f)) : DefOk P w KK.K mg base "check_between" 3 4 F_check_between := by
  have S := sc_check_between
  refine ⟨f, fd, ["value", "name", "low", "high"], gF, def_ok (N := ["value", "name", "low", "high"]) (kp := (fun _ => false)) (g := b_check_between) F S (by decide) (fun cdv A outer s H E hr => ?_), F.kp, F.bindsN fun _ _ _ _ _ _ us hl => match us, hl with | [_, _, _, _], _ => rfl⟩
  have tk : Takes (cxOf (L2.CX P w) P w KK.K mg base ["value", "name", "low", "high"] "check_between" (defScope st_check_between) f cdv A outer s H E) (WD E) := takes_of rfl rfl rfl rfl
  exact ss_cons (ss_if (sb_w (sw_or (sb_not (sb_val (se_val (sc_own d_is_int tk (hr.mono (by decide)) rfl (sar_v (se_var (pv 0)) (sar_nil)))))) (sw_or1 (sb_not (sb_chain op_le op_le opD_le opD_le (se_var (pv 2)) (se_var (pv 0)) (se_var (pv 3))))))) (ss_cons (ss_raise1 rfl tk e_BadNumber (hr.mono (by decide)) rfl (sa_cons (se_var (pv 1)) (sa_nil)))
      (ss_nil)) (ss_nil))
      (ss_cons (ss_retVar (pv 0))
      (ss_nil))

/-! common_divisor -/
def b_common_divisor : FS := sSeq (sSet 1 (eC (.int 0)))
      (sSeq (sFor (gSeq (eVar 0)) (hName 2) (sSeq (sSet 1 (eCB dGcd (aCons (eVar 1) (aCons (eVar 2) (aNil)))))
      (sNil)))
      (sSeq (sRetVar 1)
      (sNil)))
def F_common_divisor : Fn := fnOf 3 1 (fun _ => false) b_common_divisor
theorem sc_common_divisor : FnScope ["row", "found", "entry"] ["row"] (defScope st_common_divisor) := ⟨rfl, rfl, rfl, by decide +kernel, rfl, by decide +kernel, by decide +kernel⟩
theorem ok_common_divisor (b : Blt mg) {f : Addr} {fd : FuncData} (F : FnP KK.K "common_divisor" st_common_divisor f fd) (gF : mg "common_divisor" = some (.ref f)) : DefOk P w KK.K mg base "common_divisor" 1 1 F_common_divisor := by
  have S := sc_common_divisor
  refine ⟨f, fd, ["row"], gF, def_ok (N := ["row", "found", "entry"]) (kp := (fun _ => false)) (g := b_common_divisor) F S (by decide) (fun cdv A outer s H E hr => ?_), F.kp, F.bindsN fun _ _ _ _ _ _ us hl => match us, hl with | [_], _ => rfl⟩
  exact ss_cons (ss_set (fun te h => ps_set (i := 1) S.nd rfl (by first | exact .inl rfl | exact .inr rfl) h) (se_int) rfl)
      (ss_cons (ss_for (passes_of rfl) rfl (si_seq (se_var (pv 0))) (sg_name (pg_name S.nd rfl (by first | exact .inl rfl | exact .inr rfl)) rfl) (ss_cons (ss_set (fun te h => ps_set (i := 1) S.nd rfl (by first | exact .inl rfl | exact .inr rfl) h) (se_cb caD_gcd (fun ta h => pe_callBfun cr_gcd rfl b.gcd h) (sa_cons (se_var (pv 1)) (sa_cons (se_var (pv 2)) (sa_nil)))) rfl)
      (ss_nil)))
      (ss_cons (ss_retVar (pv 1))
      (ss_nil)))

/-! shortened -/
def b_shortened : FS := sSeq (sSet 1 (eVal (cCall F_common_divisor 1 (arV (eVar 0) (arNil)))))
      (sSeq (sIf (tVal (eBin dLt (eVar 1) (eC (.int 2)))) (sSeq (sRet (eCB dTuple (aCons (eVar 0) (aNil))))
      (sNil)) (sNil))
      (sSeq (sRet (eCB dTuple (aCons (eFrz (fComp (gSeq (eVar 0)) (hName 2) (tYes2) (eBin dFdiv (eVar 2) (eVar 1)) [2])) (aNil))))
      (sNil)))
def F_shortened : Fn := fnOf 3 1 (fun _ => false) b_shortened
theorem sc_shortened : FnScope ["row", "divisor", "entry"] ["row"] (defScope st_shortened) := ⟨rfl, rfl, rfl, by decide +kernel, rfl, by decide +kernel, by decide +kernel⟩
theorem ok_shortened (d_common_divisor : DefOk P w KK.K mg base "common_divisor" 1 1 F_common_divisor) (b : Blt mg) {f : Addr} {fd : FuncData} (F : FnP KK.K "shortened" st_shortened f fd) (gF : mg "shortened" = some (.ref f)) : DefOk P w KK.K mg base "shortened" 2 1 F_shortened := by
  have S := sc_shortened
  refine ⟨f, fd, ["row"], gF, def_ok (N := ["row", "divisor", "entry"]) (kp := (fun _ => false)) (g := b_shortened) F S (by decide) (fun cdv A outer s H E hr => ?_), F.kp, F.bindsN fun _ _ _ _ _ _ us hl => match us, hl with | [_], _ => rfl⟩
  have tk : Takes (cxOf (L2.CX P w) P w KK.K mg base ["row", "divisor", "entry"] "shortened" (defScope st_shortened) f cdv A outer s H E) (WD E) := takes_of rfl rfl rfl rfl
  exact ss_cons (ss_set (fun te h => ps_set (i := 1) S.nd rfl (by first | exact .inl rfl | exact .inr rfl) h) (se_val (sc_own d_common_divisor tk (hr.mono (by decide)) rfl (sar_v (se_var (pv 0)) (sar_nil)))) rfl)
      (ss_cons (ss_if (sb_cmp op_lt opD_lt (se_var (pv 1)) (se_int) (nomark _)) (ss_cons (ss_ret (se_cb caD_tuple (fun ta h => pe_callTy call_tuple_of rfl b.tuple boot_tuple h) (sa_cons (se_var (pv 0)) (sa_nil))))
      (ss_nil)) (ss_nil))
      (ss_cons (ss_ret (se_cb caD_tuple (fun ta h => pe_callTy call_tuple_of rfl b.tuple boot_tuple h) (sa_cons (se_frz (sf_lc rfl S.nd (blkOk_by (own := [("entry", 2)]) (by kernel_rfl)) (si_seq (se_var (pv 0))) (fun s H C cl fp => sg_name (pg_name S.nd rfl (by first | exact .inl rfl | exact .inr rfl)) rfl) (fun s H C cl fp => pts_nil) tt_yes (fun s H C cl fp => se_op op_fdivZ opD_fdiv (se_var (pv 2)) (se_var (pv 1))))) (sa_nil))))
      (ss_nil)))

/-! weights_of -/
def b_weights_of : FS := sSeq (sIf (tOr2 (tNot2 (tVal (eVal (cCall F_is_row 1 (arV (eVar 0) (arNil)))))) (tOr2 (tNot2 (tTru (eVar 0))) (tVal (eBin dNe (eCV dLen 0) (eVar 1))))) (sSeq (sRaise "BadWeights" ["place"] (aCons (eUn dNeg (eC (.int 1))) (aNil)))
      (sNil)) (sNil))
      (sSeq (sFor (gEnum (aCons (eVar 0) (aNil))) (hTup [3, 4]) (sSeq (sIf (tOr2 (tNot2 (tVal (eVal (cCall F_is_int 1 (arV (eVar 4) (arNil)))))) (tVal (eBin dLt (eVar 4) (eVar 2)))) (sSeq (sRaise "BadWeights" ["place"] (aCons (eVar 3) (aNil)))
      (sNil)) (sNil))
      (sNil)))
      (sSeq (sRet (eCB dTuple (aCons (eVar 0) (aNil))))
      (sNil)))
def F_weights_of : Fn := fnOf 5 3 (fun _ => false) b_weights_of
theorem sc_weights_of : FnScope ["row", "many", "low", "place", "entry"] ["row", "many", "low"] (defScope st_weights_of) := ⟨rfl, rfl, rfl, by decide +kernel, rfl, by decide +kernel, by decide +kernel⟩
theorem ok_weights_of (d_is_int : DefOk P w KK.K mg base "is_int" 1 1 F_is_int) (d_is_row : DefOk P w KK.K mg base "is_row" 1 1 F_is_row) {C_BadWeights f_BadWeights : Addr} {fd_BadWeights : FuncData} (e_BadWeights : ErC P w KK.K mg base "BadWeights" 1 (fun C => SpI1 C "place") C_BadWeights f_BadWeights fd_BadWeights ["self", "place"]) (b : Blt mg) {f : Addr} {fd : FuncData} (F : FnP KK.K "weights_of" st_weights_of f fd) (gF : mg "weights_of" = some (.ref f)) : DefOk P w KK.K mg base "weights_of" 3 3 F_weights_of := by
  have S := sc_weights_of
  refine ⟨f, fd, ["row", "many", "low"], gF, def_ok (N := ["row", "many", "low", "place", "entry"]) (kp := (fun _ => false)) (g := b_weights_of) F S (by decide) (fun cdv A outer s H E hr => ?_), F.kp, F.bindsN fun _ _ _ _ _ _ us hl => match us, hl with | [_, _, _], _ => rfl⟩
  have tk : Takes (cxOf (L2.CX P w) P w KK.K mg base ["row", "many", "low", "place", "entry"] "weights_of" (defScope st_weights_of) f cdv A outer s H E) (WD E) := takes_of rfl rfl rfl rfl
  exact ss_cons (ss_if (sb_w (sw_or (sb_not (sb_val (se_val (sc_own d_is_row tk (hr.mono (by decide)) rfl (sar_v (se_var (pv 0)) (sar_nil)))))) (sw_or (sb_not (sb_tru (se_var (pv 0)))) (sw_or1 (sb_cmp (op_neD hr.units) opD_ne (se_cv caD_len caV_len (fun ta h => pe_callB call_len_seq rfl b.len boot_len h) (pv 0)) (se_var (pv 1)) (nomark _)))))) (ss_cons (ss_raise1 rfl tk e_BadWeights (hr.mono (by decide)) rfl (sa_cons (se_un un_neg unD_neg (se_int)) (sa_nil)))
      (ss_nil)) (ss_nil))
      (ss_cons (ss_for (passes_of rfl) rfl (si_enum rfl b.enumerate (sa_cons (se_var (pv 0)) (sa_nil))) (sg_tup (is := [3, 4]) (pg_tup rfl (pgs_cons (pg_name S.nd rfl (by first | exact .inl rfl | exact .inr rfl)) (pgs_cons (pg_name S.nd rfl (by first | exact .inl rfl | exact .inr rfl)) (pgs_nil)))) (by decide)) (ss_cons (ss_if (sb_w (sw_or (sb_not (sb_val (se_val (sc_own d_is_int tk (hr.mono (by decide)) rfl (sar_v (se_var (pv 4)) (sar_nil)))))) (sw_or1 (sb_cmp op_lt opD_lt (se_var (pv 4)) (se_var (pv 2)) (nomark _))))) (ss_cons (ss_raise1 rfl tk e_BadWeights (hr.mono (by decide)) rfl (sa_cons (se_var (pv 3)) (sa_nil)))
      (ss_nil)) (ss_nil))
      (ss_nil)))
      (ss_cons (ss_ret (se_cb caD_tuple (fun ta h => pe_callTy call_tuple_of rfl b.tuple boot_tuple h) (sa_cons (se_var (pv 0)) (sa_nil))))
      (ss_nil)))

/-! wrong_place -/
def b_wrong_place : FS := sSeq (sIf (tOr2 (tNot2 (tVal (eVal (cCall F_is_row 1 (arV (eVar 0) (arNil)))))) (tNot2 (tTru (eVar 0)))) (sSeq (sRet (eUn dNeg (eC (.int 1))))
      (sNil)) (sNil))
      (sSeq (sFor (gEnum (aCons (eVar 0) (aNil))) (hTup [1, 2]) (sSeq (sIf (tOr2 (tNot2 (tVal (eVal (cCall F_is_int 1 (arV (eVar 2) (arNil)))))) (tVal (eBin dLt (eVar 2) (eC (.int 0))))) (sSeq (sRetVar 1)
      (sNil)) (sNil))
      (sNil)))
      (sSeq (sIf (tVal (eBin dEq (eCB dMax (aCons (eVar 0) (aNil))) (eC (.int 0)))) (sSeq (sRet (eUn dNeg (eC (.int 1))))
      (sNil)) (sNil))
      (sSeq (sRet (eC .non))
      (sNil))))
def F_wrong_place : Fn := fnOf 3 1 (fun _ => false) b_wrong_place
theorem sc_wrong_place : FnScope ["row", "place", "entry"] ["row"] (defScope st_wrong_place) := ⟨rfl, rfl, rfl, by decide +kernel, rfl, by decide +kernel, by decide +kernel⟩
theorem ok_wrong_place (d_is_int : DefOk P w KK.K mg base "is_int" 1 1 F_is_int) (d_is_row : DefOk P w KK.K mg base "is_row" 1 1 F_is_row) (b : Blt mg) {f : Addr} {fd : FuncData} (F : FnP KK.K "wrong_place" st_wrong_place f fd) (gF : mg "wrong_place" = some (.ref f)) : DefOk P w KK.K mg base "wrong_place" 2 1 F_wrong_place := by
  have S := sc_wrong_place
  refine ⟨f, fd, ["row"], gF, def_ok (N := ["row", "place", "entry"]) (kp := (fun _ => false)) (g := b_wrong_place) F S (by decide) (fun cdv A outer s H E hr => ?_), F.kp, F.bindsN fun _ _ _ _ _ _ us hl => match us, hl with | [_], _ => rfl⟩
  have tk : Takes (cxOf (L2.CX P w) P w KK.K mg base ["row", "place", "entry"] "wrong_place" (defScope st_wrong_place) f cdv A outer s H E) (WD E) := takes_of rfl rfl rfl rfl
  exact ss_cons (ss_if (sb_w (sw_or (sb_not (sb_val (se_val (sc_own d_is_row tk (hr.mono (by decide)) rfl (sar_v (se_var (pv 0)) (sar_nil)))))) (sw_or1 (sb_not (sb_tru (se_var (pv 0))))))) (ss_cons (ss_ret (se_un un_neg unD_neg (se_int)))
      (ss_nil)) (ss_nil))
      (ss_cons (ss_for (passes_of rfl) rfl (si_enum rfl b.enumerate (sa_cons (se_var (pv 0)) (sa_nil))) (sg_tup (is := [1, 2]) (pg_tup rfl (pgs_cons (pg_name S.nd rfl (by first | exact .inl rfl | exact .inr rfl)) (pgs_cons (pg_name S.nd rfl (by first | exact .inl rfl | exact .inr rfl)) (pgs_nil)))) (by decide)) (ss_cons (ss_if (sb_w (sw_or (sb_not (sb_val (se_val (sc_own d_is_int tk (hr.mono (by decide)) rfl (sar_v (se_var (pv 2)) (sar_nil)))))) (sw_or1 (sb_cmp op_lt opD_lt (se_var (pv 2)) (se_int) (nomark _))))) (ss_cons (ss_retVar (pv 1))
      (ss_nil)) (ss_nil))
      (ss_nil)))
      (ss_cons (ss_if (sb_cmp (op_eqD hr.units) opD_eq (se_cb caD_max (fun ta h => pe_callB (call_max3 rfl) rfl b.max boot_max h) (sa_cons (se_var (pv 0)) (sa_nil))) (se_int) (nomark _)) (ss_cons (ss_ret (se_un un_neg unD_neg (se_int)))
      (ss_nil)) (ss_nil))
      (ss_cons (ss_ret (se_non))
      (ss_nil))))

/-! die_of -/
def b_die_of : FS := sSeq (sSet 1 (eVal (cCall F_wrong_place 1 (arV (eVar 0) (arNil)))))
      (sSeq (sIf (tVal (eBin dNotN (eVar 1) (eC .non))) (sSeq (sRaise "BadDie" ["place"] (aCons (eVar 1) (aNil)))
      (sNil)) (sNil))
      (sSeq (sRet (eCB dTuple (aCons (eVar 0) (aNil))))
      (sNil)))
def F_die_of : Fn := fnOf 2 1 (fun _ => false) b_die_of
theorem sc_die_of : FnScope ["row", "place"] ["row"] (defScope st_die_of) := ⟨rfl, rfl, rfl, by decide +kernel, rfl, by decide +kernel, by decide +kernel⟩
theorem ok_die_of (d_wrong_place : DefOk P w KK.K mg base "wrong_place" 2 1 F_wrong_place) {C_BadDie f_BadDie : Addr} {fd_BadDie : FuncData} (e_BadDie : ErC P w KK.K mg base "BadDie" 1 (fun C => SpI1 C "place") C_BadDie f_BadDie fd_BadDie ["self", "place"]) (b : Blt mg) {f : Addr} {fd : FuncData} (F : FnP KK.K "die_of" st_die_of f fd) (gF : mg "die_of" = some (.ref f)) : DefOk P w KK.K mg base "die_of" 3 1 F_die_of := by
  have S := sc_die_of
  refine ⟨f, fd, ["row"], gF, def_ok (N := ["row", "place"]) (kp := (fun _ => false)) (g := b_die_of) F S (by decide) (fun cdv A outer s H E hr => ?_), F.kp, F.bindsN fun _ _ _ _ _ _ us hl => match us, hl with | [_], _ => rfl⟩
  have tk : Takes (cxOf (L2.CX P w) P w KK.K mg base ["row", "place"] "die_of" (defScope st_die_of) f cdv A outer s H E) (WD E) := takes_of rfl rfl rfl rfl
  exact ss_cons (ss_set (fun te h => ps_set (i := 1) S.nd rfl (by first | exact .inl rfl | exact .inr rfl) h) (se_val (sc_own d_wrong_place tk (hr.mono (by decide)) rfl (sar_v (se_var (pv 0)) (sar_nil)))) rfl)
      (ss_cons (ss_if (sb_cmp op_notN opD_notN (se_var (pv 1)) (se_non) (nomark _)) (ss_cons (ss_raise1 rfl tk e_BadDie (hr.mono (by decide)) rfl (sa_cons (se_var (pv 1)) (sa_nil)))
      (ss_nil)) (ss_nil))
      (ss_cons (ss_ret (se_cb caD_tuple (fun ta h => pe_callTy call_tuple_of rfl b.tuple boot_tuple h) (sa_cons (se_var (pv 0)) (sa_nil))))
      (ss_nil)))

/-! two_dice -/
def b_two_dice : FS := sSeq (sSet 2 (eVal (cCall F_die_of 1 (arV (eVar 0) (arNil)))))
      (sSeq (sSet 3 (eVal (cCall F_die_of 1 (arV (eVar 1) (arNil)))))
      (sSeq (sIf (tVal (eBin dNe (eCV dLen 2) (eCV dLen 3))) (sSeq (sRaise "OtherSize" ["first", "second"] (aCons (eCV dLen 2) (aCons (eCV dLen 3) (aNil))))
      (sNil)) (sNil))
      (sSeq (sRet (eTup (aCons (eVar 2) (aCons (eVar 3) (aNil)))))
      (sNil))))
def F_two_dice : Fn := fnOf 4 2 (fun _ => false) b_two_dice
theorem sc_two_dice : FnScope ["first", "second", "one", "two"] ["first", "second"] (defScope st_two_dice) := ⟨rfl, rfl, rfl, by decide +kernel, rfl, by decide +kernel, by decide +kernel⟩
theorem ok_two_dice (d_die_of : DefOk P w KK.K mg base "die_of" 3 1 F_die_of) {C_OtherSize f_OtherSize : Addr} {fd_OtherSize : FuncData} (e_OtherSize : ErC P w KK.K mg base "OtherSize" 1 (fun C => SpI2 C "first" "second") C_OtherSize f_OtherSize fd_OtherSize ["self", "first", "second"]) (b : Blt mg) {f : Addr} {fd : FuncData} (F : FnP KK.K "two_dice" st_two_dice f fd) (gF : mg "two_dice" = some (.ref f)) : DefOk P w KK.K mg base "two_dice" 4 2 F_two_dice := by
  have S := sc_two_dice
  refine ⟨f, fd, ["first", "second"], gF, def_ok (N := ["first", "second", "one", "two"]) (kp := (fun _ => false)) (g := b_two_dice) F S (by decide) (fun cdv A outer s H E hr => ?_), F.kp, F.bindsN fun _ _ _ _ _ _ us hl => match us, hl with | [_, _], _ => rfl⟩
  have tk : Takes (cxOf (L2.CX P w) P w KK.K mg base ["first", "second", "one", "two"] "two_dice" (defScope st_two_dice) f cdv A outer s H E) (WD E) := takes_of rfl rfl rfl rfl
  exact ss_cons (ss_set (fun te h => ps_set (i := 2) S.nd rfl (by first | exact .inl rfl | exact .inr rfl) h) (se_val (sc_own d_die_of tk (hr.mono (by decide)) rfl (sar_v (se_var (pv 0)) (sar_nil)))) rfl)
      (ss_cons (ss_set (fun te h => ps_set (i := 3) S.nd rfl (by first | exact .inl rfl | exact .inr rfl) h) (se_val (sc_own d_die_of tk (hr.mono (by decide)) rfl (sar_v (se_var (pv 1)) (sar_nil)))) rfl)
      (ss_cons (ss_if (sb_cmp (op_neD hr.units) opD_ne (se_cv caD_len caV_len (fun ta h => pe_callB call_len_seq rfl b.len boot_len h) (pv 2)) (se_cv caD_len caV_len (fun ta h => pe_callB call_len_seq rfl b.len boot_len h) (pv 3)) (nomark _)) (ss_cons (ss_raise2 rfl tk e_OtherSize (hr.mono (by decide)) rfl (sa_cons (se_cv caD_len caV_len (fun ta h => pe_callB call_len_seq rfl b.len boot_len h) (pv 2)) (sa_cons (se_cv caD_len caV_len (fun ta h => pe_callB call_len_seq rfl b.len boot_len h) (pv 3)) (sa_nil))))
      (ss_nil)) (ss_nil))
      (ss_cons (ss_ret (se_tup (sa_cons (se_var (pv 2)) (sa_cons (se_var (pv 3)) (sa_nil)))))
      (ss_nil))))

/-! running_counts -/
def b_running_counts : FS := sSeq (sSetF 1 (fLst (aCons (eC (.int 0)) (aNil))))
      (sSeq (sFor (gSeq (eVar 0)) (hName 2) (sSeq (sApp 1 (eBin dAdd (eIxVar 1 (eUn dNeg (eC (.int 1)))) (eVar 2)))
      (sNil)))
      (sSeq (sRetVar 1)
      (sNil)))
def F_running_counts : Fn := fnOf 3 1 (fun _ => false) b_running_counts
theorem sc_running_counts : FnScope ["die", "counts", "entry"] ["die"] (defScope st_running_counts) := ⟨rfl, rfl, rfl, by decide +kernel, rfl, by decide +kernel, by decide +kernel⟩
theorem ok_running_counts (b : Blt mg) {f : Addr} {fd : FuncData} (F : FnP KK.K "running_counts" st_running_counts f fd) (gF : mg "running_counts" = some (.ref f)) : DefOk P w KK.K mg base "running_counts" 1 1 F_running_counts := by
  have S := sc_running_counts
  refine ⟨f, fd, ["die"], gF, def_ok (N := ["die", "counts", "entry"]) (kp := (fun _ => false)) (g := b_running_counts) F S (by decide) (fun cdv A outer s H E hr => ?_), F.kp, F.bindsN fun _ _ _ _ _ _ us hl => match us, hl with | [_], _ => rfl⟩
  exact ss_cons (ss_setF (fun te h => ps_set (i := 1) S.nd rfl (by first | exact .inl rfl | exact .inr rfl) h) (sf_lst (sa_cons (se_int) (sa_nil))) rfl)
      (ss_cons (ss_for (passes_of rfl) rfl (si_seq (se_var (pv 0))) (sg_name (pg_name S.nd rfl (by first | exact .inl rfl | exact .inr rfl)) rfl) (ss_cons (ss_app (fun te h => ps_expr (pe_bm PySem.F.plainAttrs_list PySem.F.slot_list_append PySem.F.type_list_append mt_append (pv 1) (pa_cons h pa_nil))) (se_op op_add opD_add (se_ixVar (fun tb h => pe_ix (ix_or ix_list ix_tup) (pv 1) h (fun _ _ => rfl)) (se_un un_neg unD_neg (se_int))) (se_var (pv 2))))
      (ss_nil)))
      (ss_cons (ss_retVar (pv 1))
      (ss_nil)))

/-! below -/
def b_below : FS := sSeq (sSet 2 (eVal (cCall F_die_of 1 (arV (eVar 0) (arNil)))))
      (sSeq (sRet (eCB dSum (aCons (eSl (eVar 2) (oNo) (oIs (eVal (cCall F_check_between 4 (arV (eVar 1) (arV (eC (.str "gap")) (arV (eC (.int 0)) (arV (eCV dLen 2) (arNil))))))))) (aNil))))
      (sNil))
def F_below : Fn := fnOf 3 2 (fun _ => false) b_below
theorem sc_below : FnScope ["die", "gap", "checked"] ["die", "gap"] (defScope st_below) := ⟨rfl, rfl, rfl, by decide +kernel, rfl, by decide +kernel, by decide +kernel⟩
theorem ok_below (d_check_between : DefOk P w KK.K mg base "check_between" 3 4 F_check_between) (d_die_of : DefOk P w KK.K mg base "die_of" 3 1 F_die_of) (b : Blt mg) {f : Addr} {fd : FuncData} (F : FnP KK.K "below" st_below f fd) (gF : mg "below" = some (.ref f)) : DefOk P w KK.K mg base "below" 4 2 F_below := by
  have S := sc_below
  refine ⟨f, fd, ["die", "gap"], gF, def_ok (N := ["die", "gap", "checked"]) (kp := (fun _ => false)) (g := b_below) F S (by decide) (fun cdv A outer s H E hr => ?_), F.kp, F.bindsN fun _ _ _ _ _ _ us hl => match us, hl with | [_, _], _ => rfl⟩
  have tk : Takes (cxOf (L2.CX P w) P w KK.K mg base ["die", "gap", "checked"] "below" (defScope st_below) f cdv A outer s H E) (WD E) := takes_of rfl rfl rfl rfl
  exact ss_cons (ss_set (fun te h => ps_set (i := 2) S.nd rfl (by first | exact .inl rfl | exact .inr rfl) h) (se_val (sc_own d_die_of tk (hr.mono (by decide)) rfl (sar_v (se_var (pv 0)) (sar_nil)))) rfl)
      (ss_cons (ss_ret (se_cb caD_sum (fun ta h => pe_callB (call_sum2 rfl) rfl b.sum boot_sum h) (sa_cons (se_sl (se_var (pv 2)) (so_no) (so_is (se_val (sc_own d_check_between tk (hr.mono (by decide)) rfl (sar_v (se_var (pv 1)) (sar_v (se_str) (sar_v (se_int) (sar_v (se_cv caD_len caV_len (fun ta h => pe_callB call_len_seq rfl b.len boot_len h) (pv 2)) (sar_nil))))))))) (sa_nil))))
      (ss_nil))

/-! belows -/
def b_belows : FS := sSeq (sRet (eCB dTuple (aCons (eVal (cCall F_running_counts 1 (arV (eVal (cCall F_die_of 1 (arV (eVar 0) (arNil)))) (arNil)))) (aNil))))
      (sNil)
def F_belows : Fn := fnOf 1 1 (fun _ => false) b_belows
theorem sc_belows : FnScope ["die"] ["die"] (defScope st_belows) := ⟨rfl, rfl, rfl, by decide +kernel, rfl, by decide +kernel, by decide +kernel⟩
theorem ok_belows (d_die_of : DefOk P w KK.K mg base "die_of" 3 1 F_die_of) (d_running_counts : DefOk P w KK.K mg base "running_counts" 1 1 F_running_counts) (b : Blt mg) {f : Addr} {fd : FuncData} (F : FnP KK.K "belows" st_belows f fd) (gF : mg "belows" = some (.ref f)) : DefOk P w KK.K mg base "belows" 4 1 F_belows := by
  have S := sc_belows
  refine ⟨f, fd, ["die"], gF, def_ok (N := ["die"]) (kp := (fun _ => false)) (g := b_belows) F S (by decide) (fun cdv A outer s H E hr => ?_), F.kp, F.bindsN fun _ _ _ _ _ _ us hl => match us, hl with | [_], _ => rfl⟩
  have tk : Takes (cxOf (L2.CX P w) P w KK.K mg base ["die"] "belows" (defScope st_belows) f cdv A outer s H E) (WD E) := takes_of rfl rfl rfl rfl
  exact ss_cons (ss_ret (se_cb caD_tuple (fun ta h => pe_callTy call_tuple_of rfl b.tuple boot_tuple h) (sa_cons (se_val (sc_own d_running_counts tk (hr.mono (by decide)) rfl (sar_v (se_val (sc_own d_die_of tk (hr.mono (by decide)) rfl (sar_v (se_var (pv 0)) (sar_nil)))) (sar_nil)))) (sa_nil))))
      (ss_nil)

/-! one_faced -/
def b_one_faced : FS := sSeq (sDrop (eVal (cCall F_check_int 3 (arV (eVar 0) (arV (eC (.str "ranks")) (arV (eC (.int 1)) (arNil)))))))
      (sSeq (sDrop (eVal (cCall F_check_between 4 (arV (eVar 1) (arV (eC (.str "rank")) (arV (eC (.int 0)) (arV (eBin dSub (eVar 0) (eC (.int 1))) (arNil))))))))
      (sSeq (sDrop (eVal (cCall F_check_int 3 (arV (eVar 2) (arV (eC (.str "count")) (arV (eC (.int 1)) (arNil)))))))
      (sSeq (sRet (eBin dPlus (eBin dPlus (eBin dRep (eTup (aCons (eC (.int 0)) (aNil))) (eVar 1)) (eTup (aCons (eVar 2) (aNil)))) (eBin dRep (eTup (aCons (eC (.int 0)) (aNil))) (eBin dSub (eBin dSub (eVar 0) (eVar 1)) (eC (.int 1))))))
      (sNil))))
def F_one_faced : Fn := fnOf 3 3 (fun _ => false) b_one_faced
theorem sc_one_faced : FnScope ["ranks", "rank", "count"] ["ranks", "rank", "count"] (defScope st_one_faced) := ⟨rfl, rfl, rfl, by decide +kernel, rfl, by decide +kernel, by decide +kernel⟩
theorem ok_one_faced (d_check_between : DefOk P w KK.K mg base "check_between" 3 4 F_check_between) (d_check_int : DefOk P w KK.K mg base "check_int" 3 3 F_check_int) (b : Blt mg) {f : Addr} {fd : FuncData} (F : FnP KK.K "one_faced" st_one_faced f fd) (gF : mg "one_faced" = some (.ref f)) : DefOk P w KK.K mg base "one_faced" 4 3 F_one_faced := by
  have S := sc_one_faced
  refine ⟨f, fd, ["ranks", "rank", "count"], gF, def_ok (N := ["ranks", "rank", "count"]) (kp := (fun _ => false)) (g := b_one_faced) F S (by decide) (fun cdv A outer s H E hr => ?_), F.kp, F.bindsN fun _ _ _ _ _ _ us hl => match us, hl with | [_, _, _], _ => rfl⟩
  have tk : Takes (cxOf (L2.CX P w) P w KK.K mg base ["ranks", "rank", "count"] "one_faced" (defScope st_one_faced) f cdv A outer s H E) (WD E) := takes_of rfl rfl rfl rfl
  exact ss_cons (ss_drop (fun te h => ps_expr h) (se_val (sc_own d_check_int tk (hr.mono (by decide)) rfl (sar_v (se_var (pv 0)) (sar_v (se_str) (sar_v (se_int) (sar_nil)))))))
      (ss_cons (ss_drop (fun te h => ps_expr h) (se_val (sc_own d_check_between tk (hr.mono (by decide)) rfl (sar_v (se_var (pv 1)) (sar_v (se_str) (sar_v (se_int) (sar_v (se_op op_sub opD_sub (se_var (pv 0)) (se_int)) (sar_nil))))))))
      (ss_cons (ss_drop (fun te h => ps_expr h) (se_val (sc_own d_check_int tk (hr.mono (by decide)) rfl (sar_v (se_var (pv 2)) (sar_v (se_str) (sar_v (se_int) (sar_nil)))))))
      (ss_cons (ss_ret (se_op op_plus opD_plus (se_op op_plus opD_plus (se_op op_rep2 opD_rep (se_tup (sa_cons (se_int) (sa_nil))) (se_var (pv 1))) (se_tup (sa_cons (se_var (pv 2)) (sa_nil)))) (se_op op_rep2 opD_rep (se_tup (sa_cons (se_int) (sa_nil))) (se_op op_sub opD_sub (se_op op_sub opD_sub (se_var (pv 0)) (se_var (pv 1))) (se_int)))))
      (ss_nil))))

/-! is_like -/
def b_is_like : FS := sSeq (sUnp (hUnp [2, 3]) (eVal (cCall F_two_dice 2 (arV (eVar 0) (arV (eVar 1) (arNil))))))
      (sSeq (sRet (eBin dEq (eVal (cCall F_shortened 1 (arV (eVar 2) (arNil)))) (eVal (cCall F_shortened 1 (arV (eVar 3) (arNil))))))
      (sNil))
def F_is_like : Fn := fnOf 4 2 (fun _ => false) b_is_like
theorem sc_is_like : FnScope ["first", "second", "one", "two"] ["first", "second"] (defScope st_is_like) := ⟨rfl, rfl, rfl, by decide +kernel, rfl, by decide +kernel, by decide +kernel⟩
theorem ok_is_like (d_shortened : DefOk P w KK.K mg base "shortened" 2 1 F_shortened) (d_two_dice : DefOk P w KK.K mg base "two_dice" 4 2 F_two_dice) (b : Blt mg) {f : Addr} {fd : FuncData} (F : FnP KK.K "is_like" st_is_like f fd) (gF : mg "is_like" = some (.ref f)) : DefOk P w KK.K mg base "is_like" 5 2 F_is_like := by
  have S := sc_is_like
  refine ⟨f, fd, ["first", "second"], gF, def_ok (N := ["first", "second", "one", "two"]) (kp := (fun _ => false)) (g := b_is_like) F S (by decide) (fun cdv A outer s H E hr => ?_), F.kp, F.bindsN fun _ _ _ _ _ _ us hl => match us, hl with | [_, _], _ => rfl⟩
  have tk : Takes (cxOf (L2.CX P w) P w KK.K mg base ["first", "second", "one", "two"] "is_like" (defScope st_is_like) f cdv A outer s H E) (WD E) := takes_of rfl rfl rfl rfl
  exact ss_cons (ss_unp (fun te g h k => ps_asg h k) (se_val (sc_own d_two_dice tk (hr.mono (by decide)) rfl (sar_v (se_var (pv 0)) (sar_v (se_var (pv 1)) (sar_nil))))) (sg_unp (is := [2, 3]) (pg_tup rfl (pgs_cons (pg_name S.nd rfl (by first | exact .inl rfl | exact .inr rfl)) (pgs_cons (pg_name S.nd rfl (by first | exact .inl rfl | exact .inr rfl)) (pgs_nil)))) (pg_unl rfl (pgs_cons (pg_name S.nd rfl (by first | exact .inl rfl | exact .inr rfl)) (pgs_cons (pg_name S.nd rfl (by first | exact .inl rfl | exact .inr rfl)) (pgs_nil)))) (by decide)))
      (ss_cons (ss_ret (se_cmp (op_eqD hr.units) opD_eq (se_val (sc_own d_shortened tk (hr.mono (by decide)) rfl (sar_v (se_var (pv 2)) (sar_nil)))) (se_val (sc_own d_shortened tk (hr.mono (by decide)) rfl (sar_v (se_var (pv 3)) (sar_nil)))) (nomark _)))
      (ss_nil))

/-! short_die -/
def b_short_die : FS := sSeq (sRet (eVal (cCall F_shortened 1 (arV (eVal (cCall F_die_of 1 (arV (eVar 0) (arNil)))) (arNil)))))
      (sNil)
def F_short_die : Fn := fnOf 1 1 (fun _ => false) b_short_die
theorem sc_short_die : FnScope ["die"] ["die"] (defScope st_short_die) := ⟨rfl, rfl, rfl, by decide +kernel, rfl, by decide +kernel, by decide +kernel⟩
theorem ok_short_die (d_die_of : DefOk P w KK.K mg base "die_of" 3 1 F_die_of) (d_shortened : DefOk P w KK.K mg base "shortened" 2 1 F_shortened) (b : Blt mg) {f : Addr} {fd : FuncData} (F : FnP KK.K "short_die" st_short_die f fd) (gF : mg "short_die" = some (.ref f)) : DefOk P w KK.K mg base "short_die" 4 1 F_short_die := by
  have S := sc_short_die
  refine ⟨f, fd, ["die"], gF, def_ok (N := ["die"]) (kp := (fun _ => false)) (g := b_short_die) F S (by decide) (fun cdv A outer s H E hr => ?_), F.kp, F.bindsN fun _ _ _ _ _ _ us hl => match us, hl with | [_], _ => rfl⟩
  have tk : Takes (cxOf (L2.CX P w) P w KK.K mg base ["die"] "short_die" (defScope st_short_die) f cdv A outer s H E) (WD E) := takes_of rfl rfl rfl rfl
  exact ss_cons (ss_ret (se_val (sc_own d_shortened tk (hr.mono (by decide)) rfl (sar_v (se_val (sc_own d_die_of tk (hr.mono (by decide)) rfl (sar_v (se_var (pv 0)) (sar_nil)))) (sar_nil)))))
      (ss_nil)

end
end KV
set_option Elab.async false
set_option linter.all false
set_option autoImplicit false
set_option maxRecDepth 100000
set_option maxHeartbeats 4000000
namespace KV
open PySem PySem.Spec PyProof.Rows L2
variable [KK]
section
variable {P : Program} {w : World} {mg : Str → Option Value} {base : Heap}
/-! lowest -/
def b_lowest : FS := sSeq (sSet 2 (eIf (tVal (eBin dGt (eVar 1) (eC (.int 0)))) (eCB dGcd (aCons (eVar 0) (aCons (eVar 1) (aNil)))) (eUn dNeg (eCB dGcd (aCons (eVar 0) (aCons (eVar 1) (aNil)))))))
      (sSeq (sRet (eTup (aCons (eBin dFdiv (eVar 0) (eVar 2)) (aCons (eBin dFdiv (eVar 1) (eVar 2)) (aNil)))))
      (sNil))
def F_lowest : Fn := fnOf 3 2 (fun _ => false) b_lowest
theorem sc_lowest : FnScope ["top", "bottom", "shared"] ["top", "bottom"] (defScope st_lowest) := ⟨rfl, rfl, rfl, by decide +kernel, rfl, by decide +kernel, by decide +kernel⟩
theorem ok_lowest (b : Blt mg) {f : Addr} {fd : FuncData} (F : FnP KK.K "lowest" st_lowest f fd) (gF : mg "lowest" = some (.ref f)) : DefOk P w KK.K mg base "lowest" 1 2 F_lowest := by
  have S := sc_lowest
  refine ⟨f, fd, ["top", "bottom"], gF, def_ok (N := ["top", "bottom", "shared"]) (kp := (fun _ => false)) (g := b_lowest) F S (by decide) (fun cdv A outer s H E hr => ?_), F.kp, F.bindsN fun _ _ _ _ _ _ us hl => match us, hl with | [_, _], _ => rfl⟩
  exact ss_cons (ss_set (fun te h => ps_set (i := 2) S.nd rfl (by first | exact .inl rfl | exact .inr rfl) h) (se_if (sb_cmp op_gt opD_gt (se_var (pv 1)) (se_int) (nomark _)) (se_cb caD_gcd (fun ta h => pe_callBfun cr_gcd rfl b.gcd h) (sa_cons (se_var (pv 0)) (sa_cons (se_var (pv 1)) (sa_nil)))) (se_un un_neg unD_neg (se_cb caD_gcd (fun ta h => pe_callBfun cr_gcd rfl b.gcd h) (sa_cons (se_var (pv 0)) (sa_cons (se_var (pv 1)) (sa_nil)))))) rfl)
      (ss_cons (ss_ret (se_tup (sa_cons (se_op op_fdivZ opD_fdiv (se_var (pv 0)) (se_var (pv 2))) (sa_cons (se_op op_fdivZ opD_fdiv (se_var (pv 1)) (se_var (pv 2))) (sa_nil)))))
      (ss_nil))

/-! fraction -/
def b_fraction : FS := sSeq (sIf (tVal (eVal (cCall F_is_int 1 (arV (eVar 0) (arNil))))) (sSeq (sRet (eTup (aCons (eVar 0) (aCons (eC (.int 1)) (aNil)))))
      (sNil)) (sNil))
      (sSeq (sIf (tOr2 (tNot2 (tVal (eVal (cCall F_is_row 1 (arV (eVar 0) (arNil)))))) (tVal (eBin dNe (eCV dLen 0) (eC (.int 2))))) (sSeq (sRaise "BadNumber" ["name"] (aCons (eVar 1) (aNil)))
      (sNil)) (sNil))
      (sSeq (sUnp (hUnp [2, 3]) (eVar 0))
      (sSeq (sIf (tOr2 (tNot2 (tVal (eVal (cCall F_is_int 1 (arV (eVar 2) (arNil)))))) (tOr2 (tNot2 (tVal (eVal (cCall F_is_int 1 (arV (eVar 3) (arNil)))))) (tVal (eBin dLt (eVar 3) (eC (.int 1)))))) (sSeq (sRaise "BadNumber" ["name"] (aCons (eVar 1) (aNil)))
      (sNil)) (sNil))
      (sSeq (sRet (eVal (cCall F_lowest 2 (arV (eVar 2) (arV (eVar 3) (arNil))))))
      (sNil)))))
def F_fraction : Fn := fnOf 4 2 (fun _ => false) b_fraction
theorem sc_fraction : FnScope ["value", "name", "top", "bottom"] ["value", "name"] (defScope st_fraction) := ⟨rfl, rfl, rfl, by decide +kernel, rfl, by decide +kernel, by decide +kernel⟩
theorem ok_fraction (d_is_int : DefOk P w KK.K mg base "is_int" 1 1 F_is_int) (d_is_row : DefOk P w KK.K mg base "is_row" 1 1 F_is_row) (d_lowest : DefOk P w KK.K mg base "lowest" 1 2 F_lowest) {C_BadNumber f_BadNumber : Addr} {fd_BadNumber : FuncData} (e_BadNumber : ErC P w KK.K mg base "BadNumber" 1 (fun C => SpI1 C "name") C_BadNumber f_BadNumber fd_BadNumber ["self", "name"]) (b : Blt mg) {f : Addr} {fd : FuncData} (F : FnP KK.K "fraction" st_fraction f fd) (gF : mg "fraction" = some (.ref f)) : DefOk P w KK.K mg base "fraction" 3 2 F_fraction := by
  have S := sc_fraction
  refine ⟨f, fd, ["value", "name"], gF, def_ok (N := ["value", "name", "top", "bottom"]) (kp := (fun _ => false)) (g := b_fraction) F S (by decide) (fun cdv A outer s H E hr => ?_), F.kp, F.bindsN fun _ _ _ _ _ _ us hl => match us, hl with | [_, _], _ => rfl⟩
  have tk : Takes (cxOf (L2.CX P w) P w KK.K mg base ["value", "name", "top", "bottom"] "fraction" (defScope st_fraction) f cdv A outer s H E) (WD E) := takes_of rfl rfl rfl rfl
  exact ss_cons (ss_if (sb_val (se_val (sc_own d_is_int tk (hr.mono (by decide)) rfl (sar_v (se_var (pv 0)) (sar_nil))))) (ss_cons (ss_ret (se_tup (sa_cons (se_var (pv 0)) (sa_cons (se_int) (sa_nil)))))
      (ss_nil)) (ss_nil))
      (ss_cons (ss_if (sb_w (sw_or (sb_not (sb_val (se_val (sc_own d_is_row tk (hr.mono (by decide)) rfl (sar_v (se_var (pv 0)) (sar_nil)))))) (sw_or1 (sb_cmp (op_neD hr.units) opD_ne (se_cv caD_len caV_len (fun ta h => pe_callB call_len_seq rfl b.len boot_len h) (pv 0)) (se_int) (nomark _))))) (ss_cons (ss_raise1 rfl tk e_BadNumber (hr.mono (by decide)) rfl (sa_cons (se_var (pv 1)) (sa_nil)))
      (ss_nil)) (ss_nil))
      (ss_cons (ss_unp (fun te g h k => ps_asg h k) (se_var (pv 0)) (sg_unp (is := [2, 3]) (pg_tup rfl (pgs_cons (pg_name S.nd rfl (by first | exact .inl rfl | exact .inr rfl)) (pgs_cons (pg_name S.nd rfl (by first | exact .inl rfl | exact .inr rfl)) (pgs_nil)))) (pg_unl rfl (pgs_cons (pg_name S.nd rfl (by first | exact .inl rfl | exact .inr rfl)) (pgs_cons (pg_name S.nd rfl (by first | exact .inl rfl | exact .inr rfl)) (pgs_nil)))) (by decide)))
      (ss_cons (ss_if (sb_w (sw_or (sb_not (sb_val (se_val (sc_own d_is_int tk (hr.mono (by decide)) rfl (sar_v (se_var (pv 2)) (sar_nil)))))) (sw_or (sb_not (sb_val (se_val (sc_own d_is_int tk (hr.mono (by decide)) rfl (sar_v (se_var (pv 3)) (sar_nil)))))) (sw_or1 (sb_cmp op_lt opD_lt (se_var (pv 3)) (se_int) (nomark _)))))) (ss_cons (ss_raise1 rfl tk e_BadNumber (hr.mono (by decide)) rfl (sa_cons (se_var (pv 1)) (sa_nil)))
      (ss_nil)) (ss_nil))
      (ss_cons (ss_ret (se_val (sc_own d_lowest tk (hr.mono (by decide)) rfl (sar_v (se_var (pv 2)) (sar_v (se_var (pv 3)) (sar_nil))))))
      (ss_nil)))))

/-! both_fractions -/
def b_both_fractions : FS := sSeq (sRet (eBin dPlus (eVal (cCall F_fraction 2 (arV (eVar 0) (arV (eC (.str "first")) (arNil))))) (eVal (cCall F_fraction 2 (arV (eVar 1) (arV (eC (.str "second")) (arNil)))))))
      (sNil)
def F_both_fractions : Fn := fnOf 2 2 (fun _ => false) b_both_fractions
theorem sc_both_fractions : FnScope ["first", "second"] ["first", "second"] (defScope st_both_fractions) := ⟨rfl, rfl, rfl, by decide +kernel, rfl, by decide +kernel, by decide +kernel⟩
theorem ok_both_fractions (d_fraction : DefOk P w KK.K mg base "fraction" 3 2 F_fraction) (b : Blt mg) {f : Addr} {fd : FuncData} (F : FnP KK.K "both_fractions" st_both_fractions f fd) (gF : mg "both_fractions" = some (.ref f)) : DefOk P w KK.K mg base "both_fractions" 4 2 F_both_fractions := by
  have S := sc_both_fractions
  refine ⟨f, fd, ["first", "second"], gF, def_ok (N := ["first", "second"]) (kp := (fun _ => false)) (g := b_both_fractions) F S (by decide) (fun cdv A outer s H E hr => ?_), F.kp, F.bindsN fun _ _ _ _ _ _ us hl => match us, hl with | [_, _], _ => rfl⟩
  have tk : Takes (cxOf (L2.CX P w) P w KK.K mg base ["first", "second"] "both_fractions" (defScope st_both_fractions) f cdv A outer s H E) (WD E) := takes_of rfl rfl rfl rfl
  exact ss_cons (ss_ret (se_op op_plus opD_plus (se_val (sc_own d_fraction tk (hr.mono (by decide)) rfl (sar_v (se_var (pv 0)) (sar_v (se_str) (sar_nil))))) (se_val (sc_own d_fraction tk (hr.mono (by decide)) rfl (sar_v (se_var (pv 1)) (sar_v (se_str) (sar_nil)))))))
      (ss_nil)

/-! added -/
def b_added : FS := sSeq (sUnp (hUnp [2, 3, 4, 5]) (eVal (cCall F_both_fractions 2 (arV (eVar 0) (arV (eVar 1) (arNil))))))
      (sSeq (sRet (eVal (cCall F_lowest 2 (arV (eBin dAdd (eBin dMul (eVar 2) (eVar 5)) (eBin dMul (eVar 4) (eVar 3))) (arV (eBin dMul (eVar 3) (eVar 5)) (arNil))))))
      (sNil))
def F_added : Fn := fnOf 6 2 (fun _ => false) b_added
theorem sc_added : FnScope ["first", "second", "top", "bottom", "other_top", "other_bottom"] ["first", "second"] (defScope st_added) := ⟨rfl, rfl, rfl, by decide +kernel, rfl, by decide +kernel, by decide +kernel⟩
theorem ok_added (d_both_fractions : DefOk P w KK.K mg base "both_fractions" 4 2 F_both_fractions) (d_lowest : DefOk P w KK.K mg base "lowest" 1 2 F_lowest) (b : Blt mg) {f : Addr} {fd : FuncData} (F : FnP KK.K "added" st_added f fd) (gF : mg "added" = some (.ref f)) : DefOk P w KK.K mg base "added" 5 2 F_added := by
  have S := sc_added
  refine ⟨f, fd, ["first", "second"], gF, def_ok (N := ["first", "second", "top", "bottom", "other_top", "other_bottom"]) (kp := (fun _ => false)) (g := b_added) F S (by decide) (fun cdv A outer s H E hr => ?_), F.kp, F.bindsN fun _ _ _ _ _ _ us hl => match us, hl with | [_, _], _ => rfl⟩
  have tk : Takes (cxOf (L2.CX P w) P w KK.K mg base ["first", "second", "top", "bottom", "other_top", "other_bottom"] "added" (defScope st_added) f cdv A outer s H E) (WD E) := takes_of rfl rfl rfl rfl
  exact ss_cons (ss_unp (fun te g h k => ps_asg h k) (se_val (sc_own d_both_fractions tk (hr.mono (by decide)) rfl (sar_v (se_var (pv 0)) (sar_v (se_var (pv 1)) (sar_nil))))) (sg_unp (is := [2, 3, 4, 5]) (pg_tup rfl (pgs_cons (pg_name S.nd rfl (by first | exact .inl rfl | exact .inr rfl)) (pgs_cons (pg_name S.nd rfl (by first | exact .inl rfl | exact .inr rfl)) (pgs_cons (pg_name S.nd rfl (by first | exact .inl rfl | exact .inr rfl)) (pgs_cons (pg_name S.nd rfl (by first | exact .inl rfl | exact .inr rfl)) (pgs_nil)))))) (pg_unl rfl (pgs_cons (pg_name S.nd rfl (by first | exact .inl rfl | exact .inr rfl)) (pgs_cons (pg_name S.nd rfl (by first | exact .inl rfl | exact .inr rfl)) (pgs_cons (pg_name S.nd rfl (by first | exact .inl rfl | exact .inr rfl)) (pgs_cons (pg_name S.nd rfl (by first | exact .inl rfl | exact .inr rfl)) (pgs_nil)))))) (by decide)))
      (ss_cons (ss_ret (se_val (sc_own d_lowest tk (hr.mono (by decide)) rfl (sar_v (se_op op_add opD_add (se_op op_mulW opD_mul (se_var (pv 2)) (se_var (pv 5))) (se_op op_mulW opD_mul (se_var (pv 4)) (se_var (pv 3)))) (sar_v (se_op op_mulW opD_mul (se_var (pv 3)) (se_var (pv 5))) (sar_nil))))))
      (ss_nil))

/-! taken_off -/
def b_taken_off : FS := sSeq (sUnp (hUnp [2, 3, 4, 5]) (eVal (cCall F_both_fractions 2 (arV (eVar 0) (arV (eVar 1) (arNil))))))
      (sSeq (sRet (eVal (cCall F_lowest 2 (arV (eBin dSub (eBin dMul (eVar 2) (eVar 5)) (eBin dMul (eVar 4) (eVar 3))) (arV (eBin dMul (eVar 3) (eVar 5)) (arNil))))))
      (sNil))
def F_taken_off : Fn := fnOf 6 2 (fun _ => false) b_taken_off
theorem sc_taken_off : FnScope ["first", "second", "top", "bottom", "other_top", "other_bottom"] ["first", "second"] (defScope st_taken_off) := ⟨rfl, rfl, rfl, by decide +kernel, rfl, by decide +kernel, by decide +kernel⟩
theorem ok_taken_off (d_both_fractions : DefOk P w KK.K mg base "both_fractions" 4 2 F_both_fractions) (d_lowest : DefOk P w KK.K mg base "lowest" 1 2 F_lowest) (b : Blt mg) {f : Addr} {fd : FuncData} (F : FnP KK.K "taken_off" st_taken_off f fd) (gF : mg "taken_off" = some (.ref f)) : DefOk P w KK.K mg base "taken_off" 5 2 F_taken_off := by
  have S := sc_taken_off
  refine ⟨f, fd, ["first", "second"], gF, def_ok (N := ["first", "second", "top", "bottom", "other_top", "other_bottom"]) (kp := (fun _ => false)) (g := b_taken_off) F S (by decide) (fun cdv A outer s H E hr => ?_), F.kp, F.bindsN fun _ _ _ _ _ _ us hl => match us, hl with | [_, _], _ => rfl⟩
  have tk : Takes (cxOf (L2.CX P w) P w KK.K mg base ["first", "second", "top", "bottom", "other_top", "other_bottom"] "taken_off" (defScope st_taken_off) f cdv A outer s H E) (WD E) := takes_of rfl rfl rfl rfl
  exact ss_cons (ss_unp (fun te g h k => ps_asg h k) (se_val (sc_own d_both_fractions tk (hr.mono (by decide)) rfl (sar_v (se_var (pv 0)) (sar_v (se_var (pv 1)) (sar_nil))))) (sg_unp (is := [2, 3, 4, 5]) (pg_tup rfl (pgs_cons (pg_name S.nd rfl (by first | exact .inl rfl | exact .inr rfl)) (pgs_cons (pg_name S.nd rfl (by first | exact .inl rfl | exact .inr rfl)) (pgs_cons (pg_name S.nd rfl (by first | exact .inl rfl | exact .inr rfl)) (pgs_cons (pg_name S.nd rfl (by first | exact .inl rfl | exact .inr rfl)) (pgs_nil)))))) (pg_unl rfl (pgs_cons (pg_name S.nd rfl (by first | exact .inl rfl | exact .inr rfl)) (pgs_cons (pg_name S.nd rfl (by first | exact .inl rfl | exact .inr rfl)) (pgs_cons (pg_name S.nd rfl (by first | exact .inl rfl | exact .inr rfl)) (pgs_cons (pg_name S.nd rfl (by first | exact .inl rfl | exact .inr rfl)) (pgs_nil)))))) (by decide)))
      (ss_cons (ss_ret (se_val (sc_own d_lowest tk (hr.mono (by decide)) rfl (sar_v (se_op op_sub opD_sub (se_op op_mulW opD_mul (se_var (pv 2)) (se_var (pv 5))) (se_op op_mulW opD_mul (se_var (pv 4)) (se_var (pv 3)))) (sar_v (se_op op_mulW opD_mul (se_var (pv 3)) (se_var (pv 5))) (sar_nil))))))
      (ss_nil))

/-! multiplied -/
def b_multiplied : FS := sSeq (sUnp (hUnp [2, 3, 4, 5]) (eVal (cCall F_both_fractions 2 (arV (eVar 0) (arV (eVar 1) (arNil))))))
      (sSeq (sRet (eVal (cCall F_lowest 2 (arV (eBin dMul (eVar 2) (eVar 4)) (arV (eBin dMul (eVar 3) (eVar 5)) (arNil))))))
      (sNil))
def F_multiplied : Fn := fnOf 6 2 (fun _ => false) b_multiplied
theorem sc_multiplied : FnScope ["first", "second", "top", "bottom", "other_top", "other_bottom"] ["first", "second"] (defScope st_multiplied) := ⟨rfl, rfl, rfl, by decide +kernel, rfl, by decide +kernel, by decide +kernel⟩
theorem ok_multiplied (d_both_fractions : DefOk P w KK.K mg base "both_fractions" 4 2 F_both_fractions) (d_lowest : DefOk P w KK.K mg base "lowest" 1 2 F_lowest) (b : Blt mg) {f : Addr} {fd : FuncData} (F : FnP KK.K "multiplied" st_multiplied f fd) (gF : mg "multiplied" = some (.ref f)) : DefOk P w KK.K mg base "multiplied" 5 2 F_multiplied := by
  have S := sc_multiplied
  refine ⟨f, fd, ["first", "second"], gF, def_ok (N := ["first", "second", "top", "bottom", "other_top", "other_bottom"]) (kp := (fun _ => false)) (g := b_multiplied) F S (by decide) (fun cdv A outer s H E hr => ?_), F.kp, F.bindsN fun _ _ _ _ _ _ us hl => match us, hl with | [_, _], _ => rfl⟩
  have tk : Takes (cxOf (L2.CX P w) P w KK.K mg base ["first", "second", "top", "bottom", "other_top", "other_bottom"] "multiplied" (defScope st_multiplied) f cdv A outer s H E) (WD E) := takes_of rfl rfl rfl rfl
  exact ss_cons (ss_unp (fun te g h k => ps_asg h k) (se_val (sc_own d_both_fractions tk (hr.mono (by decide)) rfl (sar_v (se_var (pv 0)) (sar_v (se_var (pv 1)) (sar_nil))))) (sg_unp (is := [2, 3, 4, 5]) (pg_tup rfl (pgs_cons (pg_name S.nd rfl (by first | exact .inl rfl | exact .inr rfl)) (pgs_cons (pg_name S.nd rfl (by first | exact .inl rfl | exact .inr rfl)) (pgs_cons (pg_name S.nd rfl (by first | exact .inl rfl | exact .inr rfl)) (pgs_cons (pg_name S.nd rfl (by first | exact .inl rfl | exact .inr rfl)) (pgs_nil)))))) (pg_unl rfl (pgs_cons (pg_name S.nd rfl (by first | exact .inl rfl | exact .inr rfl)) (pgs_cons (pg_name S.nd rfl (by first | exact .inl rfl | exact .inr rfl)) (pgs_cons (pg_name S.nd rfl (by first | exact .inl rfl | exact .inr rfl)) (pgs_cons (pg_name S.nd rfl (by first | exact .inl rfl | exact .inr rfl)) (pgs_nil)))))) (by decide)))
      (ss_cons (ss_ret (se_val (sc_own d_lowest tk (hr.mono (by decide)) rfl (sar_v (se_op op_mulW opD_mul (se_var (pv 2)) (se_var (pv 4))) (sar_v (se_op op_mulW opD_mul (se_var (pv 3)) (se_var (pv 5))) (sar_nil))))))
      (ss_nil))

/-! divided -/
def b_divided : FS := sSeq (sUnp (hUnp [2, 3, 4, 5]) (eVal (cCall F_both_fractions 2 (arV (eVar 0) (arV (eVar 1) (arNil))))))
      (sSeq (sIf (tVal (eBin dEq (eVar 4) (eC (.int 0)))) (sSeq (sRaise "BadNumber" ["name"] (aCons (eC (.str "divisor")) (aNil)))
      (sNil)) (sNil))
      (sSeq (sRet (eVal (cCall F_lowest 2 (arV (eBin dMul (eVar 2) (eVar 5)) (arV (eBin dMul (eVar 4) (eVar 3)) (arNil))))))
      (sNil)))
def F_divided : Fn := fnOf 6 2 (fun _ => false) b_divided
theorem sc_divided : FnScope ["first", "second", "top", "bottom", "other_top", "other_bottom"] ["first", "second"] (defScope st_divided) := ⟨rfl, rfl, rfl, by decide +kernel, rfl, by decide +kernel, by decide +kernel⟩
theorem ok_divided (d_both_fractions : DefOk P w KK.K mg base "both_fractions" 4 2 F_both_fractions) (d_lowest : DefOk P w KK.K mg base "lowest" 1 2 F_lowest) {C_BadNumber f_BadNumber : Addr} {fd_BadNumber : FuncData} (e_BadNumber : ErC P w KK.K mg base "BadNumber" 1 (fun C => SpI1 C "name") C_BadNumber f_BadNumber fd_BadNumber ["self", "name"]) (b : Blt mg) {f : Addr} {fd : FuncData} (F : FnP KK.K "divided" st_divided f fd) (gF : mg "divided" = some (.ref f)) : DefOk P w KK.K mg base "divided" 5 2 F_divided := by
  have S := sc_divided
  refine ⟨f, fd, ["first", "second"], gF, def_ok (N := ["first", "second", "top", "bottom", "other_top", "other_bottom"]) (kp := (fun _ => false)) (g := b_divided) F S (by decide) (fun cdv A outer s H E hr => ?_), F.kp, F.bindsN fun _ _ _ _ _ _ us hl => match us, hl with | [_, _], _ => rfl⟩
  have tk : Takes (cxOf (L2.CX P w) P w KK.K mg base ["first", "second", "top", "bottom", "other_top", "other_bottom"] "divided" (defScope st_divided) f cdv A outer s H E) (WD E) := takes_of rfl rfl rfl rfl
  exact ss_cons (ss_unp (fun te g h k => ps_asg h k) (se_val (sc_own d_both_fractions tk (hr.mono (by decide)) rfl (sar_v (se_var (pv 0)) (sar_v (se_var (pv 1)) (sar_nil))))) (sg_unp (is := [2, 3, 4, 5]) (pg_tup rfl (pgs_cons (pg_name S.nd rfl (by first | exact .inl rfl | exact .inr rfl)) (pgs_cons (pg_name S.nd rfl (by first | exact .inl rfl | exact .inr rfl)) (pgs_cons (pg_name S.nd rfl (by first | exact .inl rfl | exact .inr rfl)) (pgs_cons (pg_name S.nd rfl (by first | exact .inl rfl | exact .inr rfl)) (pgs_nil)))))) (pg_unl rfl (pgs_cons (pg_name S.nd rfl (by first | exact .inl rfl | exact .inr rfl)) (pgs_cons (pg_name S.nd rfl (by first | exact .inl rfl | exact .inr rfl)) (pgs_cons (pg_name S.nd rfl (by first | exact .inl rfl | exact .inr rfl)) (pgs_cons (pg_name S.nd rfl (by first | exact .inl rfl | exact .inr rfl)) (pgs_nil)))))) (by decide)))
      (ss_cons (ss_if (sb_cmp (op_eqD hr.units) opD_eq (se_var (pv 4)) (se_int) (nomark _)) (ss_cons (ss_raise1 rfl tk e_BadNumber (hr.mono (by decide)) rfl (sa_cons (se_str) (sa_nil)))
      (ss_nil)) (ss_nil))
      (ss_cons (ss_ret (se_val (sc_own d_lowest tk (hr.mono (by decide)) rfl (sar_v (se_op op_mulW opD_mul (se_var (pv 2)) (se_var (pv 5))) (sar_v (se_op op_mulW opD_mul (se_var (pv 4)) (se_var (pv 3))) (sar_nil))))))
      (ss_nil)))

/-! is_less -/
def b_is_less : FS := sSeq (sUnp (hUnp [2, 3, 4, 5]) (eVal (cCall F_both_fractions 2 (arV (eVar 0) (arV (eVar 1) (arNil))))))
      (sSeq (sRet (eBin dLt (eBin dMul (eVar 2) (eVar 5)) (eBin dMul (eVar 4) (eVar 3))))
      (sNil))
def F_is_less : Fn := fnOf 6 2 (fun _ => false) b_is_less
theorem sc_is_less : FnScope ["first", "second", "top", "bottom", "other_top", "other_bottom"] ["first", "second"] (defScope st_is_less) := ⟨rfl, rfl, rfl, by decide +kernel, rfl, by decide +kernel, by decide +kernel⟩
theorem ok_is_less (d_both_fractions : DefOk P w KK.K mg base "both_fractions" 4 2 F_both_fractions) (b : Blt mg) {f : Addr} {fd : FuncData} (F : FnP KK.K "is_less" st_is_less f fd) (gF : mg "is_less" = some (.ref f)) : DefOk P w KK.K mg base "is_less" 5 2 F_is_less := by
  have S := sc_is_less
  refine ⟨f, fd, ["first", "second"], gF, def_ok (N := ["first", "second", "top", "bottom", "other_top", "other_bottom"]) (kp := (fun _ => false)) (g := b_is_less) F S (by decide) (fun cdv A outer s H E hr => ?_), F.kp, F.bindsN fun _ _ _ _ _ _ us hl => match us, hl with | [_, _], _ => rfl⟩
  have tk : Takes (cxOf (L2.CX P w) P w KK.K mg base ["first", "second", "top", "bottom", "other_top", "other_bottom"] "is_less" (defScope st_is_less) f cdv A outer s H E) (WD E) := takes_of rfl rfl rfl rfl
  exact ss_cons (ss_unp (fun te g h k => ps_asg h k) (se_val (sc_own d_both_fractions tk (hr.mono (by decide)) rfl (sar_v (se_var (pv 0)) (sar_v (se_var (pv 1)) (sar_nil))))) (sg_unp (is := [2, 3, 4, 5]) (pg_tup rfl (pgs_cons (pg_name S.nd rfl (by first | exact .inl rfl | exact .inr rfl)) (pgs_cons (pg_name S.nd rfl (by first | exact .inl rfl | exact .inr rfl)) (pgs_cons (pg_name S.nd rfl (by first | exact .inl rfl | exact .inr rfl)) (pgs_cons (pg_name S.nd rfl (by first | exact .inl rfl | exact .inr rfl)) (pgs_nil)))))) (pg_unl rfl (pgs_cons (pg_name S.nd rfl (by first | exact .inl rfl | exact .inr rfl)) (pgs_cons (pg_name S.nd rfl (by first | exact .inl rfl | exact .inr rfl)) (pgs_cons (pg_name S.nd rfl (by first | exact .inl rfl | exact .inr rfl)) (pgs_cons (pg_name S.nd rfl (by first | exact .inl rfl | exact .inr rfl)) (pgs_nil)))))) (by decide)))
      (ss_cons (ss_ret (se_cmp op_lt opD_lt (se_op op_mulW opD_mul (se_var (pv 2)) (se_var (pv 5))) (se_op op_mulW opD_mul (se_var (pv 4)) (se_var (pv 3))) (nomark _)))
      (ss_nil))

/-! is_equal -/
def b_is_equal : FS := sSeq (sRet (eBin dEq (eVal (cCall F_fraction 2 (arV (eVar 0) (arV (eC (.str "first")) (arNil))))) (eVal (cCall F_fraction 2 (arV (eVar 1) (arV (eC (.str "second")) (arNil)))))))
      (sNil)
def F_is_equal : Fn := fnOf 2 2 (fun _ => false) b_is_equal
theorem sc_is_equal : FnScope ["first", "second"] ["first", "second"] (defScope st_is_equal) := ⟨rfl, rfl, rfl, by decide +kernel, rfl, by decide +kernel, by decide +kernel⟩
theorem ok_is_equal (d_fraction : DefOk P w KK.K mg base "fraction" 3 2 F_fraction) (b : Blt mg) {f : Addr} {fd : FuncData} (F : FnP KK.K "is_equal" st_is_equal f fd) (gF : mg "is_equal" = some (.ref f)) : DefOk P w KK.K mg base "is_equal" 4 2 F_is_equal := by
  have S := sc_is_equal
  refine ⟨f, fd, ["first", "second"], gF, def_ok (N := ["first", "second"]) (kp := (fun _ => false)) (g := b_is_equal) F S (by decide) (fun cdv A outer s H E hr => ?_), F.kp, F.bindsN fun _ _ _ _ _ _ us hl => match us, hl with | [_, _], _ => rfl⟩
  have tk : Takes (cxOf (L2.CX P w) P w KK.K mg base ["first", "second"] "is_equal" (defScope st_is_equal) f cdv A outer s H E) (WD E) := takes_of rfl rfl rfl rfl
  exact ss_cons (ss_ret (se_cmp (op_eqD hr.units) opD_eq (se_val (sc_own d_fraction tk (hr.mono (by decide)) rfl (sar_v (se_var (pv 0)) (sar_v (se_str) (sar_nil))))) (se_val (sc_own d_fraction tk (hr.mono (by decide)) rfl (sar_v (se_var (pv 1)) (sar_v (se_str) (sar_nil))))) (nomark _)))
      (ss_nil)

/-! rank_leads -/
def b_rank_leads : FS := sSeq (sSet 1 (eVal (cCall F_running_counts 1 (arV (eVar 0) (arNil)))))
      (sSeq (sRetF (fComp (gZip (aCons (eVar 1) (aCons (eSl (eVar 1) (oIs (eC (.int 1))) (oNo)) (aNil)))) (hTup [2, 3]) (tYes2) (eBin dSub (eBin dAdd (eVar 2) (eVar 3)) (eIxVar 1 (eUn dNeg (eC (.int 1))))) [2, 3]))
      (sNil))
def F_rank_leads : Fn := fnOf 4 1 (fun _ => false) b_rank_leads
theorem sc_rank_leads : FnScope ["die", "counts", "low", "high"] ["die"] (defScope st_rank_leads) := ⟨rfl, rfl, rfl, by decide +kernel, rfl, by decide +kernel, by decide +kernel⟩
theorem ok_rank_leads (d_running_counts : DefOk P w KK.K mg base "running_counts" 1 1 F_running_counts) (b : Blt mg) {f : Addr} {fd : FuncData} (F : FnP KK.K "rank_leads" st_rank_leads f fd) (gF : mg "rank_leads" = some (.ref f)) : DefOk P w KK.K mg base "rank_leads" 2 1 F_rank_leads := by
  have S := sc_rank_leads
  refine ⟨f, fd, ["die"], gF, def_ok (N := ["die", "counts", "low", "high"]) (kp := (fun _ => false)) (g := b_rank_leads) F S (by decide) (fun cdv A outer s H E hr => ?_), F.kp, F.bindsN fun _ _ _ _ _ _ us hl => match us, hl with | [_], _ => rfl⟩
  have tk : Takes (cxOf (L2.CX P w) P w KK.K mg base ["die", "counts", "low", "high"] "rank_leads" (defScope st_rank_leads) f cdv A outer s H E) (WD E) := takes_of rfl rfl rfl rfl
  exact ss_cons (ss_set (fun te h => ps_set (i := 1) S.nd rfl (by first | exact .inl rfl | exact .inr rfl) h) (se_val (sc_own d_running_counts tk (hr.mono (by decide)) rfl (sar_v (se_var (pv 0)) (sar_nil)))) rfl)
      (ss_cons (ss_retF (sf_lc rfl S.nd (blkOk_by (own := [("low", 2), ("high", 3)]) (by kernel_rfl)) (si_zip rfl b.zip (sa_cons (se_var (pv 1)) (sa_cons (se_sl (se_var (pv 1)) (so_is (se_int)) (so_no)) (sa_nil)))) (fun s H C cl fp => sg_tup (is := [2, 3]) (pg_tup rfl (pgs_cons (pg_name S.nd rfl (by first | exact .inl rfl | exact .inr rfl)) (pgs_cons (pg_name S.nd rfl (by first | exact .inl rfl | exact .inr rfl)) (pgs_nil)))) (by decide)) (fun s H C cl fp => pts_nil) tt_yes (fun s H C cl fp => se_op op_sub opD_sub (se_op op_add opD_add (se_var (pv 2)) (se_var (pv 3))) (se_ixVar (fun tb h => pe_ix (ix_or ix_list ix_tup) (pv 1) h (fun _ _ => rfl)) (se_un un_neg unD_neg (se_int))))))
      (ss_nil))

/-! paired_sum -/
def b_paired_sum : FS := sSeq (sRet (eCB dSum (aCons (eFrz (fComp (gZip (aCons (eVar 0) (aCons (eVar 1) (aNil)))) (hTup [2, 3]) (tYes2) (eBin dMul (eVar 2) (eVar 3)) [2, 3])) (aNil))))
      (sNil)
def F_paired_sum : Fn := fnOf 4 2 (fun _ => false) b_paired_sum
theorem sc_paired_sum : FnScope ["row", "worths", "entry", "worth"] ["row", "worths"] (defScope st_paired_sum) := ⟨rfl, rfl, rfl, by decide +kernel, rfl, by decide +kernel, by decide +kernel⟩
theorem ok_paired_sum (b : Blt mg) {f : Addr} {fd : FuncData} (F : FnP KK.K "paired_sum" st_paired_sum f fd) (gF : mg "paired_sum" = some (.ref f)) : DefOk P w KK.K mg base "paired_sum" 1 2 F_paired_sum := by
  have S := sc_paired_sum
  refine ⟨f, fd, ["row", "worths"], gF, def_ok (N := ["row", "worths", "entry", "worth"]) (kp := (fun _ => false)) (g := b_paired_sum) F S (by decide) (fun cdv A outer s H E hr => ?_), F.kp, F.bindsN fun _ _ _ _ _ _ us hl => match us, hl with | [_, _], _ => rfl⟩
  exact ss_cons (ss_ret (se_cb caD_sum (fun ta h => pe_callB (call_sum2 rfl) rfl b.sum boot_sum h) (sa_cons (se_frz (sf_lc rfl S.nd (blkOk_by (own := [("entry", 2), ("worth", 3)]) (by kernel_rfl)) (si_zip rfl b.zip (sa_cons (se_var (pv 0)) (sa_cons (se_var (pv 1)) (sa_nil)))) (fun s H C cl fp => sg_tup (is := [2, 3]) (pg_tup rfl (pgs_cons (pg_name S.nd rfl (by first | exact .inl rfl | exact .inr rfl)) (pgs_cons (pg_name S.nd rfl (by first | exact .inl rfl | exact .inr rfl)) (pgs_nil)))) (by decide)) (fun s H C cl fp => pts_nil) tt_yes (fun s H C cl fp => se_op op_mulW opD_mul (se_var (pv 2)) (se_var (pv 3))))) (sa_nil))))
      (ss_nil)

/-! wins -/
def b_wins : FS := sSeq (sUnp (hUnp [2, 3]) (eVal (cCall F_two_dice 2 (arV (eVar 0) (arV (eVar 1) (arNil))))))
      (sSeq (sRet (eVal (cCall F_paired_sum 2 (arV (eVar 2) (arV (eVal (cCall F_running_counts 1 (arV (eVar 3) (arNil)))) (arNil))))))
      (sNil))
def F_wins : Fn := fnOf 4 2 (fun _ => false) b_wins
theorem sc_wins : FnScope ["first", "second", "one", "two"] ["first", "second"] (defScope st_wins) := ⟨rfl, rfl, rfl, by decide +kernel, rfl, by decide +kernel, by decide +kernel⟩
theorem ok_wins (d_paired_sum : DefOk P w KK.K mg base "paired_sum" 1 2 F_paired_sum) (d_running_counts : DefOk P w KK.K mg base "running_counts" 1 1 F_running_counts) (d_two_dice : DefOk P w KK.K mg base "two_dice" 4 2 F_two_dice) (b : Blt mg) {f : Addr} {fd : FuncData} (F : FnP KK.K "wins" st_wins f fd) (gF : mg "wins" = some (.ref f)) : DefOk P w KK.K mg base "wins" 5 2 F_wins := by
  have S := sc_wins
  refine ⟨f, fd, ["first", "second"], gF, def_ok (N := ["first", "second", "one", "two"]) (kp := (fun _ => false)) (g := b_wins) F S (by decide) (fun cdv A outer s H E hr => ?_), F.kp, F.bindsN fun _ _ _ _ _ _ us hl => match us, hl with | [_, _], _ => rfl⟩
  have tk : Takes (cxOf (L2.CX P w) P w KK.K mg base ["first", "second", "one", "two"] "wins" (defScope st_wins) f cdv A outer s H E) (WD E) := takes_of rfl rfl rfl rfl
  exact ss_cons (ss_unp (fun te g h k => ps_asg h k) (se_val (sc_own d_two_dice tk (hr.mono (by decide)) rfl (sar_v (se_var (pv 0)) (sar_v (se_var (pv 1)) (sar_nil))))) (sg_unp (is := [2, 3]) (pg_tup rfl (pgs_cons (pg_name S.nd rfl (by first | exact .inl rfl | exact .inr rfl)) (pgs_cons (pg_name S.nd rfl (by first | exact .inl rfl | exact .inr rfl)) (pgs_nil)))) (pg_unl rfl (pgs_cons (pg_name S.nd rfl (by first | exact .inl rfl | exact .inr rfl)) (pgs_cons (pg_name S.nd rfl (by first | exact .inl rfl | exact .inr rfl)) (pgs_nil)))) (by decide)))
      (ss_cons (ss_ret (se_val (sc_own d_paired_sum tk (hr.mono (by decide)) rfl (sar_v (se_var (pv 2)) (sar_v (se_val (sc_own d_running_counts tk (hr.mono (by decide)) rfl (sar_v (se_var (pv 3)) (sar_nil)))) (sar_nil))))))
      (ss_nil))

/-! ties -/
def b_ties : FS := sSeq (sUnp (hUnp [2, 3]) (eVal (cCall F_two_dice 2 (arV (eVar 0) (arV (eVar 1) (arNil))))))
      (sSeq (sRet (eVal (cCall F_paired_sum 2 (arV (eVar 2) (arV (eVar 3) (arNil))))))
      (sNil))
def F_ties : Fn := fnOf 4 2 (fun _ => false) b_ties
theorem sc_ties : FnScope ["first", "second", "one", "two"] ["first", "second"] (defScope st_ties) := ⟨rfl, rfl, rfl, by decide +kernel, rfl, by decide +kernel, by decide +kernel⟩
theorem ok_ties (d_paired_sum : DefOk P w KK.K mg base "paired_sum" 1 2 F_paired_sum) (d_two_dice : DefOk P w KK.K mg base "two_dice" 4 2 F_two_dice) (b : Blt mg) {f : Addr} {fd : FuncData} (F : FnP KK.K "ties" st_ties f fd) (gF : mg "ties" = some (.ref f)) : DefOk P w KK.K mg base "ties" 5 2 F_ties := by
  have S := sc_ties
  refine ⟨f, fd, ["first", "second"], gF, def_ok (N := ["first", "second", "one", "two"]) (kp := (fun _ => false)) (g := b_ties) F S (by decide) (fun cdv A outer s H E hr => ?_), F.kp, F.bindsN fun _ _ _ _ _ _ us hl => match us, hl with | [_, _], _ => rfl⟩
  have tk : Takes (cxOf (L2.CX P w) P w KK.K mg base ["first", "second", "one", "two"] "ties" (defScope st_ties) f cdv A outer s H E) (WD E) := takes_of rfl rfl rfl rfl
  exact ss_cons (ss_unp (fun te g h k => ps_asg h k) (se_val (sc_own d_two_dice tk (hr.mono (by decide)) rfl (sar_v (se_var (pv 0)) (sar_v (se_var (pv 1)) (sar_nil))))) (sg_unp (is := [2, 3]) (pg_tup rfl (pgs_cons (pg_name S.nd rfl (by first | exact .inl rfl | exact .inr rfl)) (pgs_cons (pg_name S.nd rfl (by first | exact .inl rfl | exact .inr rfl)) (pgs_nil)))) (pg_unl rfl (pgs_cons (pg_name S.nd rfl (by first | exact .inl rfl | exact .inr rfl)) (pgs_cons (pg_name S.nd rfl (by first | exact .inl rfl | exact .inr rfl)) (pgs_nil)))) (by decide)))
      (ss_cons (ss_ret (se_val (sc_own d_paired_sum tk (hr.mono (by decide)) rfl (sar_v (se_var (pv 2)) (sar_v (se_var (pv 3)) (sar_nil))))))
      (ss_nil))

/-! lead -/
def b_lead : FS := sSeq (sUnp (hUnp [2, 3]) (eVal (cCall F_two_dice 2 (arV (eVar 0) (arV (eVar 1) (arNil))))))
      (sSeq (sRet (eVal (cCall F_paired_sum 2 (arV (eVar 2) (arV (eVal (cCall F_rank_leads 1 (arV (eVar 3) (arNil)))) (arNil))))))
      (sNil))
def F_lead : Fn := fnOf 4 2 (fun _ => false) b_lead
theorem sc_lead : FnScope ["first", "second", "one", "two"] ["first", "second"] (defScope st_lead) := ⟨rfl, rfl, rfl, by decide +kernel, rfl, by decide +kernel, by decide +kernel⟩
theorem ok_lead (d_paired_sum : DefOk P w KK.K mg base "paired_sum" 1 2 F_paired_sum) (d_rank_leads : DefOk P w KK.K mg base "rank_leads" 2 1 F_rank_leads) (d_two_dice : DefOk P w KK.K mg base "two_dice" 4 2 F_two_dice) (b : Blt mg) {f : Addr} {fd : FuncData} (F : FnP KK.K "lead" st_lead f fd) (gF : mg "lead" = some (.ref f)) : DefOk P w KK.K mg base "lead" 5 2 F_lead := by
  have S := sc_lead
  refine ⟨f, fd, ["first", "second"], gF, def_ok (N := ["first", "second", "one", "two"]) (kp := (fun _ => false)) (g := b_lead) F S (by decide) (fun cdv A outer s H E hr => ?_), F.kp, F.bindsN fun _ _ _ _ _ _ us hl => match us, hl with | [_, _], _ => rfl⟩
  have tk : Takes (cxOf (L2.CX P w) P w KK.K mg base ["first", "second", "one", "two"] "lead" (defScope st_lead) f cdv A outer s H E) (WD E) := takes_of rfl rfl rfl rfl
  exact ss_cons (ss_unp (fun te g h k => ps_asg h k) (se_val (sc_own d_two_dice tk (hr.mono (by decide)) rfl (sar_v (se_var (pv 0)) (sar_v (se_var (pv 1)) (sar_nil))))) (sg_unp (is := [2, 3]) (pg_tup rfl (pgs_cons (pg_name S.nd rfl (by first | exact .inl rfl | exact .inr rfl)) (pgs_cons (pg_name S.nd rfl (by first | exact .inl rfl | exact .inr rfl)) (pgs_nil)))) (pg_unl rfl (pgs_cons (pg_name S.nd rfl (by first | exact .inl rfl | exact .inr rfl)) (pgs_cons (pg_name S.nd rfl (by first | exact .inl rfl | exact .inr rfl)) (pgs_nil)))) (by decide)))
      (ss_cons (ss_ret (se_val (sc_own d_paired_sum tk (hr.mono (by decide)) rfl (sar_v (se_var (pv 2)) (sar_v (se_val (sc_own d_rank_leads tk (hr.mono (by decide)) rfl (sar_v (se_var (pv 3)) (sar_nil)))) (sar_nil))))))
      (ss_nil))

/-! chance -/
def b_chance : FS := sSeq (sUnp (hUnp [2, 3]) (eVal (cCall F_two_dice 2 (arV (eVar 0) (arV (eVar 1) (arNil))))))
      (sSeq (sRet (eVal (cCall F_lowest 2 (arV (eVal (cCall F_paired_sum 2 (arV (eVar 2) (arV (eVal (cCall F_running_counts 1 (arV (eVar 3) (arNil)))) (arNil))))) (arV (eBin dMul (eCV dSum 2) (eCV dSum 3)) (arNil))))))
      (sNil))
def F_chance : Fn := fnOf 4 2 (fun _ => false) b_chance
theorem sc_chance : FnScope ["first", "second", "one", "two"] ["first", "second"] (defScope st_chance) := ⟨rfl, rfl, rfl, by decide +kernel, rfl, by decide +kernel, by decide +kernel⟩
theorem ok_chance (d_lowest : DefOk P w KK.K mg base "lowest" 1 2 F_lowest) (d_paired_sum : DefOk P w KK.K mg base "paired_sum" 1 2 F_paired_sum) (d_running_counts : DefOk P w KK.K mg base "running_counts" 1 1 F_running_counts) (d_two_dice : DefOk P w KK.K mg base "two_dice" 4 2 F_two_dice) (b : Blt mg) {f : Addr} {fd : FuncData} (F : FnP KK.K "chance" st_chance f fd) (gF : mg "chance" = some (.ref f)) : DefOk P w KK.K mg base "chance" 5 2 F_chance := by
  have S := sc_chance
  refine ⟨f, fd, ["first", "second"], gF, def_ok (N := ["first", "second", "one", "two"]) (kp := (fun _ => false)) (g := b_chance) F S (by decide) (fun cdv A outer s H E hr => ?_), F.kp, F.bindsN fun _ _ _ _ _ _ us hl => match us, hl with | [_, _], _ => rfl⟩
  have tk : Takes (cxOf (L2.CX P w) P w KK.K mg base ["first", "second", "one", "two"] "chance" (defScope st_chance) f cdv A outer s H E) (WD E) := takes_of rfl rfl rfl rfl
  exact ss_cons (ss_unp (fun te g h k => ps_asg h k) (se_val (sc_own d_two_dice tk (hr.mono (by decide)) rfl (sar_v (se_var (pv 0)) (sar_v (se_var (pv 1)) (sar_nil))))) (sg_unp (is := [2, 3]) (pg_tup rfl (pgs_cons (pg_name S.nd rfl (by first | exact .inl rfl | exact .inr rfl)) (pgs_cons (pg_name S.nd rfl (by first | exact .inl rfl | exact .inr rfl)) (pgs_nil)))) (pg_unl rfl (pgs_cons (pg_name S.nd rfl (by first | exact .inl rfl | exact .inr rfl)) (pgs_cons (pg_name S.nd rfl (by first | exact .inl rfl | exact .inr rfl)) (pgs_nil)))) (by decide)))
      (ss_cons (ss_ret (se_val (sc_own d_lowest tk (hr.mono (by decide)) rfl (sar_v (se_val (sc_own d_paired_sum tk (hr.mono (by decide)) rfl (sar_v (se_var (pv 2)) (sar_v (se_val (sc_own d_running_counts tk (hr.mono (by decide)) rfl (sar_v (se_var (pv 3)) (sar_nil)))) (sar_nil))))) (sar_v (se_op op_mulW opD_mul (se_cv caD_sum caV_sum (fun ta h => pe_callB (call_sum2 rfl) rfl b.sum boot_sum h) (pv 2)) (se_cv caD_sum caV_sum (fun ta h => pe_callB (call_sum2 rfl) rfl b.sum boot_sum h) (pv 3))) (sar_nil))))))
      (ss_nil))

/-! half_chance -/
def b_half_chance : FS := sSeq (sUnp (hUnp [2, 3]) (eVal (cCall F_two_dice 2 (arV (eVar 0) (arV (eVar 1) (arNil))))))
      (sSeq (sSet 4 (eBin dMul (eCV dSum 2) (eCV dSum 3)))
      (sSeq (sRet (eVal (cCall F_lowest 2 (arV (eBin dAdd (eVar 4) (eVal (cCall F_paired_sum 2 (arV (eVar 2) (arV (eVal (cCall F_rank_leads 1 (arV (eVar 3) (arNil)))) (arNil)))))) (arV (eBin dMul (eC (.int 2)) (eVar 4)) (arNil))))))
      (sNil)))
def F_half_chance : Fn := fnOf 5 2 (fun _ => false) b_half_chance
theorem sc_half_chance : FnScope ["first", "second", "one", "two", "pairs"] ["first", "second"] (defScope st_half_chance) := ⟨rfl, rfl, rfl, by decide +kernel, rfl, by decide +kernel, by decide +kernel⟩
theorem ok_half_chance (d_lowest : DefOk P w KK.K mg base "lowest" 1 2 F_lowest) (d_paired_sum : DefOk P w KK.K mg base "paired_sum" 1 2 F_paired_sum) (d_rank_leads : DefOk P w KK.K mg base "rank_leads" 2 1 F_rank_leads) (d_two_dice : DefOk P w KK.K mg base "two_dice" 4 2 F_two_dice) (b : Blt mg) {f : Addr} {fd : FuncData} (F : FnP KK.K "half_chance" st_half_chance f fd) (gF : mg "half_chance" = some (.ref f)) : DefOk P w KK.K mg base "half_chance" 5 2 F_half_chance := by
  have S := sc_half_chance
  refine ⟨f, fd, ["first", "second"], gF, def_ok (N := ["first", "second", "one", "two", "pairs"]) (kp := (fun _ => false)) (g := b_half_chance) F S (by decide) (fun cdv A outer s H E hr => ?_), F.kp, F.bindsN fun _ _ _ _ _ _ us hl => match us, hl with | [_, _], _ => rfl⟩
  have tk : Takes (cxOf (L2.CX P w) P w KK.K mg base ["first", "second", "one", "two", "pairs"] "half_chance" (defScope st_half_chance) f cdv A outer s H E) (WD E) := takes_of rfl rfl rfl rfl
  exact ss_cons (ss_unp (fun te g h k => ps_asg h k) (se_val (sc_own d_two_dice tk (hr.mono (by decide)) rfl (sar_v (se_var (pv 0)) (sar_v (se_var (pv 1)) (sar_nil))))) (sg_unp (is := [2, 3]) (pg_tup rfl (pgs_cons (pg_name S.nd rfl (by first | exact .inl rfl | exact .inr rfl)) (pgs_cons (pg_name S.nd rfl (by first | exact .inl rfl | exact .inr rfl)) (pgs_nil)))) (pg_unl rfl (pgs_cons (pg_name S.nd rfl (by first | exact .inl rfl | exact .inr rfl)) (pgs_cons (pg_name S.nd rfl (by first | exact .inl rfl | exact .inr rfl)) (pgs_nil)))) (by decide)))
      (ss_cons (ss_set (fun te h => ps_set (i := 4) S.nd rfl (by first | exact .inl rfl | exact .inr rfl) h) (se_op op_mulW opD_mul (se_cv caD_sum caV_sum (fun ta h => pe_callB (call_sum2 rfl) rfl b.sum boot_sum h) (pv 2)) (se_cv caD_sum caV_sum (fun ta h => pe_callB (call_sum2 rfl) rfl b.sum boot_sum h) (pv 3))) rfl)
      (ss_cons (ss_ret (se_val (sc_own d_lowest tk (hr.mono (by decide)) rfl (sar_v (se_op op_add opD_add (se_var (pv 4)) (se_val (sc_own d_paired_sum tk (hr.mono (by decide)) rfl (sar_v (se_var (pv 2)) (sar_v (se_val (sc_own d_rank_leads tk (hr.mono (by decide)) rfl (sar_v (se_var (pv 3)) (sar_nil)))) (sar_nil)))))) (sar_v (se_op op_mulW opD_mul (se_int) (se_var (pv 4))) (sar_nil))))))
      (ss_nil)))

/-! areas -/
def b_areas : FS := sSeq (sUnp (hUnp [2, 3]) (eVal (cCall F_two_dice 2 (arV (eVar 0) (arV (eVar 1) (arNil))))))
      (sSeq (sSet 4 (eVal (cCall F_running_counts 1 (arV (eVar 2) (arNil)))))
      (sSeq (sSet 5 (eVal (cCall F_running_counts 1 (arV (eVar 3) (arNil)))))
      (sSeq (sSetF 6 (fLst (aNil)))
      (sSeq (sFor (gRng1 (aCons (eCV dLen 2) (aNil))) (hName 7) (sSeq (sApp 6 (eBin dSub (eBin dMul (eIxVar 4 (eBin dAdd (eVar 7) (eC (.int 1)))) (eIxVar 5 (eVar 7))) (eBin dMul (eIxVar 4 (eVar 7)) (eIxVar 5 (eBin dAdd (eVar 7) (eC (.int 1)))))))
      (sNil)))
      (sSeq (sRet (eCB dTuple (aCons (eVar 6) (aNil))))
      (sNil))))))
def F_areas : Fn := fnOf 8 2 (fun _ => false) b_areas
theorem sc_areas : FnScope ["first", "second", "one", "two", "mine", "others", "found", "rank"] ["first", "second"] (defScope st_areas) := ⟨rfl, rfl, rfl, by decide +kernel, rfl, by decide +kernel, by decide +kernel⟩
theorem ok_areas (d_running_counts : DefOk P w KK.K mg base "running_counts" 1 1 F_running_counts) (d_two_dice : DefOk P w KK.K mg base "two_dice" 4 2 F_two_dice) (b : Blt mg) {f : Addr} {fd : FuncData} (F : FnP KK.K "areas" st_areas f fd) (gF : mg "areas" = some (.ref f)) : DefOk P w KK.K mg base "areas" 5 2 F_areas := by
  have S := sc_areas
  refine ⟨f, fd, ["first", "second"], gF, def_ok (N := ["first", "second", "one", "two", "mine", "others", "found", "rank"]) (kp := (fun _ => false)) (g := b_areas) F S (by decide) (fun cdv A outer s H E hr => ?_), F.kp, F.bindsN fun _ _ _ _ _ _ us hl => match us, hl with | [_, _], _ => rfl⟩
  have tk : Takes (cxOf (L2.CX P w) P w KK.K mg base ["first", "second", "one", "two", "mine", "others", "found", "rank"] "areas" (defScope st_areas) f cdv A outer s H E) (WD E) := takes_of rfl rfl rfl rfl
  exact ss_cons (ss_unp (fun te g h k => ps_asg h k) (se_val (sc_own d_two_dice tk (hr.mono (by decide)) rfl (sar_v (se_var (pv 0)) (sar_v (se_var (pv 1)) (sar_nil))))) (sg_unp (is := [2, 3]) (pg_tup rfl (pgs_cons (pg_name S.nd rfl (by first | exact .inl rfl | exact .inr rfl)) (pgs_cons (pg_name S.nd rfl (by first | exact .inl rfl | exact .inr rfl)) (pgs_nil)))) (pg_unl rfl (pgs_cons (pg_name S.nd rfl (by first | exact .inl rfl | exact .inr rfl)) (pgs_cons (pg_name S.nd rfl (by first | exact .inl rfl | exact .inr rfl)) (pgs_nil)))) (by decide)))
      (ss_cons (ss_set (fun te h => ps_set (i := 4) S.nd rfl (by first | exact .inl rfl | exact .inr rfl) h) (se_val (sc_own d_running_counts tk (hr.mono (by decide)) rfl (sar_v (se_var (pv 2)) (sar_nil)))) rfl)
      (ss_cons (ss_set (fun te h => ps_set (i := 5) S.nd rfl (by first | exact .inl rfl | exact .inr rfl) h) (se_val (sc_own d_running_counts tk (hr.mono (by decide)) rfl (sar_v (se_var (pv 3)) (sar_nil)))) rfl)
      (ss_cons (ss_setF (fun te h => ps_set (i := 6) S.nd rfl (by first | exact .inl rfl | exact .inr rfl) h) (sf_lst (sa_nil)) rfl)
      (ss_cons (ss_for (passes_of rfl) rfl (si_rng1 (fun ta h => pi_range1 rfl b.range h) (sa_cons (se_cv caD_len caV_len (fun ta h => pe_callB call_len_seq rfl b.len boot_len h) (pv 2)) (sa_nil))) (sg_name (pg_name S.nd rfl (by first | exact .inl rfl | exact .inr rfl)) rfl) (ss_cons (ss_app (fun te h => ps_expr (pe_bm PySem.F.plainAttrs_list PySem.F.slot_list_append PySem.F.type_list_append mt_append (pv 6) (pa_cons h pa_nil))) (se_op op_sub opD_sub (se_op op_mulW opD_mul (se_ixVar (fun tb h => pe_ix (ix_or ix_list ix_tup) (pv 4) h (fun _ _ => rfl)) (se_op op_add opD_add (se_var (pv 7)) (se_int))) (se_ixVar (fun tb h => pe_ix (ix_or ix_list ix_tup) (pv 5) h (fun _ _ => rfl)) (se_var (pv 7)))) (se_op op_mulW opD_mul (se_ixVar (fun tb h => pe_ix (ix_or ix_list ix_tup) (pv 4) h (fun _ _ => rfl)) (se_var (pv 7))) (se_ixVar (fun tb h => pe_ix (ix_or ix_list ix_tup) (pv 5) h (fun _ _ => rfl)) (se_op op_add opD_add (se_var (pv 7)) (se_int))))))
      (ss_nil)))
      (ss_cons (ss_ret (se_cb caD_tuple (fun ta h => pe_callTy call_tuple_of rfl b.tuple boot_tuple h) (sa_cons (se_var (pv 6)) (sa_nil))))
      (ss_nil))))))

end
end KV
set_option Elab.async false
set_option linter.all false
set_option autoImplicit false
set_option maxRecDepth 100000
set_option maxHeartbeats 4000000
namespace KV
open PySem PySem.Spec PyProof.Rows L2
variable [KK]
section
variable {P : Program} {w : World} {mg : Str → Option Value} {base : Heap}
/-! law_draws -/
def b_law_draws : FS := sSeq (sSetF 1 (fLst (aNil)))
      (sSeq (sFor (gRng1 (aCons (eCB dMin2 (aCons (eCV dLen 0) (aCons (eC (.int 63)) (aNil)))) (aNil))) (hName 2) (sSeq (sSet 3 (eCB dInt (aCons (eIxVar 0 (eVar 2)) (aNil))))
      (sSeq (sIf (tVal (eBin dLt (eVar 3) (eC (.int 0)))) (sSeq (sSet 3 (eBin dSub (eC (.int 5)) (eVar 3)))
      (sNil)) (sNil))
      (sSeq (sIf (tVal (eBin dGe (eVar 3) (eBin dPow (eC (.int 10)) (eC (.int 18))))) (sSeq (sFor (gRng1 (aCons (eC (.int 48)) (aNil))) (hName 4) (sSeq (sIf (tVal (eBin dGt (eVar 3) (eC (.int 0)))) (sSeq (sApp 1 (eBin dMod (eCB dInt (aCons (eVar 3) (aNil))) (eC (.int 30))))
      (sSeq (sSet 3 (eBin dFdiv (eVar 3) (eC (.int 30))))
      (sNil))) (sNil))
      (sNil)))
      (sNil)) (sSeq (sSet 5 (eBin dMod (eCB dInt (aCons (eBin dAdd (eBin dAdd (eBin dMul (eVar 3) (eC (.int 62089911))) (eBin dMul (eVar 2) (eC (.int 104729)))) (eC (.int 17))) (aNil))) (eC (.int 2147483629))))
      (sSeq (sFor (gRng1 (aCons (eC (.int 6)) (aNil))) (hName 4) (sSeq (sSet 5 (eBin dMod (eCB dInt (aCons (eBin dAdd (eBin dAdd (eBin dAdd (eBin dMul (eVar 5) (eVar 5)) (eBin dMul (eVar 4) (eC (.int 7919)))) (eBin dMul (eVar 2) (eC (.int 31)))) (eC (.int 3))) (aNil))) (eC (.int 2147483587))))
      (sSeq (sApp 1 (eVar 5))
      (sNil))))
      (sNil))))
      (sNil)))))
      (sSeq (sRev 1)
      (sSeq (sRetVar 1)
      (sNil))))
def F_law_draws : Fn := fnOf 6 1 (fun _ => false) b_law_draws
theorem sc_law_draws : FnScope ["_law_script", "_law_drawn", "_law_at", "_law_cell", "_law_turn", "_law_state"] ["_law_script"] (defScope st_law_draws) := ⟨rfl, rfl, rfl, by decide +kernel, rfl, by decide +kernel, by decide +kernel⟩
theorem ok_law_draws (b : Blt mg) {f : Addr} {fd : FuncData} (F : FnP KK.K "_law_draws" st_law_draws f fd) (gF : mg "_law_draws" = some (.ref f)) : DefOk P w KK.K mg base "_law_draws" 1 1 F_law_draws := by
  have S := sc_law_draws
  refine ⟨f, fd, ["_law_script"], gF, def_ok (N := ["_law_script", "_law_drawn", "_law_at", "_law_cell", "_law_turn", "_law_state"]) (kp := (fun _ => false)) (g := b_law_draws) F S (by decide) (fun cdv A outer s H E hr => ?_), F.kp, F.bindsN fun _ _ _ _ _ _ us hl => match us, hl with | [_], _ => rfl⟩
  exact ss_cons (ss_setF (fun te h => ps_set (i := 1) S.nd rfl (by first | exact .inl rfl | exact .inr rfl) h) (sf_lst (sa_nil)) rfl)
      (ss_cons (ss_for (passes_of rfl) rfl (si_rng1 (fun ta h => pi_range1 rfl b.range h) (sa_cons (se_cb caD_min2 (fun ta h => pe_callB (call_min2 rfl) rfl b.min boot_min h) (sa_cons (se_cv caD_len caV_len (fun ta h => pe_callB call_len_seq rfl b.len boot_len h) (pv 0)) (sa_cons (se_int) (sa_nil)))) (sa_nil))) (sg_name (pg_name S.nd rfl (by first | exact .inl rfl | exact .inr rfl)) rfl) (ss_cons (ss_set (fun te h => ps_set (i := 3) S.nd rfl (by first | exact .inl rfl | exact .inr rfl) h) (se_cb caD_int (fun ta h => pe_callTy call_int1 rfl b.int boot_int h) (sa_cons (se_ixVar (fun tb h => pe_ix (ix_or ix_list ix_tup) (pv 0) h (fun _ _ => rfl)) (se_var (pv 2))) (sa_nil))) rfl)
      (ss_cons (ss_if (sb_cmp op_lt opD_lt (se_var (pv 3)) (se_int) (nomark _)) (ss_cons (ss_set (fun te h => ps_set (i := 3) S.nd rfl (by first | exact .inl rfl | exact .inr rfl) h) (se_op op_sub opD_sub (se_int) (se_var (pv 3))) rfl)
      (ss_nil)) (ss_nil))
      (ss_cons (ss_if (sb_cmp op_ge opD_ge (se_var (pv 3)) (se_op op_pow opD_pow (se_int) (se_int)) (nomark _)) (ss_cons (ss_for (passes_of rfl) rfl (si_rng1 (fun ta h => pi_range1 rfl b.range h) (sa_cons (se_int) (sa_nil))) (sg_name (pg_name S.nd rfl (by first | exact .inl rfl | exact .inr rfl)) rfl) (ss_cons (ss_if (sb_cmp op_gt opD_gt (se_var (pv 3)) (se_int) (nomark _)) (ss_cons (ss_app (fun te h => ps_expr (pe_bm PySem.F.plainAttrs_list PySem.F.slot_list_append PySem.F.type_list_append mt_append (pv 1) (pa_cons h pa_nil))) (se_op op_mod opD_mod (se_cb caD_int (fun ta h => pe_callTy call_int1 rfl b.int boot_int h) (sa_cons (se_var (pv 3)) (sa_nil))) (se_int)))
      (ss_cons (ss_set (fun te h => ps_set (i := 3) S.nd rfl (by first | exact .inl rfl | exact .inr rfl) h) (se_op op_fdivZ opD_fdiv (se_var (pv 3)) (se_int)) rfl)
      (ss_nil))) (ss_nil))
      (ss_nil)))
      (ss_nil)) (ss_cons (ss_set (fun te h => ps_set (i := 5) S.nd rfl (by first | exact .inl rfl | exact .inr rfl) h) (se_op op_mod opD_mod (se_cb caD_int (fun ta h => pe_callTy call_int1 rfl b.int boot_int h) (sa_cons (se_op op_add opD_add (se_op op_add opD_add (se_op op_mulW opD_mul (se_var (pv 3)) (se_int)) (se_op op_mulW opD_mul (se_var (pv 2)) (se_int))) (se_int)) (sa_nil))) (se_int)) rfl)
      (ss_cons (ss_for (passes_of rfl) rfl (si_rng1 (fun ta h => pi_range1 rfl b.range h) (sa_cons (se_int) (sa_nil))) (sg_name (pg_name S.nd rfl (by first | exact .inl rfl | exact .inr rfl)) rfl) (ss_cons (ss_set (fun te h => ps_set (i := 5) S.nd rfl (by first | exact .inl rfl | exact .inr rfl) h) (se_op op_mod opD_mod (se_cb caD_int (fun ta h => pe_callTy call_int1 rfl b.int boot_int h) (sa_cons (se_op op_add opD_add (se_op op_add opD_add (se_op op_add opD_add (se_op op_mulW opD_mul (se_var (pv 5)) (se_var (pv 5))) (se_op op_mulW opD_mul (se_var (pv 4)) (se_int))) (se_op op_mulW opD_mul (se_var (pv 2)) (se_int))) (se_int)) (sa_nil))) (se_int)) rfl)
      (ss_cons (ss_app (fun te h => ps_expr (pe_bm PySem.F.plainAttrs_list PySem.F.slot_list_append PySem.F.type_list_append mt_append (pv 1) (pa_cons h pa_nil))) (se_var (pv 5)))
      (ss_nil))))
      (ss_nil))))
      (ss_nil)))))
      (ss_cons (ss_rev (ps_expr (pe_bm0 PySem.F.plainAttrs_list PySem.F.slot_list_reverse PySem.F.type_list_reverse mt_reverse (pv 1))))
      (ss_cons (ss_retVar (pv 1))
      (ss_nil))))

/-! law_take -/
def b_law_take : FS := sSeq (sIf (tVal (eBin dEq (eCV dLen 0) (eC (.int 0)))) (sSeq (sRet (eC (.int 0)))
      (sNil)) (sNil))
      (sSeq (sRet (eBin dMod (eCB dInt (aCons (ePop 0) (aNil))) (eVar 1)))
      (sNil))
def F_law_take : Fn := fnOf 2 2 (fun i => i == 0) b_law_take
theorem sc_law_take : FnScope ["_law_drawn", "_law_many"] ["_law_drawn", "_law_many"] (defScope st_law_take) := ⟨rfl, rfl, rfl, by decide +kernel, rfl, by decide +kernel, by decide +kernel⟩
theorem ok_law_take (b : Blt mg) {f : Addr} {fd : FuncData} (F : FnP KK.K "_law_take" st_law_take f fd) (gF : mg "_law_take" = some (.ref f)) : DefOk P w KK.K mg base "_law_take" 1 2 F_law_take := by
  have S := sc_law_take
  refine ⟨f, fd, ["_law_drawn", "_law_many"], gF, def_ok (N := ["_law_drawn", "_law_many"]) (kp := (fun i => i == 0)) (g := b_law_take) F S (by decide) (fun cdv A outer s H E hr => ?_), F.kp, F.bindsN fun _ _ _ _ _ _ us hl => match us, hl with | [_, _], _ => rfl⟩
  exact ss_cons (ss_if (sb_cmp (op_eqD hr.units) opD_eq (se_cv caD_len caV_len (fun ta h => pe_callB call_len_seq rfl b.len boot_len h) (pv 0)) (se_int) (nomark _)) (ss_cons (ss_ret (se_int))
      (ss_nil)) (ss_nil))
      (ss_cons (ss_ret (se_op op_mod opD_mod (se_cb caD_int (fun ta h => pe_callTy call_int1 rfl b.int boot_int h) (sa_cons (se_pop (pe_bm0 PySem.F.plainAttrs_list PySem.F.slot_list_pop PySem.F.type_list_pop mt_pop (pv 0))) (sa_nil))) (se_var (pv 1))))
      (ss_nil))

/-! law_int -/
def b_law_int : FS := sSeq (sRet (eAndV (eCB dIsi (aCons (eVar 0) (aCons (eC (.ty "int")) (aNil)))) (eNotV (eCB dIsi (aCons (eVar 0) (aCons (eC (.ty "bool")) (aNil)))))))
      (sNil)
def F_law_int : Fn := fnOf 1 1 (fun _ => false) b_law_int
theorem sc_law_int : FnScope ["_law_value"] ["_law_value"] (defScope st_law_int) := ⟨rfl, rfl, rfl, by decide +kernel, rfl, by decide +kernel, by decide +kernel⟩
theorem ok_law_int (b : Blt mg) {f : Addr} {fd : FuncData} (F : FnP KK.K "_law_int" st_law_int f fd) (gF : mg "_law_int" = some (.ref f)) : DefOk P w KK.K mg base "_law_int" 1 1 F_law_int := by
  have S := sc_law_int
  refine ⟨f, fd, ["_law_value"], gF, def_ok (N := ["_law_value"]) (kp := (fun _ => false)) (g := b_law_int) F S (by decide) (fun cdv A outer s H E hr => ?_), F.kp, F.bindsN fun _ _ _ _ _ _ us hl => match us, hl with | [_], _ => rfl⟩
  exact ss_cons (ss_ret (se_and (se_cb caD_isi (fun ta h => pe_callB call_isi2 rfl b.isinstance boot_isinstance h) (sa_cons (se_var (pv 0)) (sa_cons (se_ty rfl b.int boot_int) (sa_nil)))) (se_one (se_not (se_cb caD_isi (fun ta h => pe_callB call_isi2 rfl b.isinstance boot_isinstance h) (sa_cons (se_var (pv 0)) (sa_cons (se_ty rfl b.bool boot_bool) (sa_nil))))))))
      (ss_nil)

/-! law_divisor -/
def b_law_divisor : FS := sSeq (sFor (gRng1 (aCons (eC (.int 4000)) (aNil))) (hName 2) (sSeq (sIf (tVal (eBin dEq (eVar 1) (eC (.int 0)))) (sSeq (sRet (eCB dAbs (aCons (eVar 0) (aNil))))
      (sNil)) (sNil))
      (sSeq (sSet 3 (eBin dMod (eCB dInt (aCons (eVar 0) (aNil))) (eVar 1)))
      (sSeq (sSet 0 (eVar 1))
      (sSeq (sSet 1 (eVar 3))
      (sNil))))))
      (sSeq (sRet (eC (.int 1)))
      (sNil))
def F_law_divisor : Fn := fnOf 4 2 (fun _ => false) b_law_divisor
theorem sc_law_divisor : FnScope ["_law_one", "_law_other", "_law_turn", "_law_rest"] ["_law_one", "_law_other"] (defScope st_law_divisor) := ⟨rfl, rfl, rfl, by decide +kernel, rfl, by decide +kernel, by decide +kernel⟩
theorem ok_law_divisor (b : Blt mg) {f : Addr} {fd : FuncData} (F : FnP KK.K "_law_divisor" st_law_divisor f fd) (gF : mg "_law_divisor" = some (.ref f)) : DefOk P w KK.K mg base "_law_divisor" 1 2 F_law_divisor := by
  have S := sc_law_divisor
  refine ⟨f, fd, ["_law_one", "_law_other"], gF, def_ok (N := ["_law_one", "_law_other", "_law_turn", "_law_rest"]) (kp := (fun _ => false)) (g := b_law_divisor) F S (by decide) (fun cdv A outer s H E hr => ?_), F.kp, F.bindsN fun _ _ _ _ _ _ us hl => match us, hl with | [_, _], _ => rfl⟩
  exact ss_cons (ss_for (passes_of rfl) rfl (si_rng1 (fun ta h => pi_range1 rfl b.range h) (sa_cons (se_int) (sa_nil))) (sg_name (pg_name S.nd rfl (by first | exact .inl rfl | exact .inr rfl)) rfl) (ss_cons (ss_if (sb_cmp (op_eqD hr.units) opD_eq (se_var (pv 1)) (se_int) (nomark _)) (ss_cons (ss_ret (se_cb caD_abs (fun ta h => pe_callB call_abs rfl b.abs boot_abs h) (sa_cons (se_var (pv 0)) (sa_nil))))
      (ss_nil)) (ss_nil))
      (ss_cons (ss_set (fun te h => ps_set (i := 3) S.nd rfl (by first | exact .inl rfl | exact .inr rfl) h) (se_op op_mod opD_mod (se_cb caD_int (fun ta h => pe_callTy call_int1 rfl b.int boot_int h) (sa_cons (se_var (pv 0)) (sa_nil))) (se_var (pv 1))) rfl)
      (ss_cons (ss_set (fun te h => ps_set (i := 0) S.nd rfl (by first | exact .inl rfl | exact .inr rfl) h) (se_var (pv 1)) rfl)
      (ss_cons (ss_set (fun te h => ps_set (i := 1) S.nd rfl (by first | exact .inl rfl | exact .inr rfl) h) (se_var (pv 3)) rfl)
      (ss_nil))))))
      (ss_cons (ss_ret (se_int))
      (ss_nil))

/-! law_is_fraction -/
def b_law_is_fraction : FS := sSeq (sIf (tOr2 (tNot2 (tVal (eCB dIsi (aCons (eVar 0) (aCons (eC (.ty "tuple")) (aNil)))))) (tVal (eBin dNe (eCV dLen 0) (eC (.int 2))))) (sSeq (sRet (eC (.bl false)))
      (sNil)) (sNil))
      (sSeq (sIf (tOr2 (tNot2 (tVal (eVal (cCall F_law_int 1 (arV (eIxVar 0 (eC (.int 0))) (arNil)))))) (tOr2 (tNot2 (tVal (eVal (cCall F_law_int 1 (arV (eIxVar 0 (eC (.int 1))) (arNil)))))) (tVal (eBin dLt (eIxVar 0 (eC (.int 1))) (eC (.int 1)))))) (sSeq (sRet (eC (.bl false)))
      (sNil)) (sNil))
      (sSeq (sRet (eBin dEq (eVal (cCall F_law_divisor 2 (arV (eIxVar 0 (eC (.int 0))) (arV (eIxVar 0 (eC (.int 1))) (arNil))))) (eC (.int 1))))
      (sNil)))
def F_law_is_fraction : Fn := fnOf 1 1 (fun _ => false) b_law_is_fraction
theorem sc_law_is_fraction : FnScope ["_law_value"] ["_law_value"] (defScope st_law_is_fraction) := ⟨rfl, rfl, rfl, by decide +kernel, rfl, by decide +kernel, by decide +kernel⟩
theorem ok_law_is_fraction (d_law_divisor : DefOk P w KK.K mg base "_law_divisor" 1 2 F_law_divisor) (d_law_int : DefOk P w KK.K mg base "_law_int" 1 1 F_law_int) (b : Blt mg) {f : Addr} {fd : FuncData} (F : FnP KK.K "_law_is_fraction" st_law_is_fraction f fd) (gF : mg "_law_is_fraction" = some (.ref f)) : DefOk P w KK.K mg base "_law_is_fraction" 2 1 F_law_is_fraction := by
  have S := sc_law_is_fraction
  refine ⟨f, fd, ["_law_value"], gF, def_ok (N := ["_law_value"]) (kp := (fun _ => false)) (g := b_law_is_fraction) F S (by decide) (fun cdv A outer s H E hr => ?_), F.kp, F.bindsN fun _ _ _ _ _ _ us hl => match us, hl with | [_], _ => rfl⟩
  have tk : Takes (cxOf (L2.CX P w) P w KK.K mg base ["_law_value"] "_law_is_fraction" (defScope st_law_is_fraction) f cdv A outer s H E) (WD E) := takes_of rfl rfl rfl rfl
  exact ss_cons (ss_if (sb_w (sw_or (sb_not (sb_val (se_cb caD_isi (fun ta h => pe_callB call_isi2 rfl b.isinstance boot_isinstance h) (sa_cons (se_var (pv 0)) (sa_cons (se_ty rfl b.tuple boot_tuple) (sa_nil)))))) (sw_or1 (sb_cmp (op_neD hr.units) opD_ne (se_cv caD_len caV_len (fun ta h => pe_callB call_len_seq rfl b.len boot_len h) (pv 0)) (se_int) (nomark _))))) (ss_cons (ss_ret (se_bl))
      (ss_nil)) (ss_nil))
      (ss_cons (ss_if (sb_w (sw_or (sb_not (sb_val (se_val (sc_own d_law_int tk (hr.mono (by decide)) rfl (sar_v (se_ixVar (fun tb h => pe_ix (ix_or ix_list ix_tup) (pv 0) h (fun _ _ => rfl)) (se_int)) (sar_nil)))))) (sw_or (sb_not (sb_val (se_val (sc_own d_law_int tk (hr.mono (by decide)) rfl (sar_v (se_ixVar (fun tb h => pe_ix (ix_or ix_list ix_tup) (pv 0) h (fun _ _ => rfl)) (se_int)) (sar_nil)))))) (sw_or1 (sb_cmp op_lt opD_lt (se_ixVar (fun tb h => pe_ix (ix_or ix_list ix_tup) (pv 0) h (fun _ _ => rfl)) (se_int)) (se_int) (nomark _)))))) (ss_cons (ss_ret (se_bl))
      (ss_nil)) (ss_nil))
      (ss_cons (ss_ret (se_cmp (op_eqD hr.units) opD_eq (se_val (sc_own d_law_divisor tk (hr.mono (by decide)) rfl (sar_v (se_ixVar (fun tb h => pe_ix (ix_or ix_list ix_tup) (pv 0) h (fun _ _ => rfl)) (se_int)) (sar_v (se_ixVar (fun tb h => pe_ix (ix_or ix_list ix_tup) (pv 0) h (fun _ _ => rfl)) (se_int)) (sar_nil))))) (se_int) (nomark _)))
      (ss_nil)))

/-! law_same_worth -/
def b_law_same_worth : FS := sSeq (sRet (eBin dEq (eBin dMul (eIxVar 0 (eC (.int 0))) (eIxVar 1 (eC (.int 1)))) (eBin dMul (eIxVar 1 (eC (.int 0))) (eIxVar 0 (eC (.int 1))))))
      (sNil)
def F_law_same_worth : Fn := fnOf 2 2 (fun _ => false) b_law_same_worth
theorem sc_law_same_worth : FnScope ["_law_one", "_law_other"] ["_law_one", "_law_other"] (defScope st_law_same_worth) := ⟨rfl, rfl, rfl, by decide +kernel, rfl, by decide +kernel, by decide +kernel⟩
theorem ok_law_same_worth (b : Blt mg) {f : Addr} {fd : FuncData} (F : FnP KK.K "_law_same_worth" st_law_same_worth f fd) (gF : mg "_law_same_worth" = some (.ref f)) : DefOk P w KK.K mg base "_law_same_worth" 1 2 F_law_same_worth := by
  have S := sc_law_same_worth
  refine ⟨f, fd, ["_law_one", "_law_other"], gF, def_ok (N := ["_law_one", "_law_other"]) (kp := (fun _ => false)) (g := b_law_same_worth) F S (by decide) (fun cdv A outer s H E hr => ?_), F.kp, F.bindsN fun _ _ _ _ _ _ us hl => match us, hl with | [_, _], _ => rfl⟩
  exact ss_cons (ss_ret (se_cmp (op_eqD hr.units) opD_eq (se_op op_mulW opD_mul (se_ixVar (fun tb h => pe_ix (ix_or ix_list ix_tup) (pv 0) h (fun _ _ => rfl)) (se_int)) (se_ixVar (fun tb h => pe_ix (ix_or ix_list ix_tup) (pv 1) h (fun _ _ => rfl)) (se_int))) (se_op op_mulW opD_mul (se_ixVar (fun tb h => pe_ix (ix_or ix_list ix_tup) (pv 1) h (fun _ _ => rfl)) (se_int)) (se_ixVar (fun tb h => pe_ix (ix_or ix_list ix_tup) (pv 0) h (fun _ _ => rfl)) (se_int))) (nomark _)))
      (ss_nil)

/-! law_die -/
def b_law_die : FS := sSeq (sSetF 2 (fLst (aNil)))
      (sSeq (sFor (gRng1 (aCons (eVar 1) (aNil))) (hName 3) (sSeq (sApp 2 (eBin dIx (eFrz (fLst (aCons (eC (.int 1)) (aCons (eC (.int 0)) (aCons (eC (.int 2)) (aCons (eC (.int 0)) (aCons (eC (.int 1)) (aCons (eC (.int 3)) (aCons (eC (.int 0)) (aCons (eC (.int 0)) (aCons (eC (.int 1)) (aCons (eC (.int 0)) (aNil))))))))))))) (eVal (cCall F_law_take 2 (arS 0 (arV (eC (.int 10)) (arNil)))))))
      (sNil)))
      (sSeq (sIf (tVal (eBin dEq (eCV dSum 2) (eC (.int 0)))) (sSeq (sSetIx 2 (eVal (cCall F_law_take 2 (arS 0 (arV (eVar 1) (arNil))))) (eC (.int 1)))
      (sNil)) (sNil))
      (sSeq (sRetVar 2)
      (sNil))))
def F_law_die : Fn := fnOf 4 2 (fun i => i == 0) b_law_die
theorem sc_law_die : FnScope ["_law_drawn", "_law_ranks", "_law_row", "_law_rank"] ["_law_drawn", "_law_ranks"] (defScope st_law_die) := ⟨rfl, rfl, rfl, by decide +kernel, rfl, by decide +kernel, by decide +kernel⟩
theorem ok_law_die (d_law_take : DefOk P w KK.K mg base "_law_take" 1 2 F_law_take) (b : Blt mg) {f : Addr} {fd : FuncData} (F : FnP KK.K "_law_die" st_law_die f fd) (gF : mg "_law_die" = some (.ref f)) : DefOk P w KK.K mg base "_law_die" 2 2 F_law_die := by
  have S := sc_law_die
  refine ⟨f, fd, ["_law_drawn", "_law_ranks"], gF, def_ok (N := ["_law_drawn", "_law_ranks", "_law_row", "_law_rank"]) (kp := (fun i => i == 0)) (g := b_law_die) F S (by decide) (fun cdv A outer s H E hr => ?_), F.kp, F.bindsN fun _ _ _ _ _ _ us hl => match us, hl with | [_, _], _ => rfl⟩
  have tk : Takes (cxOf (L2.CX P w) P w KK.K mg base ["_law_drawn", "_law_ranks", "_law_row", "_law_rank"] "_law_die" (defScope st_law_die) f cdv A outer s H E) (WD E) := takes_of rfl rfl rfl rfl
  exact ss_cons (ss_setF (fun te h => ps_set (i := 2) S.nd rfl (by first | exact .inl rfl | exact .inr rfl) h) (sf_lst (sa_nil)) rfl)
      (ss_cons (ss_for (passes_of rfl) rfl (si_rng1 (fun ta h => pi_range1 rfl b.range h) (sa_cons (se_var (pv 1)) (sa_nil))) (sg_name (pg_name S.nd rfl (by first | exact .inl rfl | exact .inr rfl)) rfl) (ss_cons (ss_app (fun te h => ps_expr (pe_bm PySem.F.plainAttrs_list PySem.F.slot_list_append PySem.F.type_list_append mt_append (pv 2) (pa_cons h pa_nil))) (se_ix (ix_or ix_list ix_tup) opD_ix (se_frz (sf_lst (sa_cons (se_int) (sa_cons (se_int) (sa_cons (se_int) (sa_cons (se_int) (sa_cons (se_int) (sa_cons (se_int) (sa_cons (se_int) (sa_cons (se_int) (sa_cons (se_int) (sa_cons (se_int) (sa_nil))))))))))))) (se_val (sc_own d_law_take tk (hr.mono (by decide)) rfl (sar_s (pv 0) (sar_v (se_int) (sar_nil))))) (fun _ _ => rfl)))
      (ss_nil)))
      (ss_cons (ss_if (sb_cmp (op_eqD hr.units) opD_eq (se_cv caD_sum caV_sum (fun ta h => pe_callB (call_sum2 rfl) rfl b.sum boot_sum h) (pv 2)) (se_int) (nomark _)) (ss_cons (ss_setIx (fun te ti h k => ps_asg h (pg_sub (pv 2) k set_list)) (se_val (sc_own d_law_take tk (hr.mono (by decide)) rfl (sar_s (pv 0) (sar_v (se_var (pv 1)) (sar_nil))))) (se_int))
      (ss_nil)) (ss_nil))
      (ss_cons (ss_retVar (pv 2))
      (ss_nil))))

/-! law_dice -/
def b_law_dice : FS := sSeq (sSetF 3 (fLst (aNil)))
      (sSeq (sFor (gRng1 (aCons (eVar 1) (aNil))) (hName 4) (sSeq (sSet 5 (eVal (cCall F_law_take 2 (arS 0 (arV (eC (.int 9)) (arNil))))))
      (sSeq (sSetF 6 (fVal (cCall F_law_die 2 (arS 0 (arV (eVar 2) (arNil))))))
      (sSeq (sIf (tAnd2 (tVal (eBin dEq (eVar 5) (eC (.int 8)))) (tVal (eBin dGt (eVar 4) (eC (.int 0))))) (sSeq (sSetF 6 (fComp (gSeq (eIxVar 3 (eBin dSub (eVar 4) (eC (.int 1))))) (hName 7) (tYes2) (eBin dMul (eC (.int 2)) (eVar 7)) [7]))
      (sNil)) (sNil))
      (sSeq (sIf (tAnd2 (tVal (eBin dEq (eVar 5) (eC (.int 7)))) (tVal (eBin dGt (eVar 4) (eC (.int 0))))) (sSeq (sSetF 6 (fCat (eFrz (fLst (aCons (eC (.int 0)) (aNil)))) (eSl (eIxVar 3 (eBin dSub (eVar 4) (eC (.int 1)))) (oNo) (oIs (eBin dSub (eVar 2) (eC (.int 1)))))))
      (sSeq (sSetIx 6 (eBin dSub (eVar 2) (eC (.int 1))) (eBin dAdd (eIxVar 6 (eBin dSub (eVar 2) (eC (.int 1)))) (eBin dIx (eIxVar 3 (eBin dSub (eVar 4) (eC (.int 1)))) (eBin dSub (eVar 2) (eC (.int 1))))))
      (sNil))) (sNil))
      (sSeq (sIf (tVal (eBin dEq (eVar 5) (eC (.int 6)))) (sSeq (sSetF 6 (fComp (gRng1 (aCons (eVar 2) (aNil))) (hName 8) (tYes2) (eC (.int 0)) [8]))
      (sSeq (sSetIx 6 (eVal (cCall F_law_take 2 (arS 0 (arV (eVar 2) (arNil))))) (eC (.int 1)))
      (sNil))) (sNil))
      (sSeq (sApp 3 (eVar 6))
      (sNil))))))))
      (sSeq (sRetVar 3)
      (sNil)))
def F_law_dice : Fn := fnOf 9 3 (fun i => i == 0) b_law_dice
theorem sc_law_dice : FnScope ["_law_drawn", "_law_many", "_law_ranks", "_law_dice_here", "_law_number", "_law_word", "_law_row", "_law_entry", "_law_rank"] ["_law_drawn", "_law_many", "_law_ranks"] (defScope st_law_dice) := ⟨rfl, rfl, rfl, by decide +kernel, rfl, by decide +kernel, by decide +kernel⟩
theorem ok_law_dice (d_law_die : DefOk P w KK.K mg base "_law_die" 2 2 F_law_die) (d_law_take : DefOk P w KK.K mg base "_law_take" 1 2 F_law_take) (b : Blt mg) {f : Addr} {fd : FuncData} (F : FnP KK.K "_law_dice" st_law_dice f fd) (gF : mg "_law_dice" = some (.ref f)) : DefOk P w KK.K mg base "_law_dice" 3 3 F_law_dice := by
  have S := sc_law_dice
  refine ⟨f, fd, ["_law_drawn", "_law_many", "_law_ranks"], gF, def_ok (N := ["_law_drawn", "_law_many", "_law_ranks", "_law_dice_here", "_law_number", "_law_word", "_law_row", "_law_entry", "_law_rank"]) (kp := (fun i => i == 0)) (g := b_law_dice) F S (by decide) (fun cdv A outer s H E hr => ?_), F.kp, F.bindsN fun _ _ _ _ _ _ us hl => match us, hl with | [_, _, _], _ => rfl⟩
  have tk : Takes (cxOf (L2.CX P w) P w KK.K mg base ["_law_drawn", "_law_many", "_law_ranks", "_law_dice_here", "_law_number", "_law_word", "_law_row", "_law_entry", "_law_rank"] "_law_dice" (defScope st_law_dice) f cdv A outer s H E) (WD E) := takes_of rfl rfl rfl rfl
  exact ss_cons (ss_setF (fun te h => ps_set (i := 3) S.nd rfl (by first | exact .inl rfl | exact .inr rfl) h) (sf_lst (sa_nil)) rfl)
      (ss_cons (ss_for (passes_of rfl) rfl (si_rng1 (fun ta h => pi_range1 rfl b.range h) (sa_cons (se_var (pv 1)) (sa_nil))) (sg_name (pg_name S.nd rfl (by first | exact .inl rfl | exact .inr rfl)) rfl) (ss_cons (ss_set (fun te h => ps_set (i := 5) S.nd rfl (by first | exact .inl rfl | exact .inr rfl) h) (se_val (sc_own d_law_take tk (hr.mono (by decide)) rfl (sar_s (pv 0) (sar_v (se_int) (sar_nil))))) rfl)
      (ss_cons (ss_setF (fun te h => ps_set (i := 6) S.nd rfl (by first | exact .inl rfl | exact .inr rfl) h) (sf_val (sc_own d_law_die tk (hr.mono (by decide)) rfl (sar_s (pv 0) (sar_v (se_var (pv 2)) (sar_nil))))) rfl)
      (ss_cons (ss_if (sb_w (sw_and (sb_cmp (op_eqD hr.units) opD_eq (se_var (pv 5)) (se_int) (nomark _)) (sw_and1 (sb_cmp op_gt opD_gt (se_var (pv 4)) (se_int) (nomark _))))) (ss_cons (ss_setLc (i := 6) rfl S.nd rfl rfl (by exact sw_true rfl rfl rfl rfl) (blkOk_by (own := [("_law_entry", 7)]) (by kernel_rfl)) (si_seq (se_ixVar (fun tb h => pe_ix (ix_or ix_list ix_tup) (pv 3) h (fun _ _ => rfl)) (se_op op_sub opD_sub (se_var (pv 4)) (se_int)))) (fun s H C cl fp => sg_name (pg_name S.nd rfl (by first | exact .inl rfl | exact .inr rfl)) rfl) (fun s H C cl fp => pts_nil) tt_yes (fun s H C cl fp => se_op op_mulW opD_mul (se_int) (se_var (pv 7))) rfl)
      (ss_nil)) (ss_nil))
      (ss_cons (ss_if (sb_w (sw_and (sb_cmp (op_eqD hr.units) opD_eq (se_var (pv 5)) (se_int) (nomark _)) (sw_and1 (sb_cmp op_gt opD_gt (se_var (pv 4)) (se_int) (nomark _))))) (ss_cons (ss_setF (fun te h => ps_set (i := 6) S.nd rfl (by first | exact .inl rfl | exact .inr rfl) h) (sf_cat (se_frz (sf_lst (sa_cons (se_int) (sa_nil)))) (se_sl (se_ixVar (fun tb h => pe_ix (ix_or ix_list ix_tup) (pv 3) h (fun _ _ => rfl)) (se_op op_sub opD_sub (se_var (pv 4)) (se_int))) (so_no) (so_is (se_op op_sub opD_sub (se_var (pv 2)) (se_int))))) rfl)
      (ss_cons (ss_setIx (fun te ti h k => ps_asg h (pg_sub (pv 6) k set_list)) (se_op op_sub opD_sub (se_var (pv 2)) (se_int)) (se_op op_add opD_add (se_ixVar (fun tb h => pe_ix (ix_or ix_list ix_tup) (pv 6) h (fun _ _ => rfl)) (se_op op_sub opD_sub (se_var (pv 2)) (se_int))) (se_ix (ix_or ix_list ix_tup) opD_ix (se_ixVar (fun tb h => pe_ix (ix_or ix_list ix_tup) (pv 3) h (fun _ _ => rfl)) (se_op op_sub opD_sub (se_var (pv 4)) (se_int))) (se_op op_sub opD_sub (se_var (pv 2)) (se_int)) (fun _ _ => rfl))))
      (ss_nil))) (ss_nil))
      (ss_cons (ss_if (sb_cmp (op_eqD hr.units) opD_eq (se_var (pv 5)) (se_int) (nomark _)) (ss_cons (ss_setLc (i := 6) rfl S.nd rfl rfl (by exact sw_true rfl rfl rfl rfl) (blkOk_by (own := [("_law_rank", 8)]) (by kernel_rfl)) (si_rng1 (fun ta h => pi_range1 rfl b.range h) (sa_cons (se_var (pv 2)) (sa_nil))) (fun s H C cl fp => sg_name (pg_name S.nd rfl (by first | exact .inl rfl | exact .inr rfl)) rfl) (fun s H C cl fp => pts_nil) tt_yes (fun s H C cl fp => se_int) rfl)
      (ss_cons (ss_setIx (fun te ti h k => ps_asg h (pg_sub (pv 6) k set_list)) (se_val (sc_own d_law_take tk (hr.mono (by decide)) rfl (sar_s (pv 0) (sar_v (se_var (pv 2)) (sar_nil))))) (se_int))
      (ss_nil))) (ss_nil))
      (ss_cons (ss_app (fun te h => ps_expr (pe_bm PySem.F.plainAttrs_list PySem.F.slot_list_append PySem.F.type_list_append mt_append (pv 3) (pa_cons h pa_nil))) (se_var (pv 6)))
      (ss_nil))))))))
      (ss_cons (ss_retVar (pv 3))
      (ss_nil)))

/-! law_sizes -/
def b_law_sizes : FS := sSeq (sSet 1 (eBin dIx (eFrz (fLst (aCons (eC (.int 3)) (aCons (eC (.int 2)) (aCons (eC (.int 3)) (aCons (eC (.int 4)) (aCons (eC (.int 2)) (aCons (eC (.int 3)) (aCons (eC (.int 5)) (aCons (eC (.int 1)) (aCons (eC (.int 3)) (aCons (eC (.int 4)) (aNil))))))))))))) (eVal (cCall F_law_take 2 (arS 0 (arV (eC (.int 10)) (arNil)))))))
      (sSeq (sSet 2 (eBin dIx (eFrz (fLst (aCons (eC (.int 4)) (aCons (eC (.int 3)) (aCons (eC (.int 5)) (aCons (eC (.int 4)) (aCons (eC (.int 6)) (aCons (eC (.int 2)) (aCons (eC (.int 5)) (aCons (eC (.int 7)) (aCons (eC (.int 4)) (aCons (eC (.int 1)) (aNil))))))))))))) (eVal (cCall F_law_take 2 (arS 0 (arV (eC (.int 10)) (arNil)))))))
      (sSeq (sRetF (fLst (aCons (eVar 1) (aCons (eVar 2) (aNil)))))
      (sNil)))
def F_law_sizes : Fn := fnOf 3 1 (fun i => i == 0) b_law_sizes
theorem sc_law_sizes : FnScope ["_law_drawn", "_law_many", "_law_ranks"] ["_law_drawn"] (defScope st_law_sizes) := ⟨rfl, rfl, rfl, by decide +kernel, rfl, by decide +kernel, by decide +kernel⟩
theorem ok_law_sizes (d_law_take : DefOk P w KK.K mg base "_law_take" 1 2 F_law_take) (b : Blt mg) {f : Addr} {fd : FuncData} (F : FnP KK.K "_law_sizes" st_law_sizes f fd) (gF : mg "_law_sizes" = some (.ref f)) : DefOk P w KK.K mg base "_law_sizes" 2 1 F_law_sizes := by
  have S := sc_law_sizes
  refine ⟨f, fd, ["_law_drawn"], gF, def_ok (N := ["_law_drawn", "_law_many", "_law_ranks"]) (kp := (fun i => i == 0)) (g := b_law_sizes) F S (by decide) (fun cdv A outer s H E hr => ?_), F.kp, F.bindsN fun _ _ _ _ _ _ us hl => match us, hl with | [_], _ => rfl⟩
  have tk : Takes (cxOf (L2.CX P w) P w KK.K mg base ["_law_drawn", "_law_many", "_law_ranks"] "_law_sizes" (defScope st_law_sizes) f cdv A outer s H E) (WD E) := takes_of rfl rfl rfl rfl
  exact ss_cons (ss_set (fun te h => ps_set (i := 1) S.nd rfl (by first | exact .inl rfl | exact .inr rfl) h) (se_ix (ix_or ix_list ix_tup) opD_ix (se_frz (sf_lst (sa_cons (se_int) (sa_cons (se_int) (sa_cons (se_int) (sa_cons (se_int) (sa_cons (se_int) (sa_cons (se_int) (sa_cons (se_int) (sa_cons (se_int) (sa_cons (se_int) (sa_cons (se_int) (sa_nil))))))))))))) (se_val (sc_own d_law_take tk (hr.mono (by decide)) rfl (sar_s (pv 0) (sar_v (se_int) (sar_nil))))) (fun _ _ => rfl)) rfl)
      (ss_cons (ss_set (fun te h => ps_set (i := 2) S.nd rfl (by first | exact .inl rfl | exact .inr rfl) h) (se_ix (ix_or ix_list ix_tup) opD_ix (se_frz (sf_lst (sa_cons (se_int) (sa_cons (se_int) (sa_cons (se_int) (sa_cons (se_int) (sa_cons (se_int) (sa_cons (se_int) (sa_cons (se_int) (sa_cons (se_int) (sa_cons (se_int) (sa_cons (se_int) (sa_nil))))))))))))) (se_val (sc_own d_law_take tk (hr.mono (by decide)) rfl (sar_s (pv 0) (sar_v (se_int) (sar_nil))))) (fun _ _ => rfl)) rfl)
      (ss_cons (ss_retF (sf_lst (sa_cons (se_var (pv 1)) (sa_cons (se_var (pv 2)) (sa_nil)))))
      (ss_nil)))

/-! law_like -/
def b_law_like : FS := sSeq (sRet (eBin dEq (eFrz (fComp (gSeq (eVar 0)) (hName 2) (tYes2) (eBin dMul (eCV dSum 1) (eVar 2)) [2])) (eFrz (fComp (gSeq (eVar 1)) (hName 2) (tYes2) (eBin dMul (eCV dSum 0) (eVar 2)) [2]))))
      (sNil)
def F_law_like : Fn := fnOf 3 2 (fun _ => false) b_law_like
theorem sc_law_like : FnScope ["_law_one", "_law_other", "_law_entry"] ["_law_one", "_law_other"] (defScope st_law_like) := ⟨rfl, rfl, rfl, by decide +kernel, rfl, by decide +kernel, by decide +kernel⟩
theorem ok_law_like (b : Blt mg) {f : Addr} {fd : FuncData} (F : FnP KK.K "_law_like" st_law_like f fd) (gF : mg "_law_like" = some (.ref f)) : DefOk P w KK.K mg base "_law_like" 1 2 F_law_like := by
  have S := sc_law_like
  refine ⟨f, fd, ["_law_one", "_law_other"], gF, def_ok (N := ["_law_one", "_law_other", "_law_entry"]) (kp := (fun _ => false)) (g := b_law_like) F S (by decide) (fun cdv A outer s H E hr => ?_), F.kp, F.bindsN fun _ _ _ _ _ _ us hl => match us, hl with | [_, _], _ => rfl⟩
  exact ss_cons (ss_ret (se_cmp (op_eqD hr.units) opD_eq (se_frz (sf_lc rfl S.nd (blkOk_by (own := [("_law_entry", 2)]) (by kernel_rfl)) (si_seq (se_var (pv 0))) (fun s H C cl fp => sg_name (pg_name S.nd rfl (by first | exact .inl rfl | exact .inr rfl)) rfl) (fun s H C cl fp => pts_nil) tt_yes (fun s H C cl fp => se_op op_mulW opD_mul (se_cv caD_sum caV_sum (fun ta h => pe_callB (call_sum2 rfl) rfl b.sum boot_sum h) (pv 1)) (se_var (pv 2))))) (se_frz (sf_lc rfl S.nd (blkOk_by (own := [("_law_entry", 2)]) (by kernel_rfl)) (si_seq (se_var (pv 1))) (fun s H C cl fp => sg_name (pg_name S.nd rfl (by first | exact .inl rfl | exact .inr rfl)) rfl) (fun s H C cl fp => pts_nil) tt_yes (fun s H C cl fp => se_op op_mulW opD_mul (se_cv caD_sum caV_sum (fun ta h => pe_callB (call_sum2 rfl) rfl b.sum boot_sum h) (pv 0)) (se_var (pv 2))))) (nomark _)))
      (ss_nil)

/-! law_count -/
def b_law_count : FS := sSeq (sSet 2 (eC (.int 0)))
      (sSeq (sSet 3 (eC (.int 0)))
      (sSeq (sFor (gRng1 (aCons (eCV dLen 0) (aNil))) (hName 4) (sSeq (sFor (gRng1 (aCons (eCV dLen 1) (aNil))) (hName 5) (sSeq (sIf (tVal (eBin dGt (eVar 4) (eVar 5))) (sSeq (sAug 2 (fun x y => x + y) (eBin dMul (eIxVar 0 (eVar 4)) (eIxVar 1 (eVar 5))))
      (sNil)) (sNil))
      (sSeq (sIf (tVal (eBin dEq (eVar 4) (eVar 5))) (sSeq (sAug 3 (fun x y => x + y) (eBin dMul (eIxVar 0 (eVar 4)) (eIxVar 1 (eVar 5))))
      (sNil)) (sNil))
      (sNil))))
      (sNil)))
      (sSeq (sRetF (fLst (aCons (eVar 2) (aCons (eVar 3) (aCons (eBin dSub (eBin dSub (eBin dMul (eCV dSum 0) (eCV dSum 1)) (eVar 2)) (eVar 3)) (aNil))))))
      (sNil))))
def F_law_count : Fn := fnOf 6 2 (fun _ => false) b_law_count
theorem sc_law_count : FnScope ["_law_one", "_law_other", "_law_won", "_law_level", "_law_i", "_law_j"] ["_law_one", "_law_other"] (defScope st_law_count) := ⟨rfl, rfl, rfl, by decide +kernel, rfl, by decide +kernel, by decide +kernel⟩
theorem ok_law_count (b : Blt mg) {f : Addr} {fd : FuncData} (F : FnP KK.K "_law_count" st_law_count f fd) (gF : mg "_law_count" = some (.ref f)) : DefOk P w KK.K mg base "_law_count" 1 2 F_law_count := by
  have S := sc_law_count
  refine ⟨f, fd, ["_law_one", "_law_other"], gF, def_ok (N := ["_law_one", "_law_other", "_law_won", "_law_level", "_law_i", "_law_j"]) (kp := (fun _ => false)) (g := b_law_count) F S (by decide) (fun cdv A outer s H E hr => ?_), F.kp, F.bindsN fun _ _ _ _ _ _ us hl => match us, hl with | [_, _], _ => rfl⟩
  exact ss_cons (ss_set (fun te h => ps_set (i := 2) S.nd rfl (by first | exact .inl rfl | exact .inr rfl) h) (se_int) rfl)
      (ss_cons (ss_set (fun te h => ps_set (i := 3) S.nd rfl (by first | exact .inl rfl | exact .inr rfl) h) (se_int) rfl)
      (ss_cons (ss_for (passes_of rfl) rfl (si_rng1 (fun ta h => pi_range1 rfl b.range h) (sa_cons (se_cv caD_len caV_len (fun ta h => pe_callB call_len_seq rfl b.len boot_len h) (pv 0)) (sa_nil))) (sg_name (pg_name S.nd rfl (by first | exact .inl rfl | exact .inr rfl)) rfl) (ss_cons (ss_for (passes_of rfl) rfl (si_rng1 (fun ta h => pi_range1 rfl b.range h) (sa_cons (se_cv caD_len caV_len (fun ta h => pe_callB call_len_seq rfl b.len boot_len h) (pv 1)) (sa_nil))) (sg_name (pg_name S.nd rfl (by first | exact .inl rfl | exact .inr rfl)) rfl) (ss_cons (ss_if (sb_cmp op_gt opD_gt (se_var (pv 4)) (se_var (pv 5)) (nomark _)) (ss_cons (ss_aug (fun te h => ps_aug (i := 2) S.nd rfl (by first | exact .inl rfl | exact .inr rfl) h ip_add) (se_op op_mulW opD_mul (se_ixVar (fun tb h => pe_ix (ix_or ix_list ix_tup) (pv 0) h (fun _ _ => rfl)) (se_var (pv 4))) (se_ixVar (fun tb h => pe_ix (ix_or ix_list ix_tup) (pv 1) h (fun _ _ => rfl)) (se_var (pv 5)))) rfl)
      (ss_nil)) (ss_nil))
      (ss_cons (ss_if (sb_cmp (op_eqD hr.units) opD_eq (se_var (pv 4)) (se_var (pv 5)) (nomark _)) (ss_cons (ss_aug (fun te h => ps_aug (i := 3) S.nd rfl (by first | exact .inl rfl | exact .inr rfl) h ip_add) (se_op op_mulW opD_mul (se_ixVar (fun tb h => pe_ix (ix_or ix_list ix_tup) (pv 0) h (fun _ _ => rfl)) (se_var (pv 4))) (se_ixVar (fun tb h => pe_ix (ix_or ix_list ix_tup) (pv 1) h (fun _ _ => rfl)) (se_var (pv 5)))) rfl)
      (ss_nil)) (ss_nil))
      (ss_nil))))
      (ss_nil)))
      (ss_cons (ss_retF (sf_lst (sa_cons (se_var (pv 2)) (sa_cons (se_var (pv 3)) (sa_cons (se_op op_sub opD_sub (se_op op_sub opD_sub (se_op op_mulW opD_mul (se_cv caD_sum caV_sum (fun ta h => pe_callB (call_sum2 rfl) rfl b.sum boot_sum h) (pv 0)) (se_cv caD_sum caV_sum (fun ta h => pe_callB (call_sum2 rfl) rfl b.sum boot_sum h) (pv 1))) (se_var (pv 2))) (se_var (pv 3))) (sa_nil))))))
      (ss_nil))))

/-! law_areas_hold -/
def b_law_areas_hold : FS := sSeq (sSet 2 (eVal (cCall F_areas 2 (arV (eVar 0) (arV (eVar 1) (arNil))))))
      (sSeq (sSet 3 (eVal (cCall F_belows 1 (arV (eVar 0) (arNil)))))
      (sSeq (sIf (tOr2 (tNot2 (tVal (eCB dIsi (aCons (eVar 2) (aCons (eC (.ty "tuple")) (aNil)))))) (tVal (eBin dNe (eCV dLen 2) (eCV dLen 0)))) (sSeq (sRet (eC (.bl false)))
      (sNil)) (sNil))
      (sSeq (sIf (tOr2 (tNot2 (tVal (eCB dIsi (aCons (eVar 3) (aCons (eC (.ty "tuple")) (aNil)))))) (tOr2 (tVal (eBin dNe (eCV dLen 3) (eBin dAdd (eCV dLen 0) (eC (.int 1))))) (tVal (eBin dNe (eIxVar 3 (eCV dLen 0)) (eCV dSum 0))))) (sSeq (sRet (eC (.bl false)))
      (sNil)) (sNil))
      (sSeq (sFor (gRng1 (aCons (eCV dLen 0) (aNil))) (hName 4) (sSeq (sIf (tOr2 (tNot2 (tVal (eVal (cCall F_law_int 1 (arV (eIxVar 2 (eVar 4)) (arNil)))))) (tNot2 (tVal (eVal (cCall F_law_int 1 (arV (eIxVar 3 (eVar 4)) (arNil))))))) (sSeq (sRet (eC (.bl false)))
      (sNil)) (sNil))
      (sSeq (sSet 5 (eBin dSub (eBin dMul (eCB dSum (aCons (eSl (eVar 0) (oNo) (oIs (eBin dAdd (eVar 4) (eC (.int 1))))) (aNil))) (eCB dSum (aCons (eSl (eVar 1) (oNo) (oIs (eVar 4))) (aNil)))) (eBin dMul (eCB dSum (aCons (eSl (eVar 0) (oNo) (oIs (eVar 4))) (aNil))) (eCB dSum (aCons (eSl (eVar 1) (oNo) (oIs (eBin dAdd (eVar 4) (eC (.int 1))))) (aNil))))))
      (sSeq (sIf (tOr2 (tVal (eBin dNe (eIxVar 2 (eVar 4)) (eVar 5))) (tVal (eBin dNe (eIxVar 3 (eVar 4)) (eCB dSum (aCons (eSl (eVar 0) (oNo) (oIs (eVar 4))) (aNil)))))) (sSeq (sRet (eC (.bl false)))
      (sNil)) (sNil))
      (sNil)))))
      (sSeq (sRet (eBin dEq (eCV dSum 2) (eVal (cCall F_lead 2 (arV (eVar 0) (arV (eVar 1) (arNil)))))))
      (sNil))))))
def F_law_areas_hold : Fn := fnOf 6 2 (fun _ => false) b_law_areas_hold
theorem sc_law_areas_hold : FnScope ["_law_one", "_law_other", "_law_told_here", "_law_mine", "_law_j", "_law_due"] ["_law_one", "_law_other"] (defScope st_law_areas_hold) := ⟨rfl, rfl, rfl, by decide +kernel, rfl, by decide +kernel, by decide +kernel⟩
theorem ok_law_areas_hold (d_law_int : DefOk P w KK.K mg base "_law_int" 1 1 F_law_int) (d_areas : DefOk P w KK.K mg base "areas" 5 2 F_areas) (d_belows : DefOk P w KK.K mg base "belows" 4 1 F_belows) (d_lead : DefOk P w KK.K mg base "lead" 5 2 F_lead) (b : Blt mg) {f : Addr} {fd : FuncData} (F : FnP KK.K "_law_areas_hold" st_law_areas_hold f fd) (gF : mg "_law_areas_hold" = some (.ref f)) : DefOk P w KK.K mg base "_law_areas_hold" 6 2 F_law_areas_hold := by
  have S := sc_law_areas_hold
  refine ⟨f, fd, ["_law_one", "_law_other"], gF, def_ok (N := ["_law_one", "_law_other", "_law_told_here", "_law_mine", "_law_j", "_law_due"]) (kp := (fun _ => false)) (g := b_law_areas_hold) F S (by decide) (fun cdv A outer s H E hr => ?_), F.kp, F.bindsN fun _ _ _ _ _ _ us hl => match us, hl with | [_, _], _ => rfl⟩
  have tk : Takes (cxOf (L2.CX P w) P w KK.K mg base ["_law_one", "_law_other", "_law_told_here", "_law_mine", "_law_j", "_law_due"] "_law_areas_hold" (defScope st_law_areas_hold) f cdv A outer s H E) (WD E) := takes_of rfl rfl rfl rfl
  exact ss_cons (ss_set (fun te h => ps_set (i := 2) S.nd rfl (by first | exact .inl rfl | exact .inr rfl) h) (se_val (sc_own d_areas tk (hr.mono (by decide)) rfl (sar_v (se_var (pv 0)) (sar_v (se_var (pv 1)) (sar_nil))))) rfl)
      (ss_cons (ss_set (fun te h => ps_set (i := 3) S.nd rfl (by first | exact .inl rfl | exact .inr rfl) h) (se_val (sc_own d_belows tk (hr.mono (by decide)) rfl (sar_v (se_var (pv 0)) (sar_nil)))) rfl)
      (ss_cons (ss_if (sb_w (sw_or (sb_not (sb_val (se_cb caD_isi (fun ta h => pe_callB call_isi2 rfl b.isinstance boot_isinstance h) (sa_cons (se_var (pv 2)) (sa_cons (se_ty rfl b.tuple boot_tuple) (sa_nil)))))) (sw_or1 (sb_cmp (op_neD hr.units) opD_ne (se_cv caD_len caV_len (fun ta h => pe_callB call_len_seq rfl b.len boot_len h) (pv 2)) (se_cv caD_len caV_len (fun ta h => pe_callB call_len_seq rfl b.len boot_len h) (pv 0)) (nomark _))))) (ss_cons (ss_ret (se_bl))
      (ss_nil)) (ss_nil))
      (ss_cons (ss_if (sb_w (sw_or (sb_not (sb_val (se_cb caD_isi (fun ta h => pe_callB call_isi2 rfl b.isinstance boot_isinstance h) (sa_cons (se_var (pv 3)) (sa_cons (se_ty rfl b.tuple boot_tuple) (sa_nil)))))) (sw_or (sb_cmp (op_neD hr.units) opD_ne (se_cv caD_len caV_len (fun ta h => pe_callB call_len_seq rfl b.len boot_len h) (pv 3)) (se_op op_add opD_add (se_cv caD_len caV_len (fun ta h => pe_callB call_len_seq rfl b.len boot_len h) (pv 0)) (se_int)) (nomark _)) (sw_or1 (sb_cmp (op_neD hr.units) opD_ne (se_ixVar (fun tb h => pe_ix (ix_or ix_list ix_tup) (pv 3) h (fun _ _ => rfl)) (se_cv caD_len caV_len (fun ta h => pe_callB call_len_seq rfl b.len boot_len h) (pv 0))) (se_cv caD_sum caV_sum (fun ta h => pe_callB (call_sum2 rfl) rfl b.sum boot_sum h) (pv 0)) (nomark _)))))) (ss_cons (ss_ret (se_bl))
      (ss_nil)) (ss_nil))
      (ss_cons (ss_for (passes_of rfl) rfl (si_rng1 (fun ta h => pi_range1 rfl b.range h) (sa_cons (se_cv caD_len caV_len (fun ta h => pe_callB call_len_seq rfl b.len boot_len h) (pv 0)) (sa_nil))) (sg_name (pg_name S.nd rfl (by first | exact .inl rfl | exact .inr rfl)) rfl) (ss_cons (ss_if (sb_w (sw_or (sb_not (sb_val (se_val (sc_own d_law_int tk (hr.mono (by decide)) rfl (sar_v (se_ixVar (fun tb h => pe_ix (ix_or ix_list ix_tup) (pv 2) h (fun _ _ => rfl)) (se_var (pv 4))) (sar_nil)))))) (sw_or1 (sb_not (sb_val (se_val (sc_own d_law_int tk (hr.mono (by decide)) rfl (sar_v (se_ixVar (fun tb h => pe_ix (ix_or ix_list ix_tup) (pv 3) h (fun _ _ => rfl)) (se_var (pv 4))) (sar_nil))))))))) (ss_cons (ss_ret (se_bl))
      (ss_nil)) (ss_nil))
      (ss_cons (ss_set (fun te h => ps_set (i := 5) S.nd rfl (by first | exact .inl rfl | exact .inr rfl) h) (se_op op_sub opD_sub (se_op op_mulW opD_mul (se_cb caD_sum (fun ta h => pe_callB (call_sum2 rfl) rfl b.sum boot_sum h) (sa_cons (se_sl (se_var (pv 0)) (so_no) (so_is (se_op op_add opD_add (se_var (pv 4)) (se_int)))) (sa_nil))) (se_cb caD_sum (fun ta h => pe_callB (call_sum2 rfl) rfl b.sum boot_sum h) (sa_cons (se_sl (se_var (pv 1)) (so_no) (so_is (se_var (pv 4)))) (sa_nil)))) (se_op op_mulW opD_mul (se_cb caD_sum (fun ta h => pe_callB (call_sum2 rfl) rfl b.sum boot_sum h) (sa_cons (se_sl (se_var (pv 0)) (so_no) (so_is (se_var (pv 4)))) (sa_nil))) (se_cb caD_sum (fun ta h => pe_callB (call_sum2 rfl) rfl b.sum boot_sum h) (sa_cons (se_sl (se_var (pv 1)) (so_no) (so_is (se_op op_add opD_add (se_var (pv 4)) (se_int)))) (sa_nil))))) rfl)
      (ss_cons (ss_if (sb_w (sw_or (sb_cmp (op_neD hr.units) opD_ne (se_ixVar (fun tb h => pe_ix (ix_or ix_list ix_tup) (pv 2) h (fun _ _ => rfl)) (se_var (pv 4))) (se_var (pv 5)) (nomark _)) (sw_or1 (sb_cmp (op_neD hr.units) opD_ne (se_ixVar (fun tb h => pe_ix (ix_or ix_list ix_tup) (pv 3) h (fun _ _ => rfl)) (se_var (pv 4))) (se_cb caD_sum (fun ta h => pe_callB (call_sum2 rfl) rfl b.sum boot_sum h) (sa_cons (se_sl (se_var (pv 0)) (so_no) (so_is (se_var (pv 4)))) (sa_nil))) (nomark _))))) (ss_cons (ss_ret (se_bl))
      (ss_nil)) (ss_nil))
      (ss_nil)))))
      (ss_cons (ss_ret (se_cmp (op_eqD hr.units) opD_eq (se_cv caD_sum caV_sum (fun ta h => pe_callB (call_sum2 rfl) rfl b.sum boot_sum h) (pv 2)) (se_val (sc_own d_lead tk (hr.mono (by decide)) rfl (sar_v (se_var (pv 0)) (sar_v (se_var (pv 1)) (sar_nil))))) (nomark _)))
      (ss_nil))))))

/-! law_throws_hold -/
def b_law_throws_hold : FS := sSeq (sSet 2 (eVal (cCall F_law_count 2 (arV (eVar 0) (arV (eVar 1) (arNil))))))
      (sSeq (sSetF 3 (fLst (aCons (eVal (cCall F_wins 2 (arV (eVar 0) (arV (eVar 1) (arNil))))) (aCons (eVal (cCall F_ties 2 (arV (eVar 0) (arV (eVar 1) (arNil))))) (aCons (eVal (cCall F_lead 2 (arV (eVar 0) (arV (eVar 1) (arNil))))) (aNil))))))
      (sSeq (sFor (gSeq (eVar 3)) (hName 4) (sSeq (sIf (tNot2 (tVal (eVal (cCall F_law_int 1 (arV (eVar 4) (arNil)))))) (sSeq (sRet (eC (.bl false)))
      (sNil)) (sNil))
      (sNil)))
      (sSeq (sIf (tVal (eBin dNe (eVar 3) (eFrz (fLst (aCons (eIxVar 2 (eC (.int 0))) (aCons (eIxVar 2 (eC (.int 1))) (aCons (eBin dSub (eIxVar 2 (eC (.int 0))) (eIxVar 2 (eC (.int 2)))) (aNil)))))))) (sSeq (sRet (eC (.bl false)))
      (sNil)) (sNil))
      (sSeq (sRet (eAndV (eBin dEq (eVal (cCall F_lead 2 (arV (eVar 1) (arV (eVar 0) (arNil))))) (eBin dSub (eIxVar 2 (eC (.int 2))) (eIxVar 2 (eC (.int 0))))) (eBin dEq (eVal (cCall F_wins 2 (arV (eVar 1) (arV (eVar 0) (arNil))))) (eIxVar 2 (eC (.int 2))))))
      (sNil)))))
def F_law_throws_hold : Fn := fnOf 5 2 (fun _ => false) b_law_throws_hold
theorem sc_law_throws_hold : FnScope ["_law_one", "_law_other", "_law_count_here", "_law_back", "_law_value"] ["_law_one", "_law_other"] (defScope st_law_throws_hold) := ⟨rfl, rfl, rfl, by decide +kernel, rfl, by decide +kernel, by decide +kernel⟩
theorem ok_law_throws_hold (d_law_count : DefOk P w KK.K mg base "_law_count" 1 2 F_law_count) (d_law_int : DefOk P w KK.K mg base "_law_int" 1 1 F_law_int) (d_lead : DefOk P w KK.K mg base "lead" 5 2 F_lead) (d_ties : DefOk P w KK.K mg base "ties" 5 2 F_ties) (d_wins : DefOk P w KK.K mg base "wins" 5 2 F_wins) (b : Blt mg) {f : Addr} {fd : FuncData} (F : FnP KK.K "_law_throws_hold" st_law_throws_hold f fd) (gF : mg "_law_throws_hold" = some (.ref f)) : DefOk P w KK.K mg base "_law_throws_hold" 6 2 F_law_throws_hold := by
  have S := sc_law_throws_hold
  refine ⟨f, fd, ["_law_one", "_law_other"], gF, def_ok (N := ["_law_one", "_law_other", "_law_count_here", "_law_back", "_law_value"]) (kp := (fun _ => false)) (g := b_law_throws_hold) F S (by decide) (fun cdv A outer s H E hr => ?_), F.kp, F.bindsN fun _ _ _ _ _ _ us hl => match us, hl with | [_, _], _ => rfl⟩
  have tk : Takes (cxOf (L2.CX P w) P w KK.K mg base ["_law_one", "_law_other", "_law_count_here", "_law_back", "_law_value"] "_law_throws_hold" (defScope st_law_throws_hold) f cdv A outer s H E) (WD E) := takes_of rfl rfl rfl rfl
  exact ss_cons (ss_set (fun te h => ps_set (i := 2) S.nd rfl (by first | exact .inl rfl | exact .inr rfl) h) (se_val (sc_own d_law_count tk (hr.mono (by decide)) rfl (sar_v (se_var (pv 0)) (sar_v (se_var (pv 1)) (sar_nil))))) rfl)
      (ss_cons (ss_setF (fun te h => ps_set (i := 3) S.nd rfl (by first | exact .inl rfl | exact .inr rfl) h) (sf_lst (sa_cons (se_val (sc_own d_wins tk (hr.mono (by decide)) rfl (sar_v (se_var (pv 0)) (sar_v (se_var (pv 1)) (sar_nil))))) (sa_cons (se_val (sc_own d_ties tk (hr.mono (by decide)) rfl (sar_v (se_var (pv 0)) (sar_v (se_var (pv 1)) (sar_nil))))) (sa_cons (se_val (sc_own d_lead tk (hr.mono (by decide)) rfl (sar_v (se_var (pv 0)) (sar_v (se_var (pv 1)) (sar_nil))))) (sa_nil))))) rfl)
      (ss_cons (ss_for (passes_of rfl) rfl (si_seq (se_var (pv 3))) (sg_name (pg_name S.nd rfl (by first | exact .inl rfl | exact .inr rfl)) rfl) (ss_cons (ss_if (sb_not (sb_val (se_val (sc_own d_law_int tk (hr.mono (by decide)) rfl (sar_v (se_var (pv 4)) (sar_nil)))))) (ss_cons (ss_ret (se_bl))
      (ss_nil)) (ss_nil))
      (ss_nil)))
      (ss_cons (ss_if (sb_cmp (op_neD hr.units) opD_ne (se_var (pv 3)) (se_frz (sf_lst (sa_cons (se_ixVar (fun tb h => pe_ix (ix_or ix_list ix_tup) (pv 2) h (fun _ _ => rfl)) (se_int)) (sa_cons (se_ixVar (fun tb h => pe_ix (ix_or ix_list ix_tup) (pv 2) h (fun _ _ => rfl)) (se_int)) (sa_cons (se_op op_sub opD_sub (se_ixVar (fun tb h => pe_ix (ix_or ix_list ix_tup) (pv 2) h (fun _ _ => rfl)) (se_int)) (se_ixVar (fun tb h => pe_ix (ix_or ix_list ix_tup) (pv 2) h (fun _ _ => rfl)) (se_int))) (sa_nil)))))) (nomark _)) (ss_cons (ss_ret (se_bl))
      (ss_nil)) (ss_nil))
      (ss_cons (ss_ret (se_and (se_cmp (op_eqD hr.units) opD_eq (se_val (sc_own d_lead tk (hr.mono (by decide)) rfl (sar_v (se_var (pv 1)) (sar_v (se_var (pv 0)) (sar_nil))))) (se_op op_sub opD_sub (se_ixVar (fun tb h => pe_ix (ix_or ix_list ix_tup) (pv 2) h (fun _ _ => rfl)) (se_int)) (se_ixVar (fun tb h => pe_ix (ix_or ix_list ix_tup) (pv 2) h (fun _ _ => rfl)) (se_int))) (nomark _)) (se_one (se_cmp (op_eqD hr.units) opD_eq (se_val (sc_own d_wins tk (hr.mono (by decide)) rfl (sar_v (se_var (pv 1)) (sar_v (se_var (pv 0)) (sar_nil))))) (se_ixVar (fun tb h => pe_ix (ix_or ix_list ix_tup) (pv 2) h (fun _ _ => rfl)) (se_int)) (nomark _)))))
      (ss_nil)))))

/-! law_fractions_hold -/
def b_law_fractions_hold : FS := sSeq (sSet 2 (eVal (cCall F_law_count 2 (arV (eVar 0) (arV (eVar 1) (arNil))))))
      (sSeq (sSet 3 (eBin dMul (eCV dSum 0) (eCV dSum 1)))
      (sSeq (sSet 4 (eVal (cCall F_chance 2 (arV (eVar 0) (arV (eVar 1) (arNil))))))
      (sSeq (sSet 5 (eVal (cCall F_half_chance 2 (arV (eVar 0) (arV (eVar 1) (arNil))))))
      (sSeq (sSet 6 (eVal (cCall F_taken_off 2 (arV (eVar 5) (arV (eVar 4) (arNil))))))
      (sSeq (sSet 7 (eVal (cCall F_added 2 (arV (eVar 4) (arV (eVal (cCall F_chance 2 (arV (eVar 1) (arV (eVar 0) (arNil))))) (arNil))))))
      (sSeq (sFor (gSeq (eFrz (fLst (aCons (eVar 4) (aCons (eVar 5) (aCons (eVar 6) (aCons (eVar 7) (aNil)))))))) (hName 8) (sSeq (sIf (tNot2 (tVal (eVal (cCall F_law_is_fraction 1 (arV (eVar 8) (arNil)))))) (sSeq (sRet (eC (.bl false)))
      (sNil)) (sNil))
      (sNil)))
      (sSeq (sIf (tOr2 (tNot2 (tVal (eVal (cCall F_law_same_worth 2 (arV (eVar 4) (arV (eTup (aCons (eIxVar 2 (eC (.int 0))) (aCons (eVar 3) (aNil)))) (arNil))))))) (tNot2 (tVal (eVal (cCall F_law_same_worth 2 (arV (eVar 6) (arV (eTup (aCons (eIxVar 2 (eC (.int 1))) (aCons (eBin dMul (eC (.int 2)) (eVar 3)) (aNil)))) (arNil)))))))) (sSeq (sRet (eC (.bl false)))
      (sNil)) (sNil))
      (sSeq (sIf (tOr2 (tVal (eBin dNe (eVal (cCall F_added 2 (arV (eVar 5) (arV (eVal (cCall F_half_chance 2 (arV (eVar 1) (arV (eVar 0) (arNil))))) (arNil))))) (eTup (aCons (eC (.int 1)) (aCons (eC (.int 1)) (aNil)))))) (tVal (eBin dNe (eBin dEq (eVar 7) (eTup (aCons (eC (.int 1)) (aCons (eC (.int 1)) (aNil))))) (eBin dEq (eIxVar 2 (eC (.int 1))) (eC (.int 0)))))) (sSeq (sRet (eC (.bl false)))
      (sNil)) (sNil))
      (sSeq (sIf (tOr2 (tVal (eBin dNe (eVal (cCall F_multiplied 2 (arV (eVar 6) (arV (eBin dMul (eC (.int 2)) (eVar 3)) (arNil))))) (eTup (aCons (eIxVar 2 (eC (.int 1))) (aCons (eC (.int 1)) (aNil)))))) (tVal (eBin dNe (eVal (cCall F_divided 2 (arV (eFrz (fLst (aCons (eIxVar 2 (eC (.int 1))) (aCons (eVar 3) (aNil))))) (arV (eC (.int 2)) (arNil))))) (eVar 6)))) (sSeq (sRet (eC (.bl false)))
      (sNil)) (sNil))
      (sSeq (sIf (tVal (eBin dNe (eVal (cCall F_divided 2 (arV (eIxVar 2 (eC (.int 0))) (arV (eBin dSub (eC (.int 0)) (eVar 3)) (arNil))))) (eTup (aCons (eBin dSub (eC (.int 0)) (eIxVar 4 (eC (.int 0)))) (aCons (eIxVar 4 (eC (.int 1))) (aNil)))))) (sSeq (sRet (eC (.bl false)))
      (sNil)) (sNil))
      (sSeq (sSet 9 (eVal (cCall F_is_less 2 (arV (eTup (aCons (eC (.int 1)) (aCons (eC (.int 2)) (aNil)))) (arV (eVar 5) (arNil))))))
      (sSeq (sSet 10 (eVal (cCall F_is_equal 2 (arV (eFrz (fLst (aCons (eC (.int 2)) (aCons (eC (.int 4)) (aNil))))) (arV (eVar 5) (arNil))))))
      (sSeq (sIf (tOr2 (tNot2 (tVal (eCB dIsi (aCons (eVar 9) (aCons (eC (.ty "bool")) (aNil)))))) (tNot2 (tVal (eCB dIsi (aCons (eVar 10) (aCons (eC (.ty "bool")) (aNil))))))) (sSeq (sRet (eC (.bl false)))
      (sNil)) (sNil))
      (sSeq (sRet (eAndV (eBin dEq (eVar 9) (eBin dGt (eIxVar 2 (eC (.int 0))) (eIxVar 2 (eC (.int 2))))) (eBin dEq (eVar 10) (eBin dEq (eIxVar 2 (eC (.int 0))) (eIxVar 2 (eC (.int 2)))))))
      (sNil)))))))))))))))
def F_law_fractions_hold : Fn := fnOf 11 2 (fun _ => false) b_law_fractions_hold
theorem sc_law_fractions_hold : FnScope ["_law_one", "_law_other", "_law_count_here", "_law_whole", "_law_part", "_law_half", "_law_rest", "_law_both", "_law_value", "_law_ahead", "_law_level"] ["_law_one", "_law_other"] (defScope st_law_fractions_hold) := ⟨rfl, rfl, rfl, by decide +kernel, rfl, by decide +kernel, by decide +kernel⟩
theorem ok_law_fractions_hold (d_law_count : DefOk P w KK.K mg base "_law_count" 1 2 F_law_count) (d_law_is_fraction : DefOk P w KK.K mg base "_law_is_fraction" 2 1 F_law_is_fraction) (d_law_same_worth : DefOk P w KK.K mg base "_law_same_worth" 1 2 F_law_same_worth) (d_added : DefOk P w KK.K mg base "added" 5 2 F_added) (d_chance : DefOk P w KK.K mg base "chance" 5 2 F_chance) (d_divided : DefOk P w KK.K mg base "divided" 5 2 F_divided) (d_half_chance : DefOk P w KK.K mg base "half_chance" 5 2 F_half_chance) (d_is_equal : DefOk P w KK.K mg base "is_equal" 4 2 F_is_equal) (d_is_less : DefOk P w KK.K mg base "is_less" 5 2 F_is_less) (d_multiplied : DefOk P w KK.K mg base "multiplied" 5 2 F_multiplied) (d_taken_off : DefOk P w KK.K mg base "taken_off" 5 2 F_taken_off) (b : Blt mg) {f : Addr} {fd : FuncData} (F : FnP KK.K "_law_fractions_hold" st_law_fractions_hold f fd) (gF : mg "_law_fractions_hold" = some (.ref f)) : DefOk P w KK.K mg base "_law_fractions_hold" 6 2 F_law_fractions_hold := by
  have S := sc_law_fractions_hold
  refine ⟨f, fd, ["_law_one", "_law_other"], gF, def_ok (N := ["_law_one", "_law_other", "_law_count_here", "_law_whole", "_law_part", "_law_half", "_law_rest", "_law_both", "_law_value", "_law_ahead", "_law_level"]) (kp := (fun _ => false)) (g := b_law_fractions_hold) F S (by decide) (fun cdv A outer s H E hr => ?_), F.kp, F.bindsN fun _ _ _ _ _ _ us hl => match us, hl with | [_, _], _ => rfl⟩
  have tk : Takes (cxOf (L2.CX P w) P w KK.K mg base ["_law_one", "_law_other", "_law_count_here", "_law_whole", "_law_part", "_law_half", "_law_rest", "_law_both", "_law_value", "_law_ahead", "_law_level"] "_law_fractions_hold" (defScope st_law_fractions_hold) f cdv A outer s H E) (WD E) := takes_of rfl rfl rfl rfl
  exact ss_cons (ss_set (fun te h => ps_set (i := 2) S.nd rfl (by first | exact .inl rfl | exact .inr rfl) h) (se_val (sc_own d_law_count tk (hr.mono (by decide)) rfl (sar_v (se_var (pv 0)) (sar_v (se_var (pv 1)) (sar_nil))))) rfl)
      (ss_cons (ss_set (fun te h => ps_set (i := 3) S.nd rfl (by first | exact .inl rfl | exact .inr rfl) h) (se_op op_mulW opD_mul (se_cv caD_sum caV_sum (fun ta h => pe_callB (call_sum2 rfl) rfl b.sum boot_sum h) (pv 0)) (se_cv caD_sum caV_sum (fun ta h => pe_callB (call_sum2 rfl) rfl b.sum boot_sum h) (pv 1))) rfl)
      (ss_cons (ss_set (fun te h => ps_set (i := 4) S.nd rfl (by first | exact .inl rfl | exact .inr rfl) h) (se_val (sc_own d_chance tk (hr.mono (by decide)) rfl (sar_v (se_var (pv 0)) (sar_v (se_var (pv 1)) (sar_nil))))) rfl)
      (ss_cons (ss_set (fun te h => ps_set (i := 5) S.nd rfl (by first | exact .inl rfl | exact .inr rfl) h) (se_val (sc_own d_half_chance tk (hr.mono (by decide)) rfl (sar_v (se_var (pv 0)) (sar_v (se_var (pv 1)) (sar_nil))))) rfl)
      (ss_cons (ss_set (fun te h => ps_set (i := 6) S.nd rfl (by first | exact .inl rfl | exact .inr rfl) h) (se_val (sc_own d_taken_off tk (hr.mono (by decide)) rfl (sar_v (se_var (pv 5)) (sar_v (se_var (pv 4)) (sar_nil))))) rfl)
      (ss_cons (ss_set (fun te h => ps_set (i := 7) S.nd rfl (by first | exact .inl rfl | exact .inr rfl) h) (se_val (sc_own d_added tk (hr.mono (by decide)) rfl (sar_v (se_var (pv 4)) (sar_v (se_val (sc_own d_chance tk (hr.mono (by decide)) rfl (sar_v (se_var (pv 1)) (sar_v (se_var (pv 0)) (sar_nil))))) (sar_nil))))) rfl)
      (ss_cons (ss_for (passes_of rfl) rfl (si_seq (se_frz (sf_lst (sa_cons (se_var (pv 4)) (sa_cons (se_var (pv 5)) (sa_cons (se_var (pv 6)) (sa_cons (se_var (pv 7)) (sa_nil)))))))) (sg_name (pg_name S.nd rfl (by first | exact .inl rfl | exact .inr rfl)) rfl) (ss_cons (ss_if (sb_not (sb_val (se_val (sc_own d_law_is_fraction tk (hr.mono (by decide)) rfl (sar_v (se_var (pv 8)) (sar_nil)))))) (ss_cons (ss_ret (se_bl))
      (ss_nil)) (ss_nil))
      (ss_nil)))
      (ss_cons (ss_if (sb_w (sw_or (sb_not (sb_val (se_val (sc_own d_law_same_worth tk (hr.mono (by decide)) rfl (sar_v (se_var (pv 4)) (sar_v (se_tup (sa_cons (se_ixVar (fun tb h => pe_ix (ix_or ix_list ix_tup) (pv 2) h (fun _ _ => rfl)) (se_int)) (sa_cons (se_var (pv 3)) (sa_nil)))) (sar_nil))))))) (sw_or1 (sb_not (sb_val (se_val (sc_own d_law_same_worth tk (hr.mono (by decide)) rfl (sar_v (se_var (pv 6)) (sar_v (se_tup (sa_cons (se_ixVar (fun tb h => pe_ix (ix_or ix_list ix_tup) (pv 2) h (fun _ _ => rfl)) (se_int)) (sa_cons (se_op op_mulW opD_mul (se_int) (se_var (pv 3))) (sa_nil)))) (sar_nil)))))))))) (ss_cons (ss_ret (se_bl))
      (ss_nil)) (ss_nil))
      (ss_cons (ss_if (sb_w (sw_or (sb_cmp (op_neD hr.units) opD_ne (se_val (sc_own d_added tk (hr.mono (by decide)) rfl (sar_v (se_var (pv 5)) (sar_v (se_val (sc_own d_half_chance tk (hr.mono (by decide)) rfl (sar_v (se_var (pv 1)) (sar_v (se_var (pv 0)) (sar_nil))))) (sar_nil))))) (se_tup (sa_cons (se_int) (sa_cons (se_int) (sa_nil)))) (nomark _)) (sw_or1 (sb_cmp (op_neD hr.units) opD_ne (se_cmp (op_eqD hr.units) opD_eq (se_var (pv 7)) (se_tup (sa_cons (se_int) (sa_cons (se_int) (sa_nil)))) (nomark _)) (se_cmp (op_eqD hr.units) opD_eq (se_ixVar (fun tb h => pe_ix (ix_or ix_list ix_tup) (pv 2) h (fun _ _ => rfl)) (se_int)) (se_int) (nomark _)) (nomark _))))) (ss_cons (ss_ret (se_bl))
      (ss_nil)) (ss_nil))
      (ss_cons (ss_if (sb_w (sw_or (sb_cmp (op_neD hr.units) opD_ne (se_val (sc_own d_multiplied tk (hr.mono (by decide)) rfl (sar_v (se_var (pv 6)) (sar_v (se_op op_mulW opD_mul (se_int) (se_var (pv 3))) (sar_nil))))) (se_tup (sa_cons (se_ixVar (fun tb h => pe_ix (ix_or ix_list ix_tup) (pv 2) h (fun _ _ => rfl)) (se_int)) (sa_cons (se_int) (sa_nil)))) (nomark _)) (sw_or1 (sb_cmp (op_neD hr.units) opD_ne (se_val (sc_own d_divided tk (hr.mono (by decide)) rfl (sar_v (se_frz (sf_lst (sa_cons (se_ixVar (fun tb h => pe_ix (ix_or ix_list ix_tup) (pv 2) h (fun _ _ => rfl)) (se_int)) (sa_cons (se_var (pv 3)) (sa_nil))))) (sar_v (se_int) (sar_nil))))) (se_var (pv 6)) (nomark _))))) (ss_cons (ss_ret (se_bl))
      (ss_nil)) (ss_nil))
      (ss_cons (ss_if (sb_cmp (op_neD hr.units) opD_ne (se_val (sc_own d_divided tk (hr.mono (by decide)) rfl (sar_v (se_ixVar (fun tb h => pe_ix (ix_or ix_list ix_tup) (pv 2) h (fun _ _ => rfl)) (se_int)) (sar_v (se_op op_sub opD_sub (se_int) (se_var (pv 3))) (sar_nil))))) (se_tup (sa_cons (se_op op_sub opD_sub (se_int) (se_ixVar (fun tb h => pe_ix (ix_or ix_list ix_tup) (pv 4) h (fun _ _ => rfl)) (se_int))) (sa_cons (se_ixVar (fun tb h => pe_ix (ix_or ix_list ix_tup) (pv 4) h (fun _ _ => rfl)) (se_int)) (sa_nil)))) (nomark _)) (ss_cons (ss_ret (se_bl))
      (ss_nil)) (ss_nil))
      (ss_cons (ss_set (fun te h => ps_set (i := 9) S.nd rfl (by first | exact .inl rfl | exact .inr rfl) h) (se_val (sc_own d_is_less tk (hr.mono (by decide)) rfl (sar_v (se_tup (sa_cons (se_int) (sa_cons (se_int) (sa_nil)))) (sar_v (se_var (pv 5)) (sar_nil))))) rfl)
      (ss_cons (ss_set (fun te h => ps_set (i := 10) S.nd rfl (by first | exact .inl rfl | exact .inr rfl) h) (se_val (sc_own d_is_equal tk (hr.mono (by decide)) rfl (sar_v (se_frz (sf_lst (sa_cons (se_int) (sa_cons (se_int) (sa_nil))))) (sar_v (se_var (pv 5)) (sar_nil))))) rfl)
      (ss_cons (ss_if (sb_w (sw_or (sb_not (sb_val (se_cb caD_isi (fun ta h => pe_callB call_isi2 rfl b.isinstance boot_isinstance h) (sa_cons (se_var (pv 9)) (sa_cons (se_ty rfl b.bool boot_bool) (sa_nil)))))) (sw_or1 (sb_not (sb_val (se_cb caD_isi (fun ta h => pe_callB call_isi2 rfl b.isinstance boot_isinstance h) (sa_cons (se_var (pv 10)) (sa_cons (se_ty rfl b.bool boot_bool) (sa_nil))))))))) (ss_cons (ss_ret (se_bl))
      (ss_nil)) (ss_nil))
      (ss_cons (ss_ret (se_and (se_cmp (op_eqD hr.units) opD_eq (se_var (pv 9)) (se_cmp op_gt opD_gt (se_ixVar (fun tb h => pe_ix (ix_or ix_list ix_tup) (pv 2) h (fun _ _ => rfl)) (se_int)) (se_ixVar (fun tb h => pe_ix (ix_or ix_list ix_tup) (pv 2) h (fun _ _ => rfl)) (se_int)) (nomark _)) (nomark _)) (se_one (se_cmp (op_eqD hr.units) opD_eq (se_var (pv 10)) (se_cmp (op_eqD hr.units) opD_eq (se_ixVar (fun tb h => pe_ix (ix_or ix_list ix_tup) (pv 2) h (fun _ _ => rfl)) (se_int)) (se_ixVar (fun tb h => pe_ix (ix_or ix_list ix_tup) (pv 2) h (fun _ _ => rfl)) (se_int)) (nomark _)) (nomark _)))))
      (ss_nil)))))))))))))))

end
end KV
set_option Elab.async false
set_option linter.all false
set_option autoImplicit false
set_option maxRecDepth 100000
set_option maxHeartbeats 4000000
namespace KV
open PySem PySem.Spec PyProof.Rows L2
variable [KK]
section
variable {P : Program} {w : World} {mg : Str → Option Value} {base : Heap}
/-! law_moved_holds -/
def b_law_moved_holds : FS := sSeq (sSetF 3 (fComp (gRng1 (aCons (eBin dSub (eCV dLen 1) (eC (.int 1))) (aNil))) (hName 4) (tVal (eBin dGt (eIxVar 1 (eVar 4)) (eC (.int 0)))) (eVar 4) [4]))
      (sSeq (sIf (tVal (eBin dEq (eCV dLen 3) (eC (.int 0)))) (sSeq (sRet (eC (.bl true)))
      (sNil)) (sNil))
      (sSeq (sSet 4 (eIxVar 3 (eVal (cCall F_law_take 2 (arS 0 (arV (eCV dLen 3) (arNil)))))))
      (sSeq (sSetF 5 (fCB dList (aCons (eVar 1) (aNil))))
      (sSeq (sSetIx 5 (eVar 4) (eBin dSub (eIxVar 5 (eVar 4)) (eC (.int 1))))
      (sSeq (sSetIx 5 (eBin dAdd (eVar 4) (eC (.int 1))) (eBin dAdd (eIxVar 5 (eBin dAdd (eVar 4) (eC (.int 1)))) (eC (.int 1))))
      (sSeq (sRet (eBin dEq (eBin dSub (eVal (cCall F_lead 2 (arV (eVar 5) (arV (eVar 2) (arNil))))) (eVal (cCall F_lead 2 (arV (eVar 1) (arV (eVar 2) (arNil)))))) (eBin dAdd (eIxVar 2 (eVar 4)) (eIxVar 2 (eBin dAdd (eVar 4) (eC (.int 1)))))))
      (sNil)))))))
def F_law_moved_holds : Fn := fnOf 6 3 (fun i => i == 0) b_law_moved_holds
theorem sc_law_moved_holds : FnScope ["_law_drawn", "_law_one", "_law_other", "_law_held", "_law_rank", "_law_moved"] ["_law_drawn", "_law_one", "_law_other"] (defScope st_law_moved_holds) := ⟨rfl, rfl, rfl, by decide +kernel, rfl, by decide +kernel, by decide +kernel⟩
theorem ok_law_moved_holds (d_law_take : DefOk P w KK.K mg base "_law_take" 1 2 F_law_take) (d_lead : DefOk P w KK.K mg base "lead" 5 2 F_lead) (b : Blt mg) {f : Addr} {fd : FuncData} (F : FnP KK.K "_law_moved_holds" st_law_moved_holds f fd) (gF : mg "_law_moved_holds" = some (.ref f)) : DefOk P w KK.K mg base "_law_moved_holds" 6 3 F_law_moved_holds := by
  have S := sc_law_moved_holds
  refine ⟨f, fd, ["_law_drawn", "_law_one", "_law_other"], gF, def_ok (N := ["_law_drawn", "_law_one", "_law_other", "_law_held", "_law_rank", "_law_moved"]) (kp := (fun i => i == 0)) (g := b_law_moved_holds) F S (by decide) (fun cdv A outer s H E hr => ?_), F.kp, F.bindsN fun _ _ _ _ _ _ us hl => match us, hl with | [_, _, _], _ => rfl⟩
  have tk : Takes (cxOf (L2.CX P w) P w KK.K mg base ["_law_drawn", "_law_one", "_law_other", "_law_held", "_law_rank", "_law_moved"] "_law_moved_holds" (defScope st_law_moved_holds) f cdv A outer s H E) (WD E) := takes_of rfl rfl rfl rfl
  exact ss_cons (ss_setLc (i := 3) rfl S.nd rfl rfl (by exact sw_true rfl rfl rfl rfl) (blkOk_by (own := [("_law_rank", 4)]) (by kernel_rfl)) (si_rng1 (fun ta h => pi_range1 rfl b.range h) (sa_cons (se_op op_sub opD_sub (se_cv caD_len caV_len (fun ta h => pe_callB call_len_seq rfl b.len boot_len h) (pv 1)) (se_int)) (sa_nil))) (fun s H C cl fp => sg_name (pg_name S.nd rfl (by first | exact .inl rfl | exact .inr rfl)) rfl) (fun s H C cl fp => pts_one (pt_A s H C cl fp)) (tt_one fun s H C cl fp => sb_cmp op_gt opD_gt (se_ixVar (fun tb h => pe_ix (ix_or ix_list ix_tup) (pv 1) h (fun _ _ => rfl)) (se_var (pv 4))) (se_int) (nomark _)) (fun s H C cl fp => se_var (pv 4)) rfl)
      (ss_cons (ss_if (sb_cmp (op_eqD hr.units) opD_eq (se_cv caD_len caV_len (fun ta h => pe_callB call_len_seq rfl b.len boot_len h) (pv 3)) (se_int) (nomark _)) (ss_cons (ss_ret (se_bl))
      (ss_nil)) (ss_nil))
      (ss_cons (ss_set (fun te h => ps_set (i := 4) S.nd rfl (by first | exact .inl rfl | exact .inr rfl) h) (se_ixVar (fun tb h => pe_ix (ix_or ix_list ix_tup) (pv 3) h (fun _ _ => rfl)) (se_val (sc_own d_law_take tk (hr.mono (by decide)) rfl (sar_s (pv 0) (sar_v (se_cv caD_len caV_len (fun ta h => pe_callB call_len_seq rfl b.len boot_len h) (pv 3)) (sar_nil)))))) rfl)
      (ss_cons (ss_setF (fun te h => ps_set (i := 5) S.nd rfl (by first | exact .inl rfl | exact .inr rfl) h) (sf_cb caF_list (fun ta h => pe_callTy call_list_of rfl b.list boot_list h) (sa_cons (se_var (pv 1)) (sa_nil))) rfl)
      (ss_cons (ss_setIx (fun te ti h k => ps_asg h (pg_sub (pv 5) k set_list)) (se_var (pv 4)) (se_op op_sub opD_sub (se_ixVar (fun tb h => pe_ix (ix_or ix_list ix_tup) (pv 5) h (fun _ _ => rfl)) (se_var (pv 4))) (se_int)))
      (ss_cons (ss_setIx (fun te ti h k => ps_asg h (pg_sub (pv 5) k set_list)) (se_op op_add opD_add (se_var (pv 4)) (se_int)) (se_op op_add opD_add (se_ixVar (fun tb h => pe_ix (ix_or ix_list ix_tup) (pv 5) h (fun _ _ => rfl)) (se_op op_add opD_add (se_var (pv 4)) (se_int))) (se_int)))
      (ss_cons (ss_ret (se_cmp (op_eqD hr.units) opD_eq (se_op op_sub opD_sub (se_val (sc_own d_lead tk (hr.mono (by decide)) rfl (sar_v (se_var (pv 5)) (sar_v (se_var (pv 2)) (sar_nil))))) (se_val (sc_own d_lead tk (hr.mono (by decide)) rfl (sar_v (se_var (pv 1)) (sar_v (se_var (pv 2)) (sar_nil)))))) (se_op op_add opD_add (se_ixVar (fun tb h => pe_ix (ix_or ix_list ix_tup) (pv 2) h (fun _ _ => rfl)) (se_var (pv 4))) (se_ixVar (fun tb h => pe_ix (ix_or ix_list ix_tup) (pv 2) h (fun _ _ => rfl)) (se_op op_add opD_add (se_var (pv 4)) (se_int)))) (nomark _)))
      (ss_nil)))))))

/-! law_single_holds -/
def b_law_single_holds : FS := sSeq (sSet 2 (eCV dLen 1))
      (sSeq (sSet 3 (eVal (cCall F_law_take 2 (arS 0 (arV (eVar 2) (arNil))))))
      (sSeq (sSet 4 (eBin dAdd (eC (.int 1)) (eVal (cCall F_law_take 2 (arS 0 (arV (eC (.int 5)) (arNil)))))))
      (sSeq (sSet 5 (eVal (cCall F_one_faced 3 (arV (eVar 2) (arV (eVar 3) (arV (eVar 4) (arNil)))))))
      (sSeq (sIf (tOr2 (tNot2 (tVal (eCB dIsi (aCons (eVar 5) (aCons (eC (.ty "tuple")) (aNil)))))) (tVal (eBin dNe (eFrz (fCB dList (aCons (eVar 5) (aNil)))) (eFrz (fComp (gRng1 (aCons (eVar 2) (aNil))) (hName 8) (tYes2) (eBin dMul (eVar 4) (eCB dInt (aCons (eBin dEq (eVar 8) (eVar 3)) (aNil)))) [8]))))) (sSeq (sRet (eC (.bl false)))
      (sNil)) (sNil))
      (sSeq (sSet 6 (eVal (cCall F_law_take 2 (arS 0 (arV (eBin dAdd (eVar 2) (eC (.int 1))) (arNil))))))
      (sSeq (sSet 7 (eVal (cCall F_below 2 (arV (eVar 1) (arV (eVar 6) (arNil))))))
      (sSeq (sIf (tOr2 (tNot2 (tVal (eVal (cCall F_law_int 1 (arV (eVar 7) (arNil)))))) (tVal (eBin dNe (eVar 7) (eCB dSum (aCons (eSl (eVar 1) (oNo) (oIs (eVar 6))) (aNil)))))) (sSeq (sRet (eC (.bl false)))
      (sNil)) (sNil))
      (sSeq (sRet (eBin dEq (eVal (cCall F_lead 2 (arV (eVar 1) (arV (eVar 5) (arNil))))) (eBin dMul (eVar 4) (eBin dSub (eBin dSub (eCV dSum 1) (eVal (cCall F_below 2 (arV (eVar 1) (arV (eVar 3) (arNil)))))) (eVal (cCall F_below 2 (arV (eVar 1) (arV (eBin dAdd (eVar 3) (eC (.int 1))) (arNil)))))))))
      (sNil)))))))))
def F_law_single_holds : Fn := fnOf 9 2 (fun i => i == 0) b_law_single_holds
theorem sc_law_single_holds : FnScope ["_law_drawn", "_law_one", "_law_ranks", "_law_rank", "_law_count_here", "_law_made", "_law_gap", "_law_under", "_law_j"] ["_law_drawn", "_law_one"] (defScope st_law_single_holds) := ⟨rfl, rfl, rfl, by decide +kernel, rfl, by decide +kernel, by decide +kernel⟩
theorem ok_law_single_holds (d_law_int : DefOk P w KK.K mg base "_law_int" 1 1 F_law_int) (d_law_take : DefOk P w KK.K mg base "_law_take" 1 2 F_law_take) (d_below : DefOk P w KK.K mg base "below" 4 2 F_below) (d_lead : DefOk P w KK.K mg base "lead" 5 2 F_lead) (d_one_faced : DefOk P w KK.K mg base "one_faced" 4 3 F_one_faced) (b : Blt mg) {f : Addr} {fd : FuncData} (F : FnP KK.K "_law_single_holds" st_law_single_holds f fd) (gF : mg "_law_single_holds" = some (.ref f)) : DefOk P w KK.K mg base "_law_single_holds" 6 2 F_law_single_holds := by
  have S := sc_law_single_holds
  refine ⟨f, fd, ["_law_drawn", "_law_one"], gF, def_ok (N := ["_law_drawn", "_law_one", "_law_ranks", "_law_rank", "_law_count_here", "_law_made", "_law_gap", "_law_under", "_law_j"]) (kp := (fun i => i == 0)) (g := b_law_single_holds) F S (by decide) (fun cdv A outer s H E hr => ?_), F.kp, F.bindsN fun _ _ _ _ _ _ us hl => match us, hl with | [_, _], _ => rfl⟩
  have tk : Takes (cxOf (L2.CX P w) P w KK.K mg base ["_law_drawn", "_law_one", "_law_ranks", "_law_rank", "_law_count_here", "_law_made", "_law_gap", "_law_under", "_law_j"] "_law_single_holds" (defScope st_law_single_holds) f cdv A outer s H E) (WD E) := takes_of rfl rfl rfl rfl
  exact ss_cons (ss_set (fun te h => ps_set (i := 2) S.nd rfl (by first | exact .inl rfl | exact .inr rfl) h) (se_cv caD_len caV_len (fun ta h => pe_callB call_len_seq rfl b.len boot_len h) (pv 1)) rfl)
      (ss_cons (ss_set (fun te h => ps_set (i := 3) S.nd rfl (by first | exact .inl rfl | exact .inr rfl) h) (se_val (sc_own d_law_take tk (hr.mono (by decide)) rfl (sar_s (pv 0) (sar_v (se_var (pv 2)) (sar_nil))))) rfl)
      (ss_cons (ss_set (fun te h => ps_set (i := 4) S.nd rfl (by first | exact .inl rfl | exact .inr rfl) h) (se_op op_add opD_add (se_int) (se_val (sc_own d_law_take tk (hr.mono (by decide)) rfl (sar_s (pv 0) (sar_v (se_int) (sar_nil)))))) rfl)
      (ss_cons (ss_set (fun te h => ps_set (i := 5) S.nd rfl (by first | exact .inl rfl | exact .inr rfl) h) (se_val (sc_own d_one_faced tk (hr.mono (by decide)) rfl (sar_v (se_var (pv 2)) (sar_v (se_var (pv 3)) (sar_v (se_var (pv 4)) (sar_nil)))))) rfl)
      (ss_cons (ss_if (sb_w (sw_or (sb_not (sb_val (se_cb caD_isi (fun ta h => pe_callB call_isi2 rfl b.isinstance boot_isinstance h) (sa_cons (se_var (pv 5)) (sa_cons (se_ty rfl b.tuple boot_tuple) (sa_nil)))))) (sw_or1 (sb_cmp (op_neD hr.units) opD_ne (se_frz (sf_cb caF_list (fun ta h => pe_callTy call_list_of rfl b.list boot_list h) (sa_cons (se_var (pv 5)) (sa_nil)))) (se_frz (sf_lc rfl S.nd (blkOk_by (own := [("_law_j", 8)]) (by kernel_rfl)) (si_rng1 (fun ta h => pi_range1 rfl b.range h) (sa_cons (se_var (pv 2)) (sa_nil))) (fun s H C cl fp => sg_name (pg_name S.nd rfl (by first | exact .inl rfl | exact .inr rfl)) rfl) (fun s H C cl fp => pts_nil) tt_yes (fun s H C cl fp => se_op op_mulW opD_mul (se_var (pv 4)) (se_cb caD_int (fun ta h => pe_callTy call_int1 rfl b.int boot_int h) (sa_cons (se_cmp (op_eqD hr.units) opD_eq (se_var (pv 8)) (se_var (pv 3)) (nomark _)) (sa_nil)))))) (nomark _))))) (ss_cons (ss_ret (se_bl))
      (ss_nil)) (ss_nil))
      (ss_cons (ss_set (fun te h => ps_set (i := 6) S.nd rfl (by first | exact .inl rfl | exact .inr rfl) h) (se_val (sc_own d_law_take tk (hr.mono (by decide)) rfl (sar_s (pv 0) (sar_v (se_op op_add opD_add (se_var (pv 2)) (se_int)) (sar_nil))))) rfl)
      (ss_cons (ss_set (fun te h => ps_set (i := 7) S.nd rfl (by first | exact .inl rfl | exact .inr rfl) h) (se_val (sc_own d_below tk (hr.mono (by decide)) rfl (sar_v (se_var (pv 1)) (sar_v (se_var (pv 6)) (sar_nil))))) rfl)
      (ss_cons (ss_if (sb_w (sw_or (sb_not (sb_val (se_val (sc_own d_law_int tk (hr.mono (by decide)) rfl (sar_v (se_var (pv 7)) (sar_nil)))))) (sw_or1 (sb_cmp (op_neD hr.units) opD_ne (se_var (pv 7)) (se_cb caD_sum (fun ta h => pe_callB (call_sum2 rfl) rfl b.sum boot_sum h) (sa_cons (se_sl (se_var (pv 1)) (so_no) (so_is (se_var (pv 6)))) (sa_nil))) (nomark _))))) (ss_cons (ss_ret (se_bl))
      (ss_nil)) (ss_nil))
      (ss_cons (ss_ret (se_cmp (op_eqD hr.units) opD_eq (se_val (sc_own d_lead tk (hr.mono (by decide)) rfl (sar_v (se_var (pv 1)) (sar_v (se_var (pv 5)) (sar_nil))))) (se_op op_mulW opD_mul (se_var (pv 4)) (se_op op_sub opD_sub (se_op op_sub opD_sub (se_cv caD_sum caV_sum (fun ta h => pe_callB (call_sum2 rfl) rfl b.sum boot_sum h) (pv 1)) (se_val (sc_own d_below tk (hr.mono (by decide)) rfl (sar_v (se_var (pv 1)) (sar_v (se_var (pv 3)) (sar_nil)))))) (se_val (sc_own d_below tk (hr.mono (by decide)) rfl (sar_v (se_var (pv 1)) (sar_v (se_op op_add opD_add (se_var (pv 3)) (se_int)) (sar_nil))))))) (nomark _)))
      (ss_nil)))))))))

/-! law_like_holds -/
def b_law_like_holds : FS := sSeq (sSet 3 (eBin dAdd (eC (.int 1)) (eVal (cCall F_law_take 2 (arS 0 (arV (eC (.int 5)) (arNil)))))))
      (sSeq (sSet 4 (eBin dAdd (eC (.int 1)) (eVal (cCall F_law_take 2 (arS 0 (arV (eC (.int 4)) (arNil)))))))
      (sSeq (sSetF 5 (fComp (gSeq (eVar 1)) (hName 9) (tYes2) (eBin dMul (eVar 3) (eVar 9)) [9]))
      (sSeq (sSetF 6 (fComp (gSeq (eVar 2)) (hName 9) (tYes2) (eBin dMul (eVar 4) (eVar 9)) [9]))
      (sSeq (sSet 7 (eVal (cCall F_is_like 2 (arV (eVar 1) (arV (eVar 2) (arNil))))))
      (sSeq (sIf (tOr2 (tNot2 (tVal (eCB dIsi (aCons (eVar 7) (aCons (eC (.ty "bool")) (aNil)))))) (tOr2 (tVal (eBin dNe (eVar 7) (eVal (cCall F_law_like 2 (arV (eVar 1) (arV (eVar 2) (arNil))))))) (tVal (eBin dNotB (eVal (cCall F_is_like 2 (arV (eVar 5) (arV (eVar 1) (arNil))))) (eC (.bl true)))))) (sSeq (sRet (eC (.bl false)))
      (sNil)) (sNil))
      (sSeq (sIf (tOr2 (tVal (eBin dNe (eVal (cCall F_lead 2 (arV (eVar 1) (arV (eVar 5) (arNil))))) (eC (.int 0)))) (tVal (eBin dNe (eVal (cCall F_lead 2 (arV (eVar 5) (arV (eVar 6) (arNil))))) (eBin dMul (eBin dMul (eVar 3) (eVar 4)) (eVal (cCall F_lead 2 (arV (eVar 1) (arV (eVar 2) (arNil))))))))) (sSeq (sRet (eC (.bl false)))
      (sNil)) (sNil))
      (sSeq (sSet 8 (eC (.int 0)))
      (sSeq (sFor (gSeq (eVar 5)) (hName 9) (sSeq (sSet 8 (eVal (cCall F_law_divisor 2 (arV (eVar 8) (arV (eVar 9) (arNil))))))
      (sNil)))
      (sSeq (sSet 10 (eVal (cCall F_short_die 1 (arV (eVar 5) (arNil)))))
      (sSeq (sRet (eAndV (eCB dIsi (aCons (eVar 10) (aCons (eC (.ty "tuple")) (aNil)))) (eBin dEq (eFrz (fComp (gSeq (eVar 10)) (hName 9) (tYes2) (eBin dMul (eVar 8) (eVar 9)) [9])) (eVar 5))))
      (sNil)))))))))))
def F_law_like_holds : Fn := fnOf 11 3 (fun i => i == 0) b_law_like_holds
theorem sc_law_like_holds : FnScope ["_law_drawn", "_law_one", "_law_other", "_law_by", "_law_times", "_law_great", "_law_wide", "_law_like_here", "_law_common", "_law_entry", "_law_short"] ["_law_drawn", "_law_one", "_law_other"] (defScope st_law_like_holds) := ⟨rfl, rfl, rfl, by decide +kernel, rfl, by decide +kernel, by decide +kernel⟩
theorem ok_law_like_holds (d_law_divisor : DefOk P w KK.K mg base "_law_divisor" 1 2 F_law_divisor) (d_law_like : DefOk P w KK.K mg base "_law_like" 1 2 F_law_like) (d_law_take : DefOk P w KK.K mg base "_law_take" 1 2 F_law_take) (d_is_like : DefOk P w KK.K mg base "is_like" 5 2 F_is_like) (d_lead : DefOk P w KK.K mg base "lead" 5 2 F_lead) (d_short_die : DefOk P w KK.K mg base "short_die" 4 1 F_short_die) (b : Blt mg) {f : Addr} {fd : FuncData} (F : FnP KK.K "_law_like_holds" st_law_like_holds f fd) (gF : mg "_law_like_holds" = some (.ref f)) : DefOk P w KK.K mg base "_law_like_holds" 6 3 F_law_like_holds := by
  have S := sc_law_like_holds
  refine ⟨f, fd, ["_law_drawn", "_law_one", "_law_other"], gF, def_ok (N := ["_law_drawn", "_law_one", "_law_other", "_law_by", "_law_times", "_law_great", "_law_wide", "_law_like_here", "_law_common", "_law_entry", "_law_short"]) (kp := (fun i => i == 0)) (g := b_law_like_holds) F S (by decide) (fun cdv A outer s H E hr => ?_), F.kp, F.bindsN fun _ _ _ _ _ _ us hl => match us, hl with | [_, _, _], _ => rfl⟩
  have tk : Takes (cxOf (L2.CX P w) P w KK.K mg base ["_law_drawn", "_law_one", "_law_other", "_law_by", "_law_times", "_law_great", "_law_wide", "_law_like_here", "_law_common", "_law_entry", "_law_short"] "_law_like_holds" (defScope st_law_like_holds) f cdv A outer s H E) (WD E) := takes_of rfl rfl rfl rfl
  exact ss_cons (ss_set (fun te h => ps_set (i := 3) S.nd rfl (by first | exact .inl rfl | exact .inr rfl) h) (se_op op_add opD_add (se_int) (se_val (sc_own d_law_take tk (hr.mono (by decide)) rfl (sar_s (pv 0) (sar_v (se_int) (sar_nil)))))) rfl)
      (ss_cons (ss_set (fun te h => ps_set (i := 4) S.nd rfl (by first | exact .inl rfl | exact .inr rfl) h) (se_op op_add opD_add (se_int) (se_val (sc_own d_law_take tk (hr.mono (by decide)) rfl (sar_s (pv 0) (sar_v (se_int) (sar_nil)))))) rfl)
      (ss_cons (ss_setLc (i := 5) rfl S.nd rfl rfl (by exact sw_true rfl rfl rfl rfl) (blkOk_by (own := [("_law_entry", 9)]) (by kernel_rfl)) (si_seq (se_var (pv 1))) (fun s H C cl fp => sg_name (pg_name S.nd rfl (by first | exact .inl rfl | exact .inr rfl)) rfl) (fun s H C cl fp => pts_nil) tt_yes (fun s H C cl fp => se_op op_mulW opD_mul (se_var (pv 3)) (se_var (pv 9))) rfl)
      (ss_cons (ss_setLc (i := 6) rfl S.nd rfl rfl (by exact sw_true rfl rfl rfl rfl) (blkOk_by (own := [("_law_entry", 9)]) (by kernel_rfl)) (si_seq (se_var (pv 2))) (fun s H C cl fp => sg_name (pg_name S.nd rfl (by first | exact .inl rfl | exact .inr rfl)) rfl) (fun s H C cl fp => pts_nil) tt_yes (fun s H C cl fp => se_op op_mulW opD_mul (se_var (pv 4)) (se_var (pv 9))) rfl)
      (ss_cons (ss_set (fun te h => ps_set (i := 7) S.nd rfl (by first | exact .inl rfl | exact .inr rfl) h) (se_val (sc_own d_is_like tk (hr.mono (by decide)) rfl (sar_v (se_var (pv 1)) (sar_v (se_var (pv 2)) (sar_nil))))) rfl)
      (ss_cons (ss_if (sb_w (sw_or (sb_not (sb_val (se_cb caD_isi (fun ta h => pe_callB call_isi2 rfl b.isinstance boot_isinstance h) (sa_cons (se_var (pv 7)) (sa_cons (se_ty rfl b.bool boot_bool) (sa_nil)))))) (sw_or (sb_cmp (op_neD hr.units) opD_ne (se_var (pv 7)) (se_val (sc_own d_law_like tk (hr.mono (by decide)) rfl (sar_v (se_var (pv 1)) (sar_v (se_var (pv 2)) (sar_nil))))) (nomark _)) (sw_or1 (sb_cmp op_notBl opD_notB (se_val (sc_own d_is_like tk (hr.mono (by decide)) rfl (sar_v (se_var (pv 5)) (sar_v (se_var (pv 1)) (sar_nil))))) (se_bl) (nomark _)))))) (ss_cons (ss_ret (se_bl))
      (ss_nil)) (ss_nil))
      (ss_cons (ss_if (sb_w (sw_or (sb_cmp (op_neD hr.units) opD_ne (se_val (sc_own d_lead tk (hr.mono (by decide)) rfl (sar_v (se_var (pv 1)) (sar_v (se_var (pv 5)) (sar_nil))))) (se_int) (nomark _)) (sw_or1 (sb_cmp (op_neD hr.units) opD_ne (se_val (sc_own d_lead tk (hr.mono (by decide)) rfl (sar_v (se_var (pv 5)) (sar_v (se_var (pv 6)) (sar_nil))))) (se_op op_mulW opD_mul (se_op op_mulW opD_mul (se_var (pv 3)) (se_var (pv 4))) (se_val (sc_own d_lead tk (hr.mono (by decide)) rfl (sar_v (se_var (pv 1)) (sar_v (se_var (pv 2)) (sar_nil)))))) (nomark _))))) (ss_cons (ss_ret (se_bl))
      (ss_nil)) (ss_nil))
      (ss_cons (ss_set (fun te h => ps_set (i := 8) S.nd rfl (by first | exact .inl rfl | exact .inr rfl) h) (se_int) rfl)
      (ss_cons (ss_for (passes_of rfl) rfl (si_seq (se_var (pv 5))) (sg_name (pg_name S.nd rfl (by first | exact .inl rfl | exact .inr rfl)) rfl) (ss_cons (ss_set (fun te h => ps_set (i := 8) S.nd rfl (by first | exact .inl rfl | exact .inr rfl) h) (se_val (sc_own d_law_divisor tk (hr.mono (by decide)) rfl (sar_v (se_var (pv 8)) (sar_v (se_var (pv 9)) (sar_nil))))) rfl)
      (ss_nil)))
      (ss_cons (ss_set (fun te h => ps_set (i := 10) S.nd rfl (by first | exact .inl rfl | exact .inr rfl) h) (se_val (sc_own d_short_die tk (hr.mono (by decide)) rfl (sar_v (se_var (pv 5)) (sar_nil)))) rfl)
      (ss_cons (ss_ret (se_and (se_cb caD_isi (fun ta h => pe_callB call_isi2 rfl b.isinstance boot_isinstance h) (sa_cons (se_var (pv 10)) (sa_cons (se_ty rfl b.tuple boot_tuple) (sa_nil)))) (se_one (se_cmp (op_eqD hr.units) opD_eq (se_frz (sf_lc rfl S.nd (blkOk_by (own := [("_law_entry", 9)]) (by kernel_rfl)) (si_seq (se_var (pv 10))) (fun s H C cl fp => sg_name (pg_name S.nd rfl (by first | exact .inl rfl | exact .inr rfl)) rfl) (fun s H C cl fp => pts_nil) tt_yes (fun s H C cl fp => se_op op_mulW opD_mul (se_var (pv 8)) (se_var (pv 9))))) (se_var (pv 5)) (nomark _)))))
      (ss_nil)))))))))))

/-! law_bad_die -/
def b_law_bad_die : FS := sSeq (sSet 2 (eVal (cCall F_law_take 2 (arS 0 (arV (eCV dLen 1) (arNil))))))
      (sSeq (sSet 3 (eVal (cCall F_law_take 2 (arS 0 (arV (eC (.int 11)) (arNil))))))
      (sSeq (sIf (tVal (eBin dLt (eVar 3) (eC (.int 5)))) (sSeq (sRetF (fLst (aCons (eBin dIx (eFrz (fLst (aCons (eFrz (fLst (aNil))) (aCons (eFrz (fComp (gSeq (eVar 1)) (hName 6) (tYes2) (eC (.int 0)) [6])) (aCons (eC .non) (aCons (eC (.int 7)) (aCons (eC (.str "12")) (aNil)))))))) (eVar 3)) (aCons (eUn dNeg (eC (.int 1))) (aNil)))))
      (sNil)) (sNil))
      (sSeq (sSet 4 (eBin dIx (eFrz (fLst (aCons (eUn dNeg (eC (.int 1))) (aCons (eC (.bl true)) (aCons (eC .non) (aCons (eTup (aCons (eC (.int 1)) (aCons (eC (.int 2)) (aNil)))) (aCons (eC (.str "1")) (aCons (eFrz (fLst (aCons (eC (.int 0)) (aNil)))) (aNil))))))))) (eBin dSub (eVar 3) (eC (.int 5)))))
      (sSeq (sSetF 5 (fCat (eFrz (fCat (eSl (eVar 1) (oNo) (oIs (eVar 2))) (eFrz (fLst (aCons (eVar 4) (aNil)))))) (eSl (eVar 1) (oIs (eBin dAdd (eVar 2) (eC (.int 1)))) (oNo))))
      (sSeq (sIf (tAnd2 (tVal (eBin dLt (eBin dAdd (eVar 2) (eC (.int 1))) (eCV dLen 1))) (tVal (eBin dEq (eVal (cCall F_law_take 2 (arS 0 (arV (eC (.int 2)) (arNil))))) (eC (.int 1))))) (sSeq (sSetIx 5 (eBin dAdd (eVar 2) (eC (.int 1))) (eUn dNeg (eC (.int 2))))
      (sNil)) (sNil))
      (sSeq (sRetF (fLst (aCons (eVar 5) (aCons (eVar 2) (aNil)))))
      (sNil)))))))
def F_law_bad_die : Fn := fnOf 7 2 (fun i => i == 0) b_law_bad_die
theorem sc_law_bad_die : FnScope ["_law_drawn", "_law_row", "_law_at", "_law_word", "_law_wrong", "_law_spoilt", "_law_entry"] ["_law_drawn", "_law_row"] (defScope st_law_bad_die) := ⟨rfl, rfl, rfl, by decide +kernel, rfl, by decide +kernel, by decide +kernel⟩
theorem ok_law_bad_die (d_law_take : DefOk P w KK.K mg base "_law_take" 1 2 F_law_take) (b : Blt mg) {f : Addr} {fd : FuncData} (F : FnP KK.K "_law_bad_die" st_law_bad_die f fd) (gF : mg "_law_bad_die" = some (.ref f)) : DefOk P w KK.K mg base "_law_bad_die" 2 2 F_law_bad_die := by
  have S := sc_law_bad_die
  refine ⟨f, fd, ["_law_drawn", "_law_row"], gF, def_ok (N := ["_law_drawn", "_law_row", "_law_at", "_law_word", "_law_wrong", "_law_spoilt", "_law_entry"]) (kp := (fun i => i == 0)) (g := b_law_bad_die) F S (by decide) (fun cdv A outer s H E hr => ?_), F.kp, F.bindsN fun _ _ _ _ _ _ us hl => match us, hl with | [_, _], _ => rfl⟩
  have tk : Takes (cxOf (L2.CX P w) P w KK.K mg base ["_law_drawn", "_law_row", "_law_at", "_law_word", "_law_wrong", "_law_spoilt", "_law_entry"] "_law_bad_die" (defScope st_law_bad_die) f cdv A outer s H E) (WD E) := takes_of rfl rfl rfl rfl
  exact ss_cons (ss_set (fun te h => ps_set (i := 2) S.nd rfl (by first | exact .inl rfl | exact .inr rfl) h) (se_val (sc_own d_law_take tk (hr.mono (by decide)) rfl (sar_s (pv 0) (sar_v (se_cv caD_len caV_len (fun ta h => pe_callB call_len_seq rfl b.len boot_len h) (pv 1)) (sar_nil))))) rfl)
      (ss_cons (ss_set (fun te h => ps_set (i := 3) S.nd rfl (by first | exact .inl rfl | exact .inr rfl) h) (se_val (sc_own d_law_take tk (hr.mono (by decide)) rfl (sar_s (pv 0) (sar_v (se_int) (sar_nil))))) rfl)
      (ss_cons (ss_if (sb_cmp op_lt opD_lt (se_var (pv 3)) (se_int) (nomark _)) (ss_cons (ss_retF (sf_lst (sa_cons (se_ix (ix_or ix_list ix_tup) opD_ix (se_frz (sf_lst (sa_cons (se_frz (sf_lst (sa_nil))) (sa_cons (se_frz (sf_lc rfl S.nd (blkOk_by (own := [("_law_entry", 6)]) (by kernel_rfl)) (si_seq (se_var (pv 1))) (fun s H C cl fp => sg_name (pg_name S.nd rfl (by first | exact .inl rfl | exact .inr rfl)) rfl) (fun s H C cl fp => pts_nil) tt_yes (fun s H C cl fp => se_int))) (sa_cons (se_non) (sa_cons (se_int) (sa_cons (se_str) (sa_nil)))))))) (se_var (pv 3)) (fun _ _ => rfl)) (sa_cons (se_un un_neg unD_neg (se_int)) (sa_nil)))))
      (ss_nil)) (ss_nil))
      (ss_cons (ss_set (fun te h => ps_set (i := 4) S.nd rfl (by first | exact .inl rfl | exact .inr rfl) h) (se_ix (ix_or ix_list ix_tup) opD_ix (se_frz (sf_lst (sa_cons (se_un un_neg unD_neg (se_int)) (sa_cons (se_bl) (sa_cons (se_non) (sa_cons (se_tup (sa_cons (se_int) (sa_cons (se_int) (sa_nil)))) (sa_cons (se_str) (sa_cons (se_frz (sf_lst (sa_cons (se_int) (sa_nil)))) (sa_nil))))))))) (se_op op_sub opD_sub (se_var (pv 3)) (se_int)) (fun _ _ => rfl)) rfl)
      (ss_cons (ss_setF (fun te h => ps_set (i := 5) S.nd rfl (by first | exact .inl rfl | exact .inr rfl) h) (sf_cat (se_frz (sf_cat (se_sl (se_var (pv 1)) (so_no) (so_is (se_var (pv 2)))) (se_frz (sf_lst (sa_cons (se_var (pv 4)) (sa_nil)))))) (se_sl (se_var (pv 1)) (so_is (se_op op_add opD_add (se_var (pv 2)) (se_int))) (so_no))) rfl)
      (ss_cons (ss_if (sb_w (sw_and (sb_cmp op_lt opD_lt (se_op op_add opD_add (se_var (pv 2)) (se_int)) (se_cv caD_len caV_len (fun ta h => pe_callB call_len_seq rfl b.len boot_len h) (pv 1)) (nomark _)) (sw_and1 (sb_cmp (op_eqD hr.units) opD_eq (se_val (sc_own d_law_take tk (hr.mono (by decide)) rfl (sar_s (pv 0) (sar_v (se_int) (sar_nil))))) (se_int) (nomark _))))) (ss_cons (ss_setIx (fun te ti h k => ps_asg h (pg_sub (pv 5) k set_list)) (se_op op_add opD_add (se_var (pv 2)) (se_int)) (se_un un_neg unD_neg (se_int)))
      (ss_nil)) (ss_nil))
      (ss_cons (ss_retF (sf_lst (sa_cons (se_var (pv 5)) (sa_cons (se_var (pv 2)) (sa_nil)))))
      (ss_nil)))))))

/-! law_told_of_two -/
def b_law_told_of_two : FS := sSeq (sSetF 3 (fLst (aCons (eC (.str "none")) (aNil))))
      (sSeq (sTry xsE sbE (sSeq (sIf (tVal (eBin dEq (eVar 0) (eC (.int 0)))) (sSeq (sDrop (eVal (cCall F_added 2 (arV (eVar 1) (arV (eVar 2) (arNil))))))
      (sNil)) (sNil))
      (sSeq (sIf (tVal (eBin dEq (eVar 0) (eC (.int 1)))) (sSeq (sDrop (eVal (cCall F_taken_off 2 (arV (eVar 1) (arV (eVar 2) (arNil))))))
      (sNil)) (sNil))
      (sSeq (sIf (tVal (eBin dEq (eVar 0) (eC (.int 2)))) (sSeq (sDrop (eVal (cCall F_multiplied 2 (arV (eVar 1) (arV (eVar 2) (arNil))))))
      (sNil)) (sNil))
      (sSeq (sIf (tVal (eBin dEq (eVar 0) (eC (.int 3)))) (sSeq (sDrop (eVal (cCall F_divided 2 (arV (eVar 1) (arV (eVar 2) (arNil))))))
      (sNil)) (sNil))
      (sSeq (sIf (tVal (eBin dEq (eVar 0) (eC (.int 4)))) (sSeq (sDrop (eVal (cCall F_is_less 2 (arV (eVar 1) (arV (eVar 2) (arNil))))))
      (sNil)) (sNil))
      (sSeq (sIf (tVal (eBin dEq (eVar 0) (eC (.int 5)))) (sSeq (sDrop (eVal (cCall F_is_equal 2 (arV (eVar 1) (arV (eVar 2) (arNil))))))
      (sNil)) (sNil))
      (sNil))))))) 4 3 [("BadNumber", [.st "number", .fl "name"]), ("DiceError", [.st "other"])])
      (sSeq (sRetVar 3)
      (sNil)))
def F_law_told_of_two : Fn := fnOf 5 3 (fun _ => false) b_law_told_of_two
theorem sc_law_told_of_two : FnScope ["_law_word", "_law_first", "_law_second", "_law_told_here", "error"] ["_law_word", "_law_first", "_law_second"] (defScope st_law_told_of_two) := ⟨rfl, rfl, rfl, by decide +kernel, rfl, by decide +kernel, by decide +kernel⟩
theorem ok_law_told_of_two (d_added : DefOk P w KK.K mg base "added" 5 2 F_added) (d_divided : DefOk P w KK.K mg base "divided" 5 2 F_divided) (d_is_equal : DefOk P w KK.K mg base "is_equal" 4 2 F_is_equal) (d_is_less : DefOk P w KK.K mg base "is_less" 5 2 F_is_less) (d_multiplied : DefOk P w KK.K mg base "multiplied" 5 2 F_multiplied) (d_taken_off : DefOk P w KK.K mg base "taken_off" 5 2 F_taken_off) (EF : ErF KK.K mg xsE flE sbE) (b : Blt mg) {f : Addr} {fd : FuncData} (F : FnP KK.K "_law_told_of_two" st_law_told_of_two f fd) (gF : mg "_law_told_of_two" = some (.ref f)) : DefOk P w KK.K mg base "_law_told_of_two" 6 3 F_law_told_of_two := by
  have S := sc_law_told_of_two
  refine ⟨f, fd, ["_law_word", "_law_first", "_law_second"], gF, def_ok (N := ["_law_word", "_law_first", "_law_second", "_law_told_here", "error"]) (kp := (fun _ => false)) (g := b_law_told_of_two) F S (by decide) (fun cdv A outer s H E hr => ?_), F.kp, F.bindsN fun _ _ _ _ _ _ us hl => match us, hl with | [_, _, _], _ => rfl⟩
  have tk : Takes (cxOf (L2.CX P w) P w KK.K mg base ["_law_word", "_law_first", "_law_second", "_law_told_here", "error"] "_law_told_of_two" (defScope st_law_told_of_two) f cdv A outer s H E) (WD E) := takes_of rfl rfl rfl rfl
  exact ss_cons (ss_setF (fun te h => ps_set (i := 3) S.nd rfl (by first | exact .inl rfl | exact .inr rfl) h) (sf_lst (sa_cons (se_str) (sa_nil))) rfl)
      (ss_cons (ss_try EF rfl rfl S.nd rfl rfl tk (by decide) rfl rfl (fun W2 pn xe tk2 => ss_cons (ss_if (sb_cmp (op_eqD hr.units) opD_eq (se_var (pv 0)) (se_int) (nomark _)) (ss_cons (ss_drop (fun te h => ps_expr h) (se_val (sc_own d_added tk2 (hr.mono (by decide)) rfl (sar_v (se_var (pv 1)) (sar_v (se_var (pv 2)) (sar_nil))))))
      (ss_nil)) (ss_nil))
      (ss_cons (ss_if (sb_cmp (op_eqD hr.units) opD_eq (se_var (pv 0)) (se_int) (nomark _)) (ss_cons (ss_drop (fun te h => ps_expr h) (se_val (sc_own d_taken_off tk2 (hr.mono (by decide)) rfl (sar_v (se_var (pv 1)) (sar_v (se_var (pv 2)) (sar_nil))))))
      (ss_nil)) (ss_nil))
      (ss_cons (ss_if (sb_cmp (op_eqD hr.units) opD_eq (se_var (pv 0)) (se_int) (nomark _)) (ss_cons (ss_drop (fun te h => ps_expr h) (se_val (sc_own d_multiplied tk2 (hr.mono (by decide)) rfl (sar_v (se_var (pv 1)) (sar_v (se_var (pv 2)) (sar_nil))))))
      (ss_nil)) (ss_nil))
      (ss_cons (ss_if (sb_cmp (op_eqD hr.units) opD_eq (se_var (pv 0)) (se_int) (nomark _)) (ss_cons (ss_drop (fun te h => ps_expr h) (se_val (sc_own d_divided tk2 (hr.mono (by decide)) rfl (sar_v (se_var (pv 1)) (sar_v (se_var (pv 2)) (sar_nil))))))
      (ss_nil)) (ss_nil))
      (ss_cons (ss_if (sb_cmp (op_eqD hr.units) opD_eq (se_var (pv 0)) (se_int) (nomark _)) (ss_cons (ss_drop (fun te h => ps_expr h) (se_val (sc_own d_is_less tk2 (hr.mono (by decide)) rfl (sar_v (se_var (pv 1)) (sar_v (se_var (pv 2)) (sar_nil))))))
      (ss_nil)) (ss_nil))
      (ss_cons (ss_if (sb_cmp (op_eqD hr.units) opD_eq (se_var (pv 0)) (se_int) (nomark _)) (ss_cons (ss_drop (fun te h => ps_expr h) (se_val (sc_own d_is_equal tk2 (hr.mono (by decide)) rfl (sar_v (se_var (pv 1)) (sar_v (se_var (pv 2)) (sar_nil))))))
      (ss_nil)) (ss_nil))
      (ss_nil))))))) (HdOk.as (by decide) rfl rfl rfl (su_set (fun a pn te h => ps_set (i := 3) S.nd rfl (by first | exact .inl rfl | exact .inr rfl) h) (sus_cons su_str (sus_cons (su_fld (fun a pn => pv 4)) (sus_nil)))) (HdOk.plain (by decide) rfl rfl (su_plain (fun a pn te h => ps_set (i := 3) S.nd rfl (by first | exact .inl rfl | exact .inr rfl) h)) (HdOk.nil))))
      (ss_cons (ss_retVar (pv 3))
      (ss_nil)))

end
end KV
set_option Elab.async false
set_option linter.all false
set_option autoImplicit false
set_option maxRecDepth 100000
set_option maxHeartbeats 4000000
namespace KV
open PySem PySem.Spec PyProof.Rows L2
variable [KK]
section
variable {P : Program} {w : World} {mg : Str → Option Value} {base : Heap}
/-! mixed_die -/
def b_mixed_die : FS := sSeq (sSet 2 (eVal (cCall F_weights_of 3 (arV (eVar 0) (arV (eCV dLen 1) (arV (eC (.int 0)) (arNil)))))))
      (sSeq (sIf (tVal (eBin dEq (eCB dMax (aCons (eVar 2) (aNil))) (eC (.int 0)))) (sSeq (sRaise "BadWeights" ["place"] (aCons (eUn dNeg (eC (.int 1))) (aNil)))
      (sNil)) (sNil))
      (sSeq (sSetF 3 (fCompX (gSeq (eVar 1)) (hName 5) (eVal (cCall F_die_of 1 (arV (eVar 5) (arNil)))) [5]))
      (sSeq (sFor (gSeq (eVar 3)) (hName 4) (sSeq (sIf (tVal (eBin dNe (eCV dLen 4) (eCB dLen (aCons (eIxVar 3 (eC (.int 0))) (aNil))))) (sSeq (sRaise "OtherSize" ["first", "second"] (aCons (eCB dLen (aCons (eIxVar 3 (eC (.int 0))) (aNil))) (aCons (eCV dLen 4) (aNil))))
      (sNil)) (sNil))
      (sNil)))
      (sSeq (sRet (eCB dTuple (aCons (eFrz (fComp (gZipS (eVar 3)) (hName 6) (tYes2) (eCB dSum (aCons (eFrz (fComp (gZip (aCons (eVar 2) (aCons (eVar 6) (aNil)))) (hTup [7, 8]) (tYes2) (eBin dMul (eVar 7) (eVar 8)) [7, 8])) (aNil))) [6])) (aNil))))
      (sNil)))))
def F_mixed_die : Fn := fnOf 9 2 (fun _ => false) b_mixed_die
theorem sc_mixed_die : FnScope ["weights", "dice", "told", "parts", "part", "die", "entries", "weight", "entry"] ["weights", "dice"] (defScope st_mixed_die) := ⟨rfl, rfl, rfl, by decide +kernel, rfl, by decide +kernel, by decide +kernel⟩
theorem ok_mixed_die (d_die_of : DefOk P w KK.K mg base "die_of" 3 1 F_die_of) (d_weights_of : DefOk P w KK.K mg base "weights_of" 3 3 F_weights_of) {C_BadWeights f_BadWeights : Addr} {fd_BadWeights : FuncData} (e_BadWeights : ErC P w KK.K mg base "BadWeights" 1 (fun C => SpI1 C "place") C_BadWeights f_BadWeights fd_BadWeights ["self", "place"]) {C_OtherSize f_OtherSize : Addr} {fd_OtherSize : FuncData} (e_OtherSize : ErC P w KK.K mg base "OtherSize" 1 (fun C => SpI2 C "first" "second") C_OtherSize f_OtherSize fd_OtherSize ["self", "first", "second"]) (b : Blt mg) {f : Addr} {fd : FuncData} (F : FnP KK.K "mixed_die" st_mixed_die f fd) (gF : mg "mixed_die" = some (.ref f)) : StarOk P w KK.K mg base "mixed_die" 4 F_mixed_die := by
  have S := sc_mixed_die
  refine star_ok (N := ["weights", "dice", "told", "parts", "part", "die", "entries", "weight", "entry"]) (kp := (fun _ => false)) (g := b_mixed_die) F S (by decide) gF (fun kV doc pm an cdv ct => StX.bind_star1 (B := fun us => bindArgs (PySem.W.fnOf "mixed_die" "mixed_die" (defArgs st_mixed_die) (defBody st_mixed_die) (defScope st_mixed_die) .none kV doc pm an cdv ct) ⟨us, []⟩) (fun a => rfl) (fun a r rs => rfl)) (fun cdv A outer s H E hr => ?_)
  have tk : Takes (cxOf (L2.CX P w) P w KK.K mg base ["weights", "dice", "told", "parts", "part", "die", "entries", "weight", "entry"] "mixed_die" (defScope st_mixed_die) f cdv A outer s H E) (WD E) := takes_of rfl rfl rfl rfl
  exact ss_cons (ss_set (fun te h => ps_set (i := 2) S.nd rfl (by first | exact .inl rfl | exact .inr rfl) h) (se_val (sc_own d_weights_of tk (hr.mono (by decide)) rfl (sar_v (se_var (pv 0)) (sar_v (se_cv caD_len caV_len (fun ta h => pe_callB call_len_seq rfl b.len boot_len h) (pv 1)) (sar_v (se_int) (sar_nil)))))) rfl)
      (ss_cons (ss_if (sb_cmp (op_eqD hr.units) opD_eq (se_cb caD_max (fun ta h => pe_callB (call_max3 rfl) rfl b.max boot_max h) (sa_cons (se_var (pv 2)) (sa_nil))) (se_int) (nomark _)) (ss_cons (ss_raise1 rfl tk e_BadWeights (hr.mono (by decide)) rfl (sa_cons (se_un un_neg unD_neg (se_int)) (sa_nil)))
      (ss_nil)) (ss_nil))
      (ss_cons (ss_setLcX (i := 3) rfl rfl tk rfl S.nd rfl rfl (by exact sw_true rfl rfl rfl rfl) (blkOk_by (own := [("die", 5)]) (by kernel_rfl)) (si_seq (se_var (pv 1))) (fun s H C cl fp xe => sg_name (pg_name S.nd rfl (by first | exact .inl rfl | exact .inr rfl)) rfl) (fun s H C cl fp xe V hpa => se_val (sc_ownP d_die_of hpa (hr.mono (by decide)) rfl (sar_v (se_var (pv 5)) (sar_nil)))) rfl)
      (ss_cons (ss_for (passes_of rfl) rfl (si_seq (se_var (pv 3))) (sg_name (pg_name S.nd rfl (by first | exact .inl rfl | exact .inr rfl)) rfl) (ss_cons (ss_if (sb_cmp (op_neD hr.units) opD_ne (se_cv caD_len caV_len (fun ta h => pe_callB call_len_seq rfl b.len boot_len h) (pv 4)) (se_cb caD_len (fun ta h => pe_callB call_len_seq rfl b.len boot_len h) (sa_cons (se_ixVar (fun tb h => pe_ix (ix_or ix_list ix_tup) (pv 3) h (fun _ _ => rfl)) (se_int)) (sa_nil))) (nomark _)) (ss_cons (ss_raise2 rfl tk e_OtherSize (hr.mono (by decide)) rfl (sa_cons (se_cb caD_len (fun ta h => pe_callB call_len_seq rfl b.len boot_len h) (sa_cons (se_ixVar (fun tb h => pe_ix (ix_or ix_list ix_tup) (pv 3) h (fun _ _ => rfl)) (se_int)) (sa_nil))) (sa_cons (se_cv caD_len caV_len (fun ta h => pe_callB call_len_seq rfl b.len boot_len h) (pv 4)) (sa_nil))))
      (ss_nil)) (ss_nil))
      (ss_nil)))
      (ss_cons (ss_ret (se_cb caD_tuple (fun ta h => pe_callTy call_tuple_of rfl b.tuple boot_tuple h) (sa_cons (se_frz (sf_lcA rfl S.nd (blkOk_by (own := [("entries", 6)]) (by kernel_rfl)) (sia_zipS rfl b.zip (se_var (pv 3))) (fun s H C cl fp => sg_name (pg_name S.nd rfl (by first | exact .inl rfl | exact .inr rfl)) rfl) (fun s H C cl fp => se_cb caD_sum (fun ta h => pe_callB (call_sum2 rfl) rfl b.sum boot_sum h) (sa_cons (se_frz (sf_lc rfl S.nd (blkOk_by (own := [("weight", 7), ("entry", 8)]) (by kernel_rfl)) (si_zip rfl b.zip (sa_cons (se_var (pv 2)) (sa_cons (se_var (pv 6)) (sa_nil)))) (fun s H C cl fp => sg_tup (is := [7, 8]) (pg_tup rfl (pgs_cons (pg_name S.nd rfl (by first | exact .inl rfl | exact .inr rfl)) (pgs_cons (pg_name S.nd rfl (by first | exact .inl rfl | exact .inr rfl)) (pgs_nil)))) (by decide)) (fun s H C cl fp => pts_nil) tt_yes (fun s H C cl fp => se_op op_mulW opD_mul (se_var (pv 7)) (se_var (pv 8))))) (sa_nil))))) (sa_nil))))
      (ss_nil)))))

end
end KV
set_option Elab.async false
set_option linter.all false
set_option autoImplicit false
set_option maxRecDepth 100000
set_option maxHeartbeats 4000000
namespace KV
open PySem PySem.Spec PyProof.Rows L2
variable [KK]
section
variable {P : Program} {w : World} {mg : Str → Option Value} {base : Heap}
/-! law_mixed_holds -/
def b_law_mixed_holds : FS := sSeq (sSetF 2 (fComp (gSeq (eVar 1)) (hName 6) (tYes2) (eVal (cCall F_law_take 2 (arS 0 (arV (eC (.int 4)) (arNil))))) [6]))
      (sSeq (sIf (tVal (eBin dEq (eCV dSum 2) (eC (.int 0)))) (sSeq (sSetIx 2 (eVal (cCall F_law_take 2 (arS 0 (arV (eC (.int 3)) (arNil))))) (eC (.int 2)))
      (sNil)) (sNil))
      (sSeq (sSetF 3 (fCB dList (aCons (eVar 2) (aNil))))
      (sSeq (sSet 4 (eVal (cCall (starFn F_mixed_die) 4 (arV (eVar 2) (arV (eIxVar 1 (eC (.int 0))) (arV (eIxVar 1 (eC (.int 1))) (arV (eIxVar 1 (eC (.int 2))) (arNil))))))))
      (sSeq (sIf (tOr2 (tNot2 (tVal (eCB dIsi (aCons (eVar 4) (aCons (eC (.ty "tuple")) (aNil)))))) (tOr2 (tVal (eBin dNe (eCV dLen 4) (eCB dLen (aCons (eIxVar 1 (eC (.int 0))) (aNil))))) (tVal (eBin dNe (eVar 2) (eVar 3))))) (sSeq (sRet (eC (.bl false)))
      (sNil)) (sNil))
      (sSeq (sIf (tVal (eBin dNe (eVal (cCall (starFn F_mixed_die) 4 (arV (eCB dTuple (aCons (eVar 2) (aNil))) (arV (eCB dTuple (aCons (eIxVar 1 (eC (.int 0))) (aNil))) (arV (eIxVar 1 (eC (.int 1))) (arV (eCB dTuple (aCons (eIxVar 1 (eC (.int 2))) (aNil))) (arNil))))))) (eVar 4))) (sSeq (sRet (eC (.bl false)))
      (sNil)) (sNil))
      (sSeq (sFor (gRng1 (aCons (eCV dLen 4) (aNil))) (hName 5) (sSeq (sIf (tOr2 (tNot2 (tVal (eVal (cCall F_law_int 1 (arV (eIxVar 4 (eVar 5)) (arNil)))))) (tVal (eBin dNe (eIxVar 4 (eVar 5)) (eCB dSum (aCons (eFrz (fComp (gRng1 (aCons (eC (.int 3)) (aNil))) (hName 7) (tYes2) (eBin dMul (eIxVar 2 (eVar 7)) (eBin dIx (eIxVar 1 (eVar 7)) (eVar 5))) [7])) (aNil)))))) (sSeq (sRet (eC (.bl false)))
      (sNil)) (sNil))
      (sNil)))
      (sSeq (sFor (gSeq (eVar 1)) (hName 6) (sSeq (sIf (tVal (eBin dNe (eVal (cCall F_lead 2 (arV (eVar 6) (arV (eVar 4) (arNil))))) (eCB dSum (aCons (eFrz (fComp (gRng1 (aCons (eC (.int 3)) (aNil))) (hName 7) (tYes2) (eBin dMul (eIxVar 2 (eVar 7)) (eVal (cCall F_lead 2 (arV (eVar 6) (arV (eIxVar 1 (eVar 7)) (arNil)))))) [7])) (aNil))))) (sSeq (sRet (eC (.bl false)))
      (sNil)) (sNil))
      (sNil)))
      (sSeq (sRet (eC (.bl true)))
      (sNil)))))))))
def F_law_mixed_holds : Fn := fnOf 8 2 (fun i => i == 0) b_law_mixed_holds
theorem sc_law_mixed_holds : FnScope ["_law_drawn", "_law_dice_here", "_law_weights", "_law_kept", "_law_made", "_law_rank", "_law_die_here", "_law_k"] ["_law_drawn", "_law_dice_here"] (defScope st_law_mixed_holds) := ⟨rfl, rfl, rfl, by decide +kernel, rfl, by decide +kernel, by decide +kernel⟩
theorem ok_law_mixed_holds (d_law_int : DefOk P w KK.K mg base "_law_int" 1 1 F_law_int) (d_law_take : DefOk P w KK.K mg base "_law_take" 1 2 F_law_take) (d_lead : DefOk P w KK.K mg base "lead" 5 2 F_lead) (d_mixed_die : StarOk P w KK.K mg base "mixed_die" 4 F_mixed_die) (b : Blt mg) {f : Addr} {fd : FuncData} (F : FnP KK.K "_law_mixed_holds" st_law_mixed_holds f fd) (gF : mg "_law_mixed_holds" = some (.ref f)) : DefOk P w KK.K mg base "_law_mixed_holds" 6 2 F_law_mixed_holds := by
  have S := sc_law_mixed_holds
  refine ⟨f, fd, ["_law_drawn", "_law_dice_here"], gF, def_ok (N := ["_law_drawn", "_law_dice_here", "_law_weights", "_law_kept", "_law_made", "_law_rank", "_law_die_here", "_law_k"]) (kp := (fun i => i == 0)) (g := b_law_mixed_holds) F S (by decide) (fun cdv A outer s H E hr => ?_), F.kp, F.bindsN fun _ _ _ _ _ _ us hl => match us, hl with | [_, _], _ => rfl⟩
  have tk : Takes (cxOf (L2.CX P w) P w KK.K mg base ["_law_drawn", "_law_dice_here", "_law_weights", "_law_kept", "_law_made", "_law_rank", "_law_die_here", "_law_k"] "_law_mixed_holds" (defScope st_law_mixed_holds) f cdv A outer s H E) (WD E) := takes_of rfl rfl rfl rfl
  exact ss_cons (ss_setF (fun te h => ps_set (i := 2) S.nd rfl (by first | exact .inl rfl | exact .inr rfl) h) (sf_lc rfl S.nd (blkOk_by (own := [("_law_die_here", 6)]) (by kernel_rfl)) (si_seq (se_var (pv 1))) (fun s H C cl fp => sg_name (pg_name S.nd rfl (by first | exact .inl rfl | exact .inr rfl)) rfl) (fun s H C cl fp => pts_nil) tt_yes (fun s H C cl fp => se_val (sc_own d_law_take takes0 (hr.mono (by decide)) rfl (sar_s (pv 0) (sar_v (se_int) (sar_nil)))))) rfl)
      (ss_cons (ss_if (sb_cmp (op_eqD hr.units) opD_eq (se_cv caD_sum caV_sum (fun ta h => pe_callB (call_sum2 rfl) rfl b.sum boot_sum h) (pv 2)) (se_int) (nomark _)) (ss_cons (ss_setIx (fun te ti h k => ps_asg h (pg_sub (pv 2) k set_list)) (se_val (sc_own d_law_take tk (hr.mono (by decide)) rfl (sar_s (pv 0) (sar_v (se_int) (sar_nil))))) (se_int))
      (ss_nil)) (ss_nil))
      (ss_cons (ss_setF (fun te h => ps_set (i := 3) S.nd rfl (by first | exact .inl rfl | exact .inr rfl) h) (sf_cb caF_list (fun ta h => pe_callTy call_list_of rfl b.list boot_list h) (sa_cons (se_var (pv 2)) (sa_nil))) rfl)
      (ss_cons (ss_set (fun te h => ps_set (i := 4) S.nd rfl (by first | exact .inl rfl | exact .inr rfl) h) (se_val (sc_star d_mixed_die tk (hr.mono (by decide)) rfl (sar_v (se_var (pv 2)) (sar_v (se_ixVar (fun tb h => pe_ix (ix_or ix_list ix_tup) (pv 1) h (fun _ _ => rfl)) (se_int)) (sar_v (se_ixVar (fun tb h => pe_ix (ix_or ix_list ix_tup) (pv 1) h (fun _ _ => rfl)) (se_int)) (sar_v (se_ixVar (fun tb h => pe_ix (ix_or ix_list ix_tup) (pv 1) h (fun _ _ => rfl)) (se_int)) (sar_nil))))))) rfl)
      (ss_cons (ss_if (sb_w (sw_or (sb_not (sb_val (se_cb caD_isi (fun ta h => pe_callB call_isi2 rfl b.isinstance boot_isinstance h) (sa_cons (se_var (pv 4)) (sa_cons (se_ty rfl b.tuple boot_tuple) (sa_nil)))))) (sw_or (sb_cmp (op_neD hr.units) opD_ne (se_cv caD_len caV_len (fun ta h => pe_callB call_len_seq rfl b.len boot_len h) (pv 4)) (se_cb caD_len (fun ta h => pe_callB call_len_seq rfl b.len boot_len h) (sa_cons (se_ixVar (fun tb h => pe_ix (ix_or ix_list ix_tup) (pv 1) h (fun _ _ => rfl)) (se_int)) (sa_nil))) (nomark _)) (sw_or1 (sb_cmp (op_neD hr.units) opD_ne (se_var (pv 2)) (se_var (pv 3)) (nomark _)))))) (ss_cons (ss_ret (se_bl))
      (ss_nil)) (ss_nil))
      (ss_cons (ss_if (sb_cmp (op_neD hr.units) opD_ne (se_val (sc_star d_mixed_die tk (hr.mono (by decide)) rfl (sar_v (se_cb caD_tuple (fun ta h => pe_callTy call_tuple_of rfl b.tuple boot_tuple h) (sa_cons (se_var (pv 2)) (sa_nil))) (sar_v (se_cb caD_tuple (fun ta h => pe_callTy call_tuple_of rfl b.tuple boot_tuple h) (sa_cons (se_ixVar (fun tb h => pe_ix (ix_or ix_list ix_tup) (pv 1) h (fun _ _ => rfl)) (se_int)) (sa_nil))) (sar_v (se_ixVar (fun tb h => pe_ix (ix_or ix_list ix_tup) (pv 1) h (fun _ _ => rfl)) (se_int)) (sar_v (se_cb caD_tuple (fun ta h => pe_callTy call_tuple_of rfl b.tuple boot_tuple h) (sa_cons (se_ixVar (fun tb h => pe_ix (ix_or ix_list ix_tup) (pv 1) h (fun _ _ => rfl)) (se_int)) (sa_nil))) (sar_nil))))))) (se_var (pv 4)) (nomark _)) (ss_cons (ss_ret (se_bl))
      (ss_nil)) (ss_nil))
      (ss_cons (ss_for (passes_of rfl) rfl (si_rng1 (fun ta h => pi_range1 rfl b.range h) (sa_cons (se_cv caD_len caV_len (fun ta h => pe_callB call_len_seq rfl b.len boot_len h) (pv 4)) (sa_nil))) (sg_name (pg_name S.nd rfl (by first | exact .inl rfl | exact .inr rfl)) rfl) (ss_cons (ss_if (sb_w (sw_or (sb_not (sb_val (se_val (sc_own d_law_int tk (hr.mono (by decide)) rfl (sar_v (se_ixVar (fun tb h => pe_ix (ix_or ix_list ix_tup) (pv 4) h (fun _ _ => rfl)) (se_var (pv 5))) (sar_nil)))))) (sw_or1 (sb_cmp (op_neD hr.units) opD_ne (se_ixVar (fun tb h => pe_ix (ix_or ix_list ix_tup) (pv 4) h (fun _ _ => rfl)) (se_var (pv 5))) (se_cb caD_sum (fun ta h => pe_callB (call_sum2 rfl) rfl b.sum boot_sum h) (sa_cons (se_frz (sf_lc rfl S.nd (blkOk_by (own := [("_law_k", 7)]) (by kernel_rfl)) (si_rng1 (fun ta h => pi_range1 rfl b.range h) (sa_cons (se_int) (sa_nil))) (fun s H C cl fp => sg_name (pg_name S.nd rfl (by first | exact .inl rfl | exact .inr rfl)) rfl) (fun s H C cl fp => pts_nil) tt_yes (fun s H C cl fp => se_op op_mulW opD_mul (se_ixVar (fun tb h => pe_ix (ix_or ix_list ix_tup) (pv 2) h (fun _ _ => rfl)) (se_var (pv 7))) (se_ix (ix_or ix_list ix_tup) opD_ix (se_ixVar (fun tb h => pe_ix (ix_or ix_list ix_tup) (pv 1) h (fun _ _ => rfl)) (se_var (pv 7))) (se_var (pv 5)) (fun _ _ => rfl))))) (sa_nil))) (nomark _))))) (ss_cons (ss_ret (se_bl))
      (ss_nil)) (ss_nil))
      (ss_nil)))
      (ss_cons (ss_for (passes_of rfl) rfl (si_seq (se_var (pv 1))) (sg_name (pg_name S.nd rfl (by first | exact .inl rfl | exact .inr rfl)) rfl) (ss_cons (ss_if (sb_cmp (op_neD hr.units) opD_ne (se_val (sc_own d_lead tk (hr.mono (by decide)) rfl (sar_v (se_var (pv 6)) (sar_v (se_var (pv 4)) (sar_nil))))) (se_cb caD_sum (fun ta h => pe_callB (call_sum2 rfl) rfl b.sum boot_sum h) (sa_cons (se_frz (sf_lc rfl S.nd (blkOk_by (own := [("_law_k", 7)]) (by kernel_rfl)) (si_rng1 (fun ta h => pi_range1 rfl b.range h) (sa_cons (se_int) (sa_nil))) (fun s H C cl fp => sg_name (pg_name S.nd rfl (by first | exact .inl rfl | exact .inr rfl)) rfl) (fun s H C cl fp => pts_nil) tt_yes (fun s H C cl fp => se_op op_mulW opD_mul (se_ixVar (fun tb h => pe_ix (ix_or ix_list ix_tup) (pv 2) h (fun _ _ => rfl)) (se_var (pv 7))) (se_val (sc_own d_lead takes0 (hr.mono (by decide)) rfl (sar_v (se_var (pv 6)) (sar_v (se_ixVar (fun tb h => pe_ix (ix_or ix_list ix_tup) (pv 1) h (fun _ _ => rfl)) (se_var (pv 7))) (sar_nil)))))))) (sa_nil))) (nomark _)) (ss_cons (ss_ret (se_bl))
      (ss_nil)) (ss_nil))
      (ss_nil)))
      (ss_cons (ss_ret (se_bl))
      (ss_nil)))))))))

/-! law_told -/
def b_law_told : FS := sSeq (sSetF 4 (fLst (aCons (eC (.str "none")) (aNil))))
      (sSeq (sTry xsE sbE (sSeq (sIf (tVal (eBin dEq (eVar 0) (eC (.int 0)))) (sSeq (sDrop (eVal (cCall F_below 2 (arV (eVar 1) (arV (eVar 2) (arNil))))))
      (sNil)) (sNil))
      (sSeq (sIf (tVal (eBin dEq (eVar 0) (eC (.int 1)))) (sSeq (sDrop (eVal (cCall F_one_faced 3 (arV (eVar 1) (arV (eVar 2) (arV (eVar 3) (arNil)))))))
      (sNil)) (sNil))
      (sSeq (sIf (tVal (eBin dEq (eVar 0) (eC (.int 2)))) (sSeq (sDrop (eVal (cCall (starFn F_mixed_die) 3 (arV (eVar 1) (arV (eVar 2) (arV (eVar 3) (arNil)))))))
      (sNil)) (sNil))
      (sSeq (sIf (tVal (eBin dEq (eVar 0) (eC (.int 3)))) (sSeq (sDrop (eVal (cCall F_areas 2 (arV (eVar 1) (arV (eVar 2) (arNil))))))
      (sNil)) (sNil))
      (sSeq (sIf (tVal (eBin dEq (eVar 0) (eC (.int 4)))) (sSeq (sDrop (eVal (cCall F_lead 2 (arV (eVar 1) (arV (eVar 2) (arNil))))))
      (sNil)) (sNil))
      (sSeq (sIf (tVal (eBin dEq (eVar 0) (eC (.int 5)))) (sSeq (sDrop (eVal (cCall F_is_like 2 (arV (eVar 1) (arV (eVar 2) (arNil))))))
      (sNil)) (sNil))
      (sSeq (sIf (tVal (eBin dEq (eVar 0) (eC (.int 6)))) (sSeq (sDrop (eVal (cCall F_belows 1 (arV (eVar 1) (arNil)))))
      (sNil)) (sNil))
      (sSeq (sIf (tVal (eBin dEq (eVar 0) (eC (.int 7)))) (sSeq (sDrop (eVal (cCall F_short_die 1 (arV (eVar 1) (arNil)))))
      (sNil)) (sNil))
      (sSeq (sIf (tVal (eBin dEq (eVar 0) (eC (.int 8)))) (sSeq (sDrop (eVal (cCall F_half_chance 2 (arV (eVar 1) (arV (eVar 2) (arNil))))))
      (sNil)) (sNil))
      (sNil)))))))))) 5 4 [("BadDie", [.st "die", .fl "place", .isc "OtherSize"]), ("BadNumber", [.st "number", .fl "name"]), ("BadWeights", [.st "weights", .fl "place"]), ("OtherSize", [.st "size", .fl "first", .fl "second"]), ("DiceError", [.st "other"])])
      (sSeq (sRetVar 4)
      (sNil)))
def F_law_told : Fn := fnOf 6 4 (fun _ => false) b_law_told
theorem sc_law_told : FnScope ["_law_word", "_law_first", "_law_second", "_law_third", "_law_told_here", "error"] ["_law_word", "_law_first", "_law_second", "_law_third"] (defScope st_law_told) := ⟨rfl, rfl, rfl, by decide +kernel, rfl, by decide +kernel, by decide +kernel⟩
theorem ok_law_told (d_areas : DefOk P w KK.K mg base "areas" 5 2 F_areas) (d_below : DefOk P w KK.K mg base "below" 4 2 F_below) (d_belows : DefOk P w KK.K mg base "belows" 4 1 F_belows) (d_half_chance : DefOk P w KK.K mg base "half_chance" 5 2 F_half_chance) (d_is_like : DefOk P w KK.K mg base "is_like" 5 2 F_is_like) (d_lead : DefOk P w KK.K mg base "lead" 5 2 F_lead) (d_mixed_die : StarOk P w KK.K mg base "mixed_die" 4 F_mixed_die) (d_one_faced : DefOk P w KK.K mg base "one_faced" 4 3 F_one_faced) (d_short_die : DefOk P w KK.K mg base "short_die" 4 1 F_short_die) (EF : ErF KK.K mg xsE flE sbE) (b : Blt mg) {f : Addr} {fd : FuncData} (F : FnP KK.K "_law_told" st_law_told f fd) (gF : mg "_law_told" = some (.ref f)) : DefOk P w KK.K mg base "_law_told" 6 4 F_law_told := by
  have S := sc_law_told
  refine ⟨f, fd, ["_law_word", "_law_first", "_law_second", "_law_third"], gF, def_ok (N := ["_law_word", "_law_first", "_law_second", "_law_third", "_law_told_here", "error"]) (kp := (fun _ => false)) (g := b_law_told) F S (by decide) (fun cdv A outer s H E hr => ?_), F.kp, F.bindsN fun _ _ _ _ _ _ us hl => match us, hl with | [_, _, _, _], _ => rfl⟩
  have tk : Takes (cxOf (L2.CX P w) P w KK.K mg base ["_law_word", "_law_first", "_law_second", "_law_third", "_law_told_here", "error"] "_law_told" (defScope st_law_told) f cdv A outer s H E) (WD E) := takes_of rfl rfl rfl rfl
  exact ss_cons (ss_setF (fun te h => ps_set (i := 4) S.nd rfl (by first | exact .inl rfl | exact .inr rfl) h) (sf_lst (sa_cons (se_str) (sa_nil))) rfl)
      (ss_cons (ss_try EF rfl rfl S.nd rfl rfl tk (by decide) rfl rfl (fun W2 pn xe tk2 => ss_cons (ss_if (sb_cmp (op_eqD hr.units) opD_eq (se_var (pv 0)) (se_int) (nomark _)) (ss_cons (ss_drop (fun te h => ps_expr h) (se_val (sc_own d_below tk2 (hr.mono (by decide)) rfl (sar_v (se_var (pv 1)) (sar_v (se_var (pv 2)) (sar_nil))))))
      (ss_nil)) (ss_nil))
      (ss_cons (ss_if (sb_cmp (op_eqD hr.units) opD_eq (se_var (pv 0)) (se_int) (nomark _)) (ss_cons (ss_drop (fun te h => ps_expr h) (se_val (sc_own d_one_faced tk2 (hr.mono (by decide)) rfl (sar_v (se_var (pv 1)) (sar_v (se_var (pv 2)) (sar_v (se_var (pv 3)) (sar_nil)))))))
      (ss_nil)) (ss_nil))
      (ss_cons (ss_if (sb_cmp (op_eqD hr.units) opD_eq (se_var (pv 0)) (se_int) (nomark _)) (ss_cons (ss_drop (fun te h => ps_expr h) (se_val (sc_star d_mixed_die tk2 (hr.mono (by decide)) rfl (sar_v (se_var (pv 1)) (sar_v (se_var (pv 2)) (sar_v (se_var (pv 3)) (sar_nil)))))))
      (ss_nil)) (ss_nil))
      (ss_cons (ss_if (sb_cmp (op_eqD hr.units) opD_eq (se_var (pv 0)) (se_int) (nomark _)) (ss_cons (ss_drop (fun te h => ps_expr h) (se_val (sc_own d_areas tk2 (hr.mono (by decide)) rfl (sar_v (se_var (pv 1)) (sar_v (se_var (pv 2)) (sar_nil))))))
      (ss_nil)) (ss_nil))
      (ss_cons (ss_if (sb_cmp (op_eqD hr.units) opD_eq (se_var (pv 0)) (se_int) (nomark _)) (ss_cons (ss_drop (fun te h => ps_expr h) (se_val (sc_own d_lead tk2 (hr.mono (by decide)) rfl (sar_v (se_var (pv 1)) (sar_v (se_var (pv 2)) (sar_nil))))))
      (ss_nil)) (ss_nil))
      (ss_cons (ss_if (sb_cmp (op_eqD hr.units) opD_eq (se_var (pv 0)) (se_int) (nomark _)) (ss_cons (ss_drop (fun te h => ps_expr h) (se_val (sc_own d_is_like tk2 (hr.mono (by decide)) rfl (sar_v (se_var (pv 1)) (sar_v (se_var (pv 2)) (sar_nil))))))
      (ss_nil)) (ss_nil))
      (ss_cons (ss_if (sb_cmp (op_eqD hr.units) opD_eq (se_var (pv 0)) (se_int) (nomark _)) (ss_cons (ss_drop (fun te h => ps_expr h) (se_val (sc_own d_belows tk2 (hr.mono (by decide)) rfl (sar_v (se_var (pv 1)) (sar_nil)))))
      (ss_nil)) (ss_nil))
      (ss_cons (ss_if (sb_cmp (op_eqD hr.units) opD_eq (se_var (pv 0)) (se_int) (nomark _)) (ss_cons (ss_drop (fun te h => ps_expr h) (se_val (sc_own d_short_die tk2 (hr.mono (by decide)) rfl (sar_v (se_var (pv 1)) (sar_nil)))))
      (ss_nil)) (ss_nil))
      (ss_cons (ss_if (sb_cmp (op_eqD hr.units) opD_eq (se_var (pv 0)) (se_int) (nomark _)) (ss_cons (ss_drop (fun te h => ps_expr h) (se_val (sc_own d_half_chance tk2 (hr.mono (by decide)) rfl (sar_v (se_var (pv 1)) (sar_v (se_var (pv 2)) (sar_nil))))))
      (ss_nil)) (ss_nil))
      (ss_nil)))))))))) (HdOk.as (by decide) rfl rfl rfl (su_set (fun a pn te h => ps_set (i := 4) S.nd rfl (by first | exact .inl rfl | exact .inr rfl) h) (sus_cons su_str (sus_cons (su_fld (fun a pn => pv 5)) (sus_cons (su_isi (fun a pn => pv 5) rfl rfl b.isinstance) (sus_nil))))) (HdOk.as (by decide) rfl rfl rfl (su_set (fun a pn te h => ps_set (i := 4) S.nd rfl (by first | exact .inl rfl | exact .inr rfl) h) (sus_cons su_str (sus_cons (su_fld (fun a pn => pv 5)) (sus_nil)))) (HdOk.as (by decide) rfl rfl rfl (su_set (fun a pn te h => ps_set (i := 4) S.nd rfl (by first | exact .inl rfl | exact .inr rfl) h) (sus_cons su_str (sus_cons (su_fld (fun a pn => pv 5)) (sus_nil)))) (HdOk.as (by decide) rfl rfl rfl (su_set (fun a pn te h => ps_set (i := 4) S.nd rfl (by first | exact .inl rfl | exact .inr rfl) h) (sus_cons su_str (sus_cons (su_fld (fun a pn => pv 5)) (sus_cons (su_fld (fun a pn => pv 5)) (sus_nil))))) (HdOk.plain (by decide) rfl rfl (su_plain (fun a pn te h => ps_set (i := 4) S.nd rfl (by first | exact .inl rfl | exact .inr rfl) h)) (HdOk.nil)))))))
      (ss_cons (ss_retVar (pv 4))
      (ss_nil)))

/-! law_refuses_dice -/
def b_law_refuses_dice : FS := sSeq (sSet 3 (eVal (cCall F_law_bad_die 2 (arS 0 (arV (eVar 1) (arNil))))))
      (sSeq (sSet 4 (eVal (cCall F_law_bad_die 2 (arS 0 (arV (eVar 2) (arNil))))))
      (sSeq (sSetF 5 (fCat (eFrz (fCB dList (aCons (eVar 2) (aNil)))) (eFrz (fLst (aCons (eC (.int 1)) (aNil))))))
      (sSeq (sSetF 6 (fLst (aCons (eC (.str "die")) (aCons (eIxVar 3 (eC (.int 1))) (aCons (eC (.bl false)) (aNil))))))
      (sSeq (sFor (gSeq (eFrz (fLst (aCons (eC (.int 3)) (aCons (eC (.int 4)) (aCons (eC (.int 5)) (aCons (eC (.int 8)) (aNil)))))))) (hName 7) (sSeq (sIf (tOr2 (tVal (eBin dNe (eVal (cCall F_law_told 4 (arV (eVar 7) (arV (eIxVar 3 (eC (.int 0))) (arV (eVar 5) (arV (eC (.int 0)) (arNil))))))) (eVar 6))) (tVal (eBin dNe (eVal (cCall F_law_told 4 (arV (eVar 7) (arV (eIxVar 3 (eC (.int 0))) (arV (eIxVar 4 (eC (.int 0))) (arV (eC (.int 0)) (arNil))))))) (eVar 6)))) (sSeq (sRet (eC (.bl false)))
      (sNil)) (sNil))
      (sSeq (sIf (tVal (eBin dNe (eVal (cCall F_law_told 4 (arV (eVar 7) (arV (eVar 1) (arV (eIxVar 4 (eC (.int 0))) (arV (eC (.int 0)) (arNil))))))) (eFrz (fLst (aCons (eC (.str "die")) (aCons (eIxVar 4 (eC (.int 1))) (aCons (eC (.bl false)) (aNil)))))))) (sSeq (sRet (eC (.bl false)))
      (sNil)) (sNil))
      (sSeq (sIf (tVal (eBin dNe (eVal (cCall F_law_told 4 (arV (eVar 7) (arV (eVar 1) (arV (eVar 5) (arV (eC (.int 0)) (arNil))))))) (eFrz (fLst (aCons (eC (.str "size")) (aCons (eCV dLen 1) (aCons (eCV dLen 5) (aNil)))))))) (sSeq (sRet (eC (.bl false)))
      (sNil)) (sNil))
      (sNil)))))
      (sSeq (sIf (tOr2 (tVal (eBin dNe (eVal (cCall F_law_told 4 (arV (eC (.int 0)) (arV (eIxVar 3 (eC (.int 0))) (arV (eUn dNeg (eC (.int 1))) (arV (eC (.int 0)) (arNil))))))) (eVar 6))) (tVal (eBin dNe (eVal (cCall F_law_told 4 (arV (eC (.int 6)) (arV (eIxVar 3 (eC (.int 0))) (arV (eC (.int 0)) (arV (eC (.int 0)) (arNil))))))) (eVar 6)))) (sSeq (sRet (eC (.bl false)))
      (sNil)) (sNil))
      (sSeq (sIf (tOr2 (tVal (eBin dNe (eVal (cCall F_law_told 4 (arV (eC (.int 7)) (arV (eIxVar 3 (eC (.int 0))) (arV (eC (.int 0)) (arV (eC (.int 0)) (arNil))))))) (eVar 6))) (tVal (eBin dNe (eVal (cCall F_law_told 4 (arV (eC (.int 2)) (arV (eFrz (fLst (aCons (eC (.int 1)) (aCons (eC (.int 2)) (aNil))))) (arV (eIxVar 3 (eC (.int 0))) (arV (eVar 5) (arNil))))))) (eVar 6)))) (sSeq (sRet (eC (.bl false)))
      (sNil)) (sNil))
      (sSeq (sRet (eBin dEq (eVal (cCall F_law_told 4 (arV (eC (.int 2)) (arV (eFrz (fLst (aCons (eC (.int 1)) (aCons (eC (.int 0)) (aNil))))) (arV (eVar 1) (arV (eVar 5) (arNil))))))) (eFrz (fLst (aCons (eC (.str "size")) (aCons (eCV dLen 1) (aCons (eCV dLen 5) (aNil))))))))
      (sNil))))))))
def F_law_refuses_dice : Fn := fnOf 8 3 (fun i => i == 0) b_law_refuses_dice
theorem sc_law_refuses_dice : FnScope ["_law_drawn", "_law_one", "_law_other", "_law_bad", "_law_again", "_law_longer", "_law_due", "_law_word"] ["_law_drawn", "_law_one", "_law_other"] (defScope st_law_refuses_dice) := ⟨rfl, rfl, rfl, by decide +kernel, rfl, by decide +kernel, by decide +kernel⟩
theorem ok_law_refuses_dice (d_law_bad_die : DefOk P w KK.K mg base "_law_bad_die" 2 2 F_law_bad_die) (d_law_told : DefOk P w KK.K mg base "_law_told" 6 4 F_law_told) (b : Blt mg) {f : Addr} {fd : FuncData} (F : FnP KK.K "_law_refuses_dice" st_law_refuses_dice f fd) (gF : mg "_law_refuses_dice" = some (.ref f)) : DefOk P w KK.K mg base "_law_refuses_dice" 7 3 F_law_refuses_dice := by
  have S := sc_law_refuses_dice
  refine ⟨f, fd, ["_law_drawn", "_law_one", "_law_other"], gF, def_ok (N := ["_law_drawn", "_law_one", "_law_other", "_law_bad", "_law_again", "_law_longer", "_law_due", "_law_word"]) (kp := (fun i => i == 0)) (g := b_law_refuses_dice) F S (by decide) (fun cdv A outer s H E hr => ?_), F.kp, F.bindsN fun _ _ _ _ _ _ us hl => match us, hl with | [_, _, _], _ => rfl⟩
  have tk : Takes (cxOf (L2.CX P w) P w KK.K mg base ["_law_drawn", "_law_one", "_law_other", "_law_bad", "_law_again", "_law_longer", "_law_due", "_law_word"] "_law_refuses_dice" (defScope st_law_refuses_dice) f cdv A outer s H E) (WD E) := takes_of rfl rfl rfl rfl
  exact ss_cons (ss_set (fun te h => ps_set (i := 3) S.nd rfl (by first | exact .inl rfl | exact .inr rfl) h) (se_val (sc_own d_law_bad_die tk (hr.mono (by decide)) rfl (sar_s (pv 0) (sar_v (se_var (pv 1)) (sar_nil))))) rfl)
      (ss_cons (ss_set (fun te h => ps_set (i := 4) S.nd rfl (by first | exact .inl rfl | exact .inr rfl) h) (se_val (sc_own d_law_bad_die tk (hr.mono (by decide)) rfl (sar_s (pv 0) (sar_v (se_var (pv 2)) (sar_nil))))) rfl)
      (ss_cons (ss_setF (fun te h => ps_set (i := 5) S.nd rfl (by first | exact .inl rfl | exact .inr rfl) h) (sf_cat (se_frz (sf_cb caF_list (fun ta h => pe_callTy call_list_of rfl b.list boot_list h) (sa_cons (se_var (pv 2)) (sa_nil)))) (se_frz (sf_lst (sa_cons (se_int) (sa_nil))))) rfl)
      (ss_cons (ss_setF (fun te h => ps_set (i := 6) S.nd rfl (by first | exact .inl rfl | exact .inr rfl) h) (sf_lst (sa_cons (se_str) (sa_cons (se_ixVar (fun tb h => pe_ix (ix_or ix_list ix_tup) (pv 3) h (fun _ _ => rfl)) (se_int)) (sa_cons (se_bl) (sa_nil))))) rfl)
      (ss_cons (ss_for (passes_of rfl) rfl (si_seq (se_frz (sf_lst (sa_cons (se_int) (sa_cons (se_int) (sa_cons (se_int) (sa_cons (se_int) (sa_nil)))))))) (sg_name (pg_name S.nd rfl (by first | exact .inl rfl | exact .inr rfl)) rfl) (ss_cons (ss_if (sb_w (sw_or (sb_cmp (op_neD hr.units) opD_ne (se_val (sc_own d_law_told tk (hr.mono (by decide)) rfl (sar_v (se_var (pv 7)) (sar_v (se_ixVar (fun tb h => pe_ix (ix_or ix_list ix_tup) (pv 3) h (fun _ _ => rfl)) (se_int)) (sar_v (se_var (pv 5)) (sar_v (se_int) (sar_nil))))))) (se_var (pv 6)) (nomark _)) (sw_or1 (sb_cmp (op_neD hr.units) opD_ne (se_val (sc_own d_law_told tk (hr.mono (by decide)) rfl (sar_v (se_var (pv 7)) (sar_v (se_ixVar (fun tb h => pe_ix (ix_or ix_list ix_tup) (pv 3) h (fun _ _ => rfl)) (se_int)) (sar_v (se_ixVar (fun tb h => pe_ix (ix_or ix_list ix_tup) (pv 4) h (fun _ _ => rfl)) (se_int)) (sar_v (se_int) (sar_nil))))))) (se_var (pv 6)) (nomark _))))) (ss_cons (ss_ret (se_bl))
      (ss_nil)) (ss_nil))
      (ss_cons (ss_if (sb_cmp (op_neD hr.units) opD_ne (se_val (sc_own d_law_told tk (hr.mono (by decide)) rfl (sar_v (se_var (pv 7)) (sar_v (se_var (pv 1)) (sar_v (se_ixVar (fun tb h => pe_ix (ix_or ix_list ix_tup) (pv 4) h (fun _ _ => rfl)) (se_int)) (sar_v (se_int) (sar_nil))))))) (se_frz (sf_lst (sa_cons (se_str) (sa_cons (se_ixVar (fun tb h => pe_ix (ix_or ix_list ix_tup) (pv 4) h (fun _ _ => rfl)) (se_int)) (sa_cons (se_bl) (sa_nil)))))) (nomark _)) (ss_cons (ss_ret (se_bl))
      (ss_nil)) (ss_nil))
      (ss_cons (ss_if (sb_cmp (op_neD hr.units) opD_ne (se_val (sc_own d_law_told tk (hr.mono (by decide)) rfl (sar_v (se_var (pv 7)) (sar_v (se_var (pv 1)) (sar_v (se_var (pv 5)) (sar_v (se_int) (sar_nil))))))) (se_frz (sf_lst (sa_cons (se_str) (sa_cons (se_cv caD_len caV_len (fun ta h => pe_callB call_len_seq rfl b.len boot_len h) (pv 1)) (sa_cons (se_cv caD_len caV_len (fun ta h => pe_callB call_len_seq rfl b.len boot_len h) (pv 5)) (sa_nil)))))) (nomark _)) (ss_cons (ss_ret (se_bl))
      (ss_nil)) (ss_nil))
      (ss_nil)))))
      (ss_cons (ss_if (sb_w (sw_or (sb_cmp (op_neD hr.units) opD_ne (se_val (sc_own d_law_told tk (hr.mono (by decide)) rfl (sar_v (se_int) (sar_v (se_ixVar (fun tb h => pe_ix (ix_or ix_list ix_tup) (pv 3) h (fun _ _ => rfl)) (se_int)) (sar_v (se_un un_neg unD_neg (se_int)) (sar_v (se_int) (sar_nil))))))) (se_var (pv 6)) (nomark _)) (sw_or1 (sb_cmp (op_neD hr.units) opD_ne (se_val (sc_own d_law_told tk (hr.mono (by decide)) rfl (sar_v (se_int) (sar_v (se_ixVar (fun tb h => pe_ix (ix_or ix_list ix_tup) (pv 3) h (fun _ _ => rfl)) (se_int)) (sar_v (se_int) (sar_v (se_int) (sar_nil))))))) (se_var (pv 6)) (nomark _))))) (ss_cons (ss_ret (se_bl))
      (ss_nil)) (ss_nil))
      (ss_cons (ss_if (sb_w (sw_or (sb_cmp (op_neD hr.units) opD_ne (se_val (sc_own d_law_told tk (hr.mono (by decide)) rfl (sar_v (se_int) (sar_v (se_ixVar (fun tb h => pe_ix (ix_or ix_list ix_tup) (pv 3) h (fun _ _ => rfl)) (se_int)) (sar_v (se_int) (sar_v (se_int) (sar_nil))))))) (se_var (pv 6)) (nomark _)) (sw_or1 (sb_cmp (op_neD hr.units) opD_ne (se_val (sc_own d_law_told tk (hr.mono (by decide)) rfl (sar_v (se_int) (sar_v (se_frz (sf_lst (sa_cons (se_int) (sa_cons (se_int) (sa_nil))))) (sar_v (se_ixVar (fun tb h => pe_ix (ix_or ix_list ix_tup) (pv 3) h (fun _ _ => rfl)) (se_int)) (sar_v (se_var (pv 5)) (sar_nil))))))) (se_var (pv 6)) (nomark _))))) (ss_cons (ss_ret (se_bl))
      (ss_nil)) (ss_nil))
      (ss_cons (ss_ret (se_cmp (op_eqD hr.units) opD_eq (se_val (sc_own d_law_told tk (hr.mono (by decide)) rfl (sar_v (se_int) (sar_v (se_frz (sf_lst (sa_cons (se_int) (sa_cons (se_int) (sa_nil))))) (sar_v (se_var (pv 1)) (sar_v (se_var (pv 5)) (sar_nil))))))) (se_frz (sf_lst (sa_cons (se_str) (sa_cons (se_cv caD_len caV_len (fun ta h => pe_callB call_len_seq rfl b.len boot_len h) (pv 1)) (sa_cons (se_cv caD_len caV_len (fun ta h => pe_callB call_len_seq rfl b.len boot_len h) (pv 5)) (sa_nil)))))) (nomark _)))
      (ss_nil))))))))

/-! law_refuses_numbers -/
def b_law_refuses_numbers : FS := sSeq (sSet 3 (eCV dLen 1))
      (sSeq (sSet 4 (eBin dIx (eFrz (fLst (aCons (eUn dNeg (eC (.int 1))) (aCons (eBin dAdd (eVar 3) (eC (.int 1))) (aCons (eC (.bl true)) (aCons (eC .non) (aCons (eTup (aCons (eC (.int 1)) (aNil))) (aCons (eC (.str "1")) (aNil))))))))) (eVal (cCall F_law_take 2 (arS 0 (arV (eC (.int 6)) (arNil)))))))
      (sSeq (sIf (tVal (eBin dNe (eVal (cCall F_law_told 4 (arV (eC (.int 0)) (arV (eVar 1) (arV (eVar 4) (arV (eC (.int 0)) (arNil))))))) (eFrz (fLst (aCons (eC (.str "number")) (aCons (eC (.str "gap")) (aNil))))))) (sSeq (sRet (eC (.bl false)))
      (sNil)) (sNil))
      (sSeq (sSet 5 (eBin dIx (eFrz (fLst (aCons (eC (.int 0)) (aCons (eUn dNeg (eC (.int 3))) (aCons (eC (.bl true)) (aCons (eC .non) (aCons (eC (.str "2")) (aNil)))))))) (eVal (cCall F_law_take 2 (arS 0 (arV (eC (.int 5)) (arNil)))))))
      (sSeq (sSet 6 (eBin dIx (eFrz (fLst (aCons (eVar 3) (aCons (eUn dNeg (eC (.int 1))) (aCons (eC (.bl false)) (aCons (eC .non) (aCons (eFrz (fLst (aCons (eC (.int 0)) (aNil)))) (aNil)))))))) (eVal (cCall F_law_take 2 (arS 0 (arV (eC (.int 5)) (arNil)))))))
      (sSeq (sIf (tVal (eBin dNe (eVal (cCall F_law_told 4 (arV (eC (.int 1)) (arV (eVar 5) (arV (eVar 6) (arV (eVar 5) (arNil))))))) (eFrz (fLst (aCons (eC (.str "number")) (aCons (eC (.str "ranks")) (aNil))))))) (sSeq (sRet (eC (.bl false)))
      (sNil)) (sNil))
      (sSeq (sIf (tVal (eBin dNe (eVal (cCall F_law_told 4 (arV (eC (.int 1)) (arV (eVar 3) (arV (eVar 6) (arV (eVar 5) (arNil))))))) (eFrz (fLst (aCons (eC (.str "number")) (aCons (eC (.str "rank")) (aNil))))))) (sSeq (sRet (eC (.bl false)))
      (sNil)) (sNil))
      (sSeq (sIf (tVal (eBin dNe (eVal (cCall F_law_told 4 (arV (eC (.int 1)) (arV (eVar 3) (arV (eBin dSub (eVar 3) (eC (.int 1))) (arV (eVar 5) (arNil))))))) (eFrz (fLst (aCons (eC (.str "number")) (aCons (eC (.str "count")) (aNil))))))) (sSeq (sRet (eC (.bl false)))
      (sNil)) (sNil))
      (sSeq (sSetF 7 (fLst (aCons (eFrz (fLst (aCons (eC (.int 1)) (aNil)))) (aCons (eFrz (fLst (aCons (eC (.int 0)) (aCons (eC (.int 0)) (aNil))))) (aCons (eC .non) (aCons (eFrz (fLst (aNil))) (aCons (eFrz (fLst (aCons (eC (.int 1)) (aCons (eC (.int 1)) (aCons (eC (.int 1)) (aNil)))))) (aCons (eFrz (fLst (aCons (eUn dNeg (eC (.int 1))) (aCons (eC (.bl true)) (aNil))))) (aCons (eFrz (fLst (aCons (eC (.int 0)) (aCons (eUn dNeg (eC (.int 1))) (aNil))))) (aCons (eFrz (fLst (aCons (eC (.int 2)) (aCons (eC (.bl true)) (aNil))))) (aCons (eFrz (fLst (aCons (eC (.bl true)) (aCons (eC (.int 1)) (aNil))))) (aCons (eFrz (fLst (aCons (eC (.int 3)) (aCons (eTup (aCons (eC (.int 1)) (aNil))) (aNil))))) (aNil)))))))))))))
      (sSeq (sSetF 8 (fLst (aCons (eUn dNeg (eC (.int 1))) (aCons (eUn dNeg (eC (.int 1))) (aCons (eUn dNeg (eC (.int 1))) (aCons (eUn dNeg (eC (.int 1))) (aCons (eUn dNeg (eC (.int 1))) (aCons (eC (.int 0)) (aCons (eC (.int 1)) (aCons (eC (.int 1)) (aCons (eC (.int 0)) (aCons (eC (.int 1)) (aNil)))))))))))))
      (sSeq (sSet 9 (eVal (cCall F_law_take 2 (arS 0 (arV (eC (.int 10)) (arNil))))))
      (sSeq (sIf (tVal (eBin dNe (eVal (cCall F_law_told 4 (arV (eC (.int 2)) (arV (eIxVar 7 (eVar 9)) (arV (eFrz (fLst (aNil))) (arV (eVar 2) (arNil))))))) (eFrz (fLst (aCons (eC (.str "weights")) (aCons (eIxVar 8 (eVar 9)) (aNil))))))) (sSeq (sRet (eC (.bl false)))
      (sNil)) (sNil))
      (sSeq (sSet 10 (eBin dIx (eFrz (fLst (aCons (eTup (aCons (eC (.int 1)) (aCons (eC (.int 0)) (aNil)))) (aCons (eTup (aCons (eC (.int 1)) (aCons (eC (.int 2)) (aCons (eC (.int 3)) (aNil))))) (aCons (eC (.str "1/2")) (aCons (eC .non) (aCons (eC (.bl true)) (aCons (eTup (aCons (eC (.int 1)) (aCons (eC (.bl true)) (aNil)))) (aCons (eFrz (fLst (aCons (eC (.int 1)) (aCons (eUn dNeg (eC (.int 2))) (aNil))))) (aCons (eFrz (fLst (aCons (eC (.int 1)) (aNil)))) (aCons (eFrz (fLst (aCons (eC .non) (aCons (eC (.int 2)) (aNil))))) (aNil)))))))))))) (eVal (cCall F_law_take 2 (arS 0 (arV (eC (.int 9)) (arNil)))))))
      (sSeq (sSet 11 (eBin dIx (eFrz (fLst (aCons (eTup (aCons (eC (.int 2)) (aCons (eC (.int 3)) (aNil)))) (aCons (eC (.int 0)) (aCons (eFrz (fLst (aCons (eC (.int 0)) (aCons (eC (.int 5)) (aNil))))) (aCons (eUn dNeg (eC (.int 4))) (aNil))))))) (eVal (cCall F_law_take 2 (arS 0 (arV (eC (.int 4)) (arNil)))))))
      (sSeq (sFor (gRng1 (aCons (eC (.int 6)) (aNil))) (hName 9) (sSeq (sIf (tVal (eBin dNe (eVal (cCall F_law_told_of_two 3 (arV (eVar 9) (arV (eVar 10) (arV (eVar 10) (arNil)))))) (eFrz (fLst (aCons (eC (.str "number")) (aCons (eC (.str "first")) (aNil))))))) (sSeq (sRet (eC (.bl false)))
      (sNil)) (sNil))
      (sSeq (sIf (tVal (eBin dNe (eVal (cCall F_law_told_of_two 3 (arV (eVar 9) (arV (eVar 11) (arV (eVar 10) (arNil)))))) (eFrz (fLst (aCons (eC (.str "number")) (aCons (eC (.str "second")) (aNil))))))) (sSeq (sRet (eC (.bl false)))
      (sNil)) (sNil))
      (sNil))))
      (sSeq (sRet (eBin dEq (eVal (cCall F_law_told_of_two 3 (arV (eC (.int 3)) (arV (eVar 11) (arV (eFrz (fLst (aCons (eC (.int 0)) (aCons (eBin dAdd (eC (.int 1)) (eVal (cCall F_law_take 2 (arS 0 (arV (eC (.int 4)) (arNil)))))) (aNil))))) (arNil)))))) (eFrz (fLst (aCons (eC (.str "number")) (aCons (eC (.str "divisor")) (aNil)))))))
      (sNil))))))))))))))))
def F_law_refuses_numbers : Fn := fnOf 12 3 (fun i => i == 0) b_law_refuses_numbers
theorem sc_law_refuses_numbers : FnScope ["_law_drawn", "_law_one", "_law_other", "_law_ranks", "_law_gap", "_law_low", "_law_beyond", "_law_weights", "_law_places", "_law_word", "_law_wrong", "_law_good"] ["_law_drawn", "_law_one", "_law_other"] (defScope st_law_refuses_numbers) := ⟨rfl, rfl, rfl, by decide +kernel, rfl, by decide +kernel, by decide +kernel⟩
theorem ok_law_refuses_numbers (d_law_take : DefOk P w KK.K mg base "_law_take" 1 2 F_law_take) (d_law_told : DefOk P w KK.K mg base "_law_told" 6 4 F_law_told) (d_law_told_of_two : DefOk P w KK.K mg base "_law_told_of_two" 6 3 F_law_told_of_two) (b : Blt mg) {f : Addr} {fd : FuncData} (F : FnP KK.K "_law_refuses_numbers" st_law_refuses_numbers f fd) (gF : mg "_law_refuses_numbers" = some (.ref f)) : DefOk P w KK.K mg base "_law_refuses_numbers" 7 3 F_law_refuses_numbers := by
  have S := sc_law_refuses_numbers
  refine ⟨f, fd, ["_law_drawn", "_law_one", "_law_other"], gF, def_ok (N := ["_law_drawn", "_law_one", "_law_other", "_law_ranks", "_law_gap", "_law_low", "_law_beyond", "_law_weights", "_law_places", "_law_word", "_law_wrong", "_law_good"]) (kp := (fun i => i == 0)) (g := b_law_refuses_numbers) F S (by decide) (fun cdv A outer s H E hr => ?_), F.kp, F.bindsN fun _ _ _ _ _ _ us hl => match us, hl with | [_, _, _], _ => rfl⟩
  have tk : Takes (cxOf (L2.CX P w) P w KK.K mg base ["_law_drawn", "_law_one", "_law_other", "_law_ranks", "_law_gap", "_law_low", "_law_beyond", "_law_weights", "_law_places", "_law_word", "_law_wrong", "_law_good"] "_law_refuses_numbers" (defScope st_law_refuses_numbers) f cdv A outer s H E) (WD E) := takes_of rfl rfl rfl rfl
  exact ss_cons (ss_set (fun te h => ps_set (i := 3) S.nd rfl (by first | exact .inl rfl | exact .inr rfl) h) (se_cv caD_len caV_len (fun ta h => pe_callB call_len_seq rfl b.len boot_len h) (pv 1)) rfl)
      (ss_cons (ss_set (fun te h => ps_set (i := 4) S.nd rfl (by first | exact .inl rfl | exact .inr rfl) h) (se_ix (ix_or ix_list ix_tup) opD_ix (se_frz (sf_lst (sa_cons (se_un un_neg unD_neg (se_int)) (sa_cons (se_op op_add opD_add (se_var (pv 3)) (se_int)) (sa_cons (se_bl) (sa_cons (se_non) (sa_cons (se_tup (sa_cons (se_int) (sa_nil))) (sa_cons (se_str) (sa_nil))))))))) (se_val (sc_own d_law_take tk (hr.mono (by decide)) rfl (sar_s (pv 0) (sar_v (se_int) (sar_nil))))) (fun _ _ => rfl)) rfl)
      (ss_cons (ss_if (sb_cmp (op_neD hr.units) opD_ne (se_val (sc_own d_law_told tk (hr.mono (by decide)) rfl (sar_v (se_int) (sar_v (se_var (pv 1)) (sar_v (se_var (pv 4)) (sar_v (se_int) (sar_nil))))))) (se_frz (sf_lst (sa_cons (se_str) (sa_cons (se_str) (sa_nil))))) (nomark _)) (ss_cons (ss_ret (se_bl))
      (ss_nil)) (ss_nil))
      (ss_cons (ss_set (fun te h => ps_set (i := 5) S.nd rfl (by first | exact .inl rfl | exact .inr rfl) h) (se_ix (ix_or ix_list ix_tup) opD_ix (se_frz (sf_lst (sa_cons (se_int) (sa_cons (se_un un_neg unD_neg (se_int)) (sa_cons (se_bl) (sa_cons (se_non) (sa_cons (se_str) (sa_nil)))))))) (se_val (sc_own d_law_take tk (hr.mono (by decide)) rfl (sar_s (pv 0) (sar_v (se_int) (sar_nil))))) (fun _ _ => rfl)) rfl)
      (ss_cons (ss_set (fun te h => ps_set (i := 6) S.nd rfl (by first | exact .inl rfl | exact .inr rfl) h) (se_ix (ix_or ix_list ix_tup) opD_ix (se_frz (sf_lst (sa_cons (se_var (pv 3)) (sa_cons (se_un un_neg unD_neg (se_int)) (sa_cons (se_bl) (sa_cons (se_non) (sa_cons (se_frz (sf_lst (sa_cons (se_int) (sa_nil)))) (sa_nil)))))))) (se_val (sc_own d_law_take tk (hr.mono (by decide)) rfl (sar_s (pv 0) (sar_v (se_int) (sar_nil))))) (fun _ _ => rfl)) rfl)
      (ss_cons (ss_if (sb_cmp (op_neD hr.units) opD_ne (se_val (sc_own d_law_told tk (hr.mono (by decide)) rfl (sar_v (se_int) (sar_v (se_var (pv 5)) (sar_v (se_var (pv 6)) (sar_v (se_var (pv 5)) (sar_nil))))))) (se_frz (sf_lst (sa_cons (se_str) (sa_cons (se_str) (sa_nil))))) (nomark _)) (ss_cons (ss_ret (se_bl))
      (ss_nil)) (ss_nil))
      (ss_cons (ss_if (sb_cmp (op_neD hr.units) opD_ne (se_val (sc_own d_law_told tk (hr.mono (by decide)) rfl (sar_v (se_int) (sar_v (se_var (pv 3)) (sar_v (se_var (pv 6)) (sar_v (se_var (pv 5)) (sar_nil))))))) (se_frz (sf_lst (sa_cons (se_str) (sa_cons (se_str) (sa_nil))))) (nomark _)) (ss_cons (ss_ret (se_bl))
      (ss_nil)) (ss_nil))
      (ss_cons (ss_if (sb_cmp (op_neD hr.units) opD_ne (se_val (sc_own d_law_told tk (hr.mono (by decide)) rfl (sar_v (se_int) (sar_v (se_var (pv 3)) (sar_v (se_op op_sub opD_sub (se_var (pv 3)) (se_int)) (sar_v (se_var (pv 5)) (sar_nil))))))) (se_frz (sf_lst (sa_cons (se_str) (sa_cons (se_str) (sa_nil))))) (nomark _)) (ss_cons (ss_ret (se_bl))
      (ss_nil)) (ss_nil))
      (ss_cons (ss_setF (fun te h => ps_set (i := 7) S.nd rfl (by first | exact .inl rfl | exact .inr rfl) h) (sf_lst (sa_cons (se_frz (sf_lst (sa_cons (se_int) (sa_nil)))) (sa_cons (se_frz (sf_lst (sa_cons (se_int) (sa_cons (se_int) (sa_nil))))) (sa_cons (se_non) (sa_cons (se_frz (sf_lst (sa_nil))) (sa_cons (se_frz (sf_lst (sa_cons (se_int) (sa_cons (se_int) (sa_cons (se_int) (sa_nil)))))) (sa_cons (se_frz (sf_lst (sa_cons (se_un un_neg unD_neg (se_int)) (sa_cons (se_bl) (sa_nil))))) (sa_cons (se_frz (sf_lst (sa_cons (se_int) (sa_cons (se_un un_neg unD_neg (se_int)) (sa_nil))))) (sa_cons (se_frz (sf_lst (sa_cons (se_int) (sa_cons (se_bl) (sa_nil))))) (sa_cons (se_frz (sf_lst (sa_cons (se_bl) (sa_cons (se_int) (sa_nil))))) (sa_cons (se_frz (sf_lst (sa_cons (se_int) (sa_cons (se_tup (sa_cons (se_int) (sa_nil))) (sa_nil))))) (sa_nil)))))))))))) rfl)
      (ss_cons (ss_setF (fun te h => ps_set (i := 8) S.nd rfl (by first | exact .inl rfl | exact .inr rfl) h) (sf_lst (sa_cons (se_un un_neg unD_neg (se_int)) (sa_cons (se_un un_neg unD_neg (se_int)) (sa_cons (se_un un_neg unD_neg (se_int)) (sa_cons (se_un un_neg unD_neg (se_int)) (sa_cons (se_un un_neg unD_neg (se_int)) (sa_cons (se_int) (sa_cons (se_int) (sa_cons (se_int) (sa_cons (se_int) (sa_cons (se_int) (sa_nil)))))))))))) rfl)
      (ss_cons (ss_set (fun te h => ps_set (i := 9) S.nd rfl (by first | exact .inl rfl | exact .inr rfl) h) (se_val (sc_own d_law_take tk (hr.mono (by decide)) rfl (sar_s (pv 0) (sar_v (se_int) (sar_nil))))) rfl)
      (ss_cons (ss_if (sb_cmp (op_neD hr.units) opD_ne (se_val (sc_own d_law_told tk (hr.mono (by decide)) rfl (sar_v (se_int) (sar_v (se_ixVar (fun tb h => pe_ix (ix_or ix_list ix_tup) (pv 7) h (fun _ _ => rfl)) (se_var (pv 9))) (sar_v (se_frz (sf_lst (sa_nil))) (sar_v (se_var (pv 2)) (sar_nil))))))) (se_frz (sf_lst (sa_cons (se_str) (sa_cons (se_ixVar (fun tb h => pe_ix (ix_or ix_list ix_tup) (pv 8) h (fun _ _ => rfl)) (se_var (pv 9))) (sa_nil))))) (nomark _)) (ss_cons (ss_ret (se_bl))
      (ss_nil)) (ss_nil))
      (ss_cons (ss_set (fun te h => ps_set (i := 10) S.nd rfl (by first | exact .inl rfl | exact .inr rfl) h) (se_ix (ix_or ix_list ix_tup) opD_ix (se_frz (sf_lst (sa_cons (se_tup (sa_cons (se_int) (sa_cons (se_int) (sa_nil)))) (sa_cons (se_tup (sa_cons (se_int) (sa_cons (se_int) (sa_cons (se_int) (sa_nil))))) (sa_cons (se_str) (sa_cons (se_non) (sa_cons (se_bl) (sa_cons (se_tup (sa_cons (se_int) (sa_cons (se_bl) (sa_nil)))) (sa_cons (se_frz (sf_lst (sa_cons (se_int) (sa_cons (se_un un_neg unD_neg (se_int)) (sa_nil))))) (sa_cons (se_frz (sf_lst (sa_cons (se_int) (sa_nil)))) (sa_cons (se_frz (sf_lst (sa_cons (se_non) (sa_cons (se_int) (sa_nil))))) (sa_nil)))))))))))) (se_val (sc_own d_law_take tk (hr.mono (by decide)) rfl (sar_s (pv 0) (sar_v (se_int) (sar_nil))))) (fun _ _ => rfl)) rfl)
      (ss_cons (ss_set (fun te h => ps_set (i := 11) S.nd rfl (by first | exact .inl rfl | exact .inr rfl) h) (se_ix (ix_or ix_list ix_tup) opD_ix (se_frz (sf_lst (sa_cons (se_tup (sa_cons (se_int) (sa_cons (se_int) (sa_nil)))) (sa_cons (se_int) (sa_cons (se_frz (sf_lst (sa_cons (se_int) (sa_cons (se_int) (sa_nil))))) (sa_cons (se_un un_neg unD_neg (se_int)) (sa_nil))))))) (se_val (sc_own d_law_take tk (hr.mono (by decide)) rfl (sar_s (pv 0) (sar_v (se_int) (sar_nil))))) (fun _ _ => rfl)) rfl)
      (ss_cons (ss_for (passes_of rfl) rfl (si_rng1 (fun ta h => pi_range1 rfl b.range h) (sa_cons (se_int) (sa_nil))) (sg_name (pg_name S.nd rfl (by first | exact .inl rfl | exact .inr rfl)) rfl) (ss_cons (ss_if (sb_cmp (op_neD hr.units) opD_ne (se_val (sc_own d_law_told_of_two tk (hr.mono (by decide)) rfl (sar_v (se_var (pv 9)) (sar_v (se_var (pv 10)) (sar_v (se_var (pv 10)) (sar_nil)))))) (se_frz (sf_lst (sa_cons (se_str) (sa_cons (se_str) (sa_nil))))) (nomark _)) (ss_cons (ss_ret (se_bl))
      (ss_nil)) (ss_nil))
      (ss_cons (ss_if (sb_cmp (op_neD hr.units) opD_ne (se_val (sc_own d_law_told_of_two tk (hr.mono (by decide)) rfl (sar_v (se_var (pv 9)) (sar_v (se_var (pv 11)) (sar_v (se_var (pv 10)) (sar_nil)))))) (se_frz (sf_lst (sa_cons (se_str) (sa_cons (se_str) (sa_nil))))) (nomark _)) (ss_cons (ss_ret (se_bl))
      (ss_nil)) (ss_nil))
      (ss_nil))))
      (ss_cons (ss_ret (se_cmp (op_eqD hr.units) opD_eq (se_val (sc_own d_law_told_of_two tk (hr.mono (by decide)) rfl (sar_v (se_int) (sar_v (se_var (pv 11)) (sar_v (se_frz (sf_lst (sa_cons (se_int) (sa_cons (se_op op_add opD_add (se_int) (se_val (sc_own d_law_take tk (hr.mono (by decide)) rfl (sar_s (pv 0) (sar_v (se_int) (sar_nil)))))) (sa_nil))))) (sar_nil)))))) (se_frz (sf_lst (sa_cons (se_str) (sa_cons (se_str) (sa_nil))))) (nomark _)))
      (ss_nil))))))))))))))))

/-! law -/
def b_law : FS := sSeq (sSetF 1 (fVal (cCall F_law_draws 1 (arV (eVar 0) (arNil)))))
      (sSeq (sSet 2 (eVal (cCall F_law_sizes 1 (arS 1 (arNil)))))
      (sSeq (sSetF 3 (fVal (cCall F_law_dice 3 (arS 1 (arV (eC (.int 3)) (arV (eIxVar 2 (eC (.int 1))) (arNil)))))))
      (sSeq (sSet 4 (eBin dIx (eFrz (fLst (aCons (eC (.int 1)) (aCons (eC (.int 1)) (aCons (eC (.int 1)) (aCons (eC (.int 1)) (aCons (eC (.int 1)) (aCons (eBin dPow (eC (.int 10)) (eC (.int 28))) (aNil))))))))) (eVal (cCall F_law_take 2 (arS 1 (arV (eC (.int 6)) (arNil)))))))
      (sSeq (sSetIx 3 (eC (.int 1)) (eFrz (fComp (gSeq (eIxVar 3 (eC (.int 1)))) (hName 7) (tYes2) (eBin dMul (eVar 4) (eVar 7)) [7])))
      (sSeq (sSetF 5 (fComp (gSeq (eVar 3)) (hName 8) (tYes2) (eFrz (fCB dList (aCons (eVar 8) (aNil)))) [8]))
      (sSeq (sIf (tOr2 (tNot2 (tVal (eVal (cCall F_law_areas_hold 2 (arV (eIxVar 3 (eC (.int 0))) (arV (eIxVar 3 (eC (.int 1))) (arNil))))))) (tNot2 (tVal (eVal (cCall F_law_areas_hold 2 (arV (eIxVar 3 (eC (.int 2))) (arV (eCB dTuple (aCons (eIxVar 3 (eC (.int 0))) (aNil))) (arNil)))))))) (sSeq (sRet (eC (.bl false)))
      (sNil)) (sNil))
      (sSeq (sIf (tOr2 (tNot2 (tVal (eVal (cCall F_law_throws_hold 2 (arV (eIxVar 3 (eC (.int 0))) (arV (eIxVar 3 (eC (.int 1))) (arNil))))))) (tNot2 (tVal (eVal (cCall F_law_throws_hold 2 (arV (eIxVar 3 (eC (.int 2))) (arV (eIxVar 3 (eC (.int 2))) (arNil)))))))) (sSeq (sRet (eC (.bl false)))
      (sNil)) (sNil))
      (sSeq (sIf (tOr2 (tNot2 (tVal (eVal (cCall F_law_fractions_hold 2 (arV (eIxVar 3 (eC (.int 1))) (arV (eIxVar 3 (eC (.int 2))) (arNil))))))) (tNot2 (tVal (eVal (cCall F_law_moved_holds 3 (arS 1 (arV (eIxVar 3 (eC (.int 0))) (arV (eIxVar 3 (eC (.int 1))) (arNil))))))))) (sSeq (sRet (eC (.bl false)))
      (sNil)) (sNil))
      (sSeq (sIf (tOr2 (tNot2 (tVal (eVal (cCall F_law_single_holds 2 (arS 1 (arV (eIxVar 3 (eC (.int 1))) (arNil))))))) (tNot2 (tVal (eVal (cCall F_law_mixed_holds 2 (arS 1 (arV (eVar 3) (arNil)))))))) (sSeq (sRet (eC (.bl false)))
      (sNil)) (sNil))
      (sSeq (sIf (tNot2 (tVal (eVal (cCall F_law_like_holds 3 (arS 1 (arV (eIxVar 3 (eC (.int 0))) (arV (eIxVar 3 (eC (.int 1))) (arNil)))))))) (sSeq (sRet (eC (.bl false)))
      (sNil)) (sNil))
      (sSeq (sIf (tVal (eBin dNe (eVal (cCall F_areas 2 (arV (eCB dTuple (aCons (eIxVar 3 (eC (.int 0))) (aNil))) (arV (eCB dTuple (aCons (eIxVar 3 (eC (.int 1))) (aNil))) (arNil))))) (eVal (cCall F_areas 2 (arV (eIxVar 3 (eC (.int 0))) (arV (eIxVar 3 (eC (.int 1))) (arNil))))))) (sSeq (sRet (eC (.bl false)))
      (sNil)) (sNil))
      (sSeq (sSet 6 (eVal (cCall F_law_take 2 (arS 1 (arV (eC (.int 4)) (arNil))))))
      (sSeq (sIf (tAnd2 (tVal (eBin dLt (eVar 6) (eC (.int 2)))) (tNot2 (tVal (eVal (cCall F_law_refuses_dice 3 (arS 1 (arV (eIxVar 3 (eC (.int 0))) (arV (eIxVar 3 (eC (.int 1))) (arNil))))))))) (sSeq (sRet (eC (.bl false)))
      (sNil)) (sNil))
      (sSeq (sIf (tAnd2 (tVal (eBin dGt (eVar 6) (eC (.int 1)))) (tNot2 (tVal (eVal (cCall F_law_refuses_numbers 3 (arS 1 (arV (eIxVar 3 (eC (.int 0))) (arV (eIxVar 3 (eC (.int 1))) (arNil))))))))) (sSeq (sRet (eC (.bl false)))
      (sNil)) (sNil))
      (sSeq (sRet (eBin dEq (eVar 3) (eVar 5)))
      (sNil))))))))))))))))
def F_law : Fn := fnOf 9 1 (fun _ => false) b_law
theorem sc_law : FnScope ["_law_script", "_law_drawn", "_law_sizes_here", "_law_dice_here", "_law_price", "_law_kept", "_law_word", "_law_entry", "_law_die_here"] ["_law_script"] (defScope st_law) := ⟨rfl, rfl, rfl, by decide +kernel, rfl, by decide +kernel, by decide +kernel⟩
theorem okF_law (d_law_areas_hold : DefOk P w KK.K mg base "_law_areas_hold" 6 2 F_law_areas_hold) (d_law_dice : DefOk P w KK.K mg base "_law_dice" 3 3 F_law_dice) (d_law_draws : DefOk P w KK.K mg base "_law_draws" 1 1 F_law_draws) (d_law_fractions_hold : DefOk P w KK.K mg base "_law_fractions_hold" 6 2 F_law_fractions_hold) (d_law_like_holds : DefOk P w KK.K mg base "_law_like_holds" 6 3 F_law_like_holds) (d_law_mixed_holds : DefOk P w KK.K mg base "_law_mixed_holds" 6 2 F_law_mixed_holds) (d_law_moved_holds : DefOk P w KK.K mg base "_law_moved_holds" 6 3 F_law_moved_holds) (d_law_refuses_dice : DefOk P w KK.K mg base "_law_refuses_dice" 7 3 F_law_refuses_dice) (d_law_refuses_numbers : DefOk P w KK.K mg base "_law_refuses_numbers" 7 3 F_law_refuses_numbers) (d_law_single_holds : DefOk P w KK.K mg base "_law_single_holds" 6 2 F_law_single_holds) (d_law_sizes : DefOk P w KK.K mg base "_law_sizes" 2 1 F_law_sizes) (d_law_take : DefOk P w KK.K mg base "_law_take" 1 2 F_law_take) (d_law_throws_hold : DefOk P w KK.K mg base "_law_throws_hold" 6 2 F_law_throws_hold) (d_areas : DefOk P w KK.K mg base "areas" 5 2 F_areas) (b : Blt mg) {f : Addr} {fd : FuncData} (F : FnP KK.K "law" st_law f fd) : FnOk P w KK.K mg base (L2.CX P w) 8 f fd ["_law_script"] (SpF mg F_law 1) := by
  have S := sc_law
  refine def_ok (N := ["_law_script", "_law_drawn", "_law_sizes_here", "_law_dice_here", "_law_price", "_law_kept", "_law_word", "_law_entry", "_law_die_here"]) (kp := (fun _ => false)) (g := b_law) F S (by decide) (fun cdv A outer s H E hr => ?_)
  have tk : Takes (cxOf (L2.CX P w) P w KK.K mg base ["_law_script", "_law_drawn", "_law_sizes_here", "_law_dice_here", "_law_price", "_law_kept", "_law_word", "_law_entry", "_law_die_here"] "law" (defScope st_law) f cdv A outer s H E) (WD E) := takes_of rfl rfl rfl rfl
  exact ss_cons (ss_setF (fun te h => ps_set (i := 1) S.nd rfl (by first | exact .inl rfl | exact .inr rfl) h) (sf_val (sc_own d_law_draws tk (hr.mono (by decide)) rfl (sar_v (se_var (pv 0)) (sar_nil)))) rfl)
      (ss_cons (ss_set (fun te h => ps_set (i := 2) S.nd rfl (by first | exact .inl rfl | exact .inr rfl) h) (se_val (sc_own d_law_sizes tk (hr.mono (by decide)) rfl (sar_s (pv 1) (sar_nil)))) rfl)
      (ss_cons (ss_setF (fun te h => ps_set (i := 3) S.nd rfl (by first | exact .inl rfl | exact .inr rfl) h) (sf_val (sc_own d_law_dice tk (hr.mono (by decide)) rfl (sar_s (pv 1) (sar_v (se_int) (sar_v (se_ixVar (fun tb h => pe_ix (ix_or ix_list ix_tup) (pv 2) h (fun _ _ => rfl)) (se_int)) (sar_nil)))))) rfl)
      (ss_cons (ss_set (fun te h => ps_set (i := 4) S.nd rfl (by first | exact .inl rfl | exact .inr rfl) h) (se_ix (ix_or ix_list ix_tup) opD_ix (se_frz (sf_lst (sa_cons (se_int) (sa_cons (se_int) (sa_cons (se_int) (sa_cons (se_int) (sa_cons (se_int) (sa_cons (se_op op_pow opD_pow (se_int) (se_int)) (sa_nil))))))))) (se_val (sc_own d_law_take tk (hr.mono (by decide)) rfl (sar_s (pv 1) (sar_v (se_int) (sar_nil))))) (fun _ _ => rfl)) rfl)
      (ss_cons (ss_setIx (fun te ti h k => ps_asg h (pg_sub (pv 3) k set_list)) (se_int) (se_frz (sf_lc rfl S.nd (blkOk_by (own := [("_law_entry", 7)]) (by kernel_rfl)) (si_seq (se_ixVar (fun tb h => pe_ix (ix_or ix_list ix_tup) (pv 3) h (fun _ _ => rfl)) (se_int))) (fun s H C cl fp => sg_name (pg_name S.nd rfl (by first | exact .inl rfl | exact .inr rfl)) rfl) (fun s H C cl fp => pts_nil) tt_yes (fun s H C cl fp => se_op op_mulW opD_mul (se_var (pv 4)) (se_var (pv 7))))))
      (ss_cons (ss_setLc (i := 5) rfl S.nd rfl rfl (by exact sw_true rfl rfl rfl rfl) (blkOk_by (own := [("_law_die_here", 8)]) (by kernel_rfl)) (si_seq (se_var (pv 3))) (fun s H C cl fp => sg_name (pg_name S.nd rfl (by first | exact .inl rfl | exact .inr rfl)) rfl) (fun s H C cl fp => pts_nil) tt_yes (fun s H C cl fp => se_frz (sf_cb caF_list (fun ta h => pe_callTy call_list_of rfl b.list boot_list h) (sa_cons (se_var (pv 8)) (sa_nil)))) rfl)
      (ss_cons (ss_if (sb_w (sw_or (sb_not (sb_val (se_val (sc_own d_law_areas_hold tk (hr.mono (by decide)) rfl (sar_v (se_ixVar (fun tb h => pe_ix (ix_or ix_list ix_tup) (pv 3) h (fun _ _ => rfl)) (se_int)) (sar_v (se_ixVar (fun tb h => pe_ix (ix_or ix_list ix_tup) (pv 3) h (fun _ _ => rfl)) (se_int)) (sar_nil))))))) (sw_or1 (sb_not (sb_val (se_val (sc_own d_law_areas_hold tk (hr.mono (by decide)) rfl (sar_v (se_ixVar (fun tb h => pe_ix (ix_or ix_list ix_tup) (pv 3) h (fun _ _ => rfl)) (se_int)) (sar_v (se_cb caD_tuple (fun ta h => pe_callTy call_tuple_of rfl b.tuple boot_tuple h) (sa_cons (se_ixVar (fun tb h => pe_ix (ix_or ix_list ix_tup) (pv 3) h (fun _ _ => rfl)) (se_int)) (sa_nil))) (sar_nil)))))))))) (ss_cons (ss_ret (se_bl))
      (ss_nil)) (ss_nil))
      (ss_cons (ss_if (sb_w (sw_or (sb_not (sb_val (se_val (sc_own d_law_throws_hold tk (hr.mono (by decide)) rfl (sar_v (se_ixVar (fun tb h => pe_ix (ix_or ix_list ix_tup) (pv 3) h (fun _ _ => rfl)) (se_int)) (sar_v (se_ixVar (fun tb h => pe_ix (ix_or ix_list ix_tup) (pv 3) h (fun _ _ => rfl)) (se_int)) (sar_nil))))))) (sw_or1 (sb_not (sb_val (se_val (sc_own d_law_throws_hold tk (hr.mono (by decide)) rfl (sar_v (se_ixVar (fun tb h => pe_ix (ix_or ix_list ix_tup) (pv 3) h (fun _ _ => rfl)) (se_int)) (sar_v (se_ixVar (fun tb h => pe_ix (ix_or ix_list ix_tup) (pv 3) h (fun _ _ => rfl)) (se_int)) (sar_nil)))))))))) (ss_cons (ss_ret (se_bl))
      (ss_nil)) (ss_nil))
      (ss_cons (ss_if (sb_w (sw_or (sb_not (sb_val (se_val (sc_own d_law_fractions_hold tk (hr.mono (by decide)) rfl (sar_v (se_ixVar (fun tb h => pe_ix (ix_or ix_list ix_tup) (pv 3) h (fun _ _ => rfl)) (se_int)) (sar_v (se_ixVar (fun tb h => pe_ix (ix_or ix_list ix_tup) (pv 3) h (fun _ _ => rfl)) (se_int)) (sar_nil))))))) (sw_or1 (sb_not (sb_val (se_val (sc_own d_law_moved_holds tk (hr.mono (by decide)) rfl (sar_s (pv 1) (sar_v (se_ixVar (fun tb h => pe_ix (ix_or ix_list ix_tup) (pv 3) h (fun _ _ => rfl)) (se_int)) (sar_v (se_ixVar (fun tb h => pe_ix (ix_or ix_list ix_tup) (pv 3) h (fun _ _ => rfl)) (se_int)) (sar_nil))))))))))) (ss_cons (ss_ret (se_bl))
      (ss_nil)) (ss_nil))
      (ss_cons (ss_if (sb_w (sw_or (sb_not (sb_val (se_val (sc_own d_law_single_holds tk (hr.mono (by decide)) rfl (sar_s (pv 1) (sar_v (se_ixVar (fun tb h => pe_ix (ix_or ix_list ix_tup) (pv 3) h (fun _ _ => rfl)) (se_int)) (sar_nil))))))) (sw_or1 (sb_not (sb_val (se_val (sc_own d_law_mixed_holds tk (hr.mono (by decide)) rfl (sar_s (pv 1) (sar_v (se_var (pv 3)) (sar_nil)))))))))) (ss_cons (ss_ret (se_bl))
      (ss_nil)) (ss_nil))
      (ss_cons (ss_if (sb_not (sb_val (se_val (sc_own d_law_like_holds tk (hr.mono (by decide)) rfl (sar_s (pv 1) (sar_v (se_ixVar (fun tb h => pe_ix (ix_or ix_list ix_tup) (pv 3) h (fun _ _ => rfl)) (se_int)) (sar_v (se_ixVar (fun tb h => pe_ix (ix_or ix_list ix_tup) (pv 3) h (fun _ _ => rfl)) (se_int)) (sar_nil)))))))) (ss_cons (ss_ret (se_bl))
      (ss_nil)) (ss_nil))
      (ss_cons (ss_if (sb_cmp (op_neD hr.units) opD_ne (se_val (sc_own d_areas tk (hr.mono (by decide)) rfl (sar_v (se_cb caD_tuple (fun ta h => pe_callTy call_tuple_of rfl b.tuple boot_tuple h) (sa_cons (se_ixVar (fun tb h => pe_ix (ix_or ix_list ix_tup) (pv 3) h (fun _ _ => rfl)) (se_int)) (sa_nil))) (sar_v (se_cb caD_tuple (fun ta h => pe_callTy call_tuple_of rfl b.tuple boot_tuple h) (sa_cons (se_ixVar (fun tb h => pe_ix (ix_or ix_list ix_tup) (pv 3) h (fun _ _ => rfl)) (se_int)) (sa_nil))) (sar_nil))))) (se_val (sc_own d_areas tk (hr.mono (by decide)) rfl (sar_v (se_ixVar (fun tb h => pe_ix (ix_or ix_list ix_tup) (pv 3) h (fun _ _ => rfl)) (se_int)) (sar_v (se_ixVar (fun tb h => pe_ix (ix_or ix_list ix_tup) (pv 3) h (fun _ _ => rfl)) (se_int)) (sar_nil))))) (nomark _)) (ss_cons (ss_ret (se_bl))
      (ss_nil)) (ss_nil))
      (ss_cons (ss_set (fun te h => ps_set (i := 6) S.nd rfl (by first | exact .inl rfl | exact .inr rfl) h) (se_val (sc_own d_law_take tk (hr.mono (by decide)) rfl (sar_s (pv 1) (sar_v (se_int) (sar_nil))))) rfl)
      (ss_cons (ss_if (sb_w (sw_and (sb_cmp op_lt opD_lt (se_var (pv 6)) (se_int) (nomark _)) (sw_and1 (sb_not (sb_val (se_val (sc_own d_law_refuses_dice tk (hr.mono (by decide)) rfl (sar_s (pv 1) (sar_v (se_ixVar (fun tb h => pe_ix (ix_or ix_list ix_tup) (pv 3) h (fun _ _ => rfl)) (se_int)) (sar_v (se_ixVar (fun tb h => pe_ix (ix_or ix_list ix_tup) (pv 3) h (fun _ _ => rfl)) (se_int)) (sar_nil))))))))))) (ss_cons (ss_ret (se_bl))
      (ss_nil)) (ss_nil))
      (ss_cons (ss_if (sb_w (sw_and (sb_cmp op_gt opD_gt (se_var (pv 6)) (se_int) (nomark _)) (sw_and1 (sb_not (sb_val (se_val (sc_own d_law_refuses_numbers tk (hr.mono (by decide)) rfl (sar_s (pv 1) (sar_v (se_ixVar (fun tb h => pe_ix (ix_or ix_list ix_tup) (pv 3) h (fun _ _ => rfl)) (se_int)) (sar_v (se_ixVar (fun tb h => pe_ix (ix_or ix_list ix_tup) (pv 3) h (fun _ _ => rfl)) (se_int)) (sar_nil))))))))))) (ss_cons (ss_ret (se_bl))
      (ss_nil)) (ss_nil))
      (ss_cons (ss_ret (se_cmp (op_eqD hr.units) opD_eq (se_var (pv 3)) (se_var (pv 5)) (nomark _)))
      (ss_nil))))))))))))))))

end
end KV
set_option Elab.async false
set_option linter.all false
set_option autoImplicit false
set_option maxRecDepth 100000
set_option maxHeartbeats 0
namespace KV
open PySem PySem.Spec PyProof.Rows L2
theorem oexB_ok {K : PySem.W.Frag} {C : Addr} (h : oexB K C = true) : OexC K C := by
  obtain ⟨h0, h⟩ := He.ba h
  obtain ⟨h1, h⟩ := He.ba h
  obtain ⟨h2, h⟩ := He.ba h
  obtain ⟨h3, h4⟩ := He.ba h
  refine ⟨?_, He.eqO_ok h1, of_decide_eq_true h2, of_decide_eq_true h3, h4⟩
  split at h0
  · rename_i dd cd sl ho
    split at h0
    · rename_i C' bm k0 k1 k2 k3 n k5 hm hs
      simp only [Bool.and_eq_true, beq_iff_eq, Bool.not_eq_true'] at h0
      obtain ⟨⟨⟨⟨rfl, rfl⟩, hdel⟩, hd⟩, ht⟩ := h0
      obtain ⟨nm, bs, mro, ns, qn, hd', sn, sub, ab, col, del⟩ := cd
      dsimp only at hm hdel hd
      subst hm hdel hd
      have hsl : sl = #[k0, k1, k2, k3, some (.builtin "ValueError.__new__"), k5] := by
        obtain ⟨l⟩ := sl
        simp only at hs
        rw [hs]
      subst hsl
      exact ⟨nm, qn, ns, bs, bm, sn, sub, ab, col, dd, k0, k1, k2, k3, k5, ho, ht⟩
    · cases h0
  · cases h0
theorem excB_ok {K : PySem.W.Frag} {C : Addr} (h : excB K C = true) : XfC K C ∧ ExcC K C := by
  obtain ⟨h0, h⟩ := He.ba h
  obtain ⟨h1, h⟩ := He.ba h
  obtain ⟨h2, h⟩ := He.ba h
  obtain ⟨h3, h4⟩ := He.ba h
  have X := xfB_ok h0
  exact ⟨X, X.ga, X.gg, X.exC, X.hdC, He.eqO_ok h1, He.eqO_ok h2, of_decide_eq_true h3, of_decide_eq_true h4⟩
end KV
set_option Elab.async false
set_option linter.all false
set_option autoImplicit false
set_option maxRecDepth 100000
set_option maxHeartbeats 0
namespace KV
open PySem PySem.Spec PyProof.Rows L2
section
variable {P : Program} {w : World} {K : PySem.W.Frag} {mg : Str → Option Value} {base : Heap}
theorem more_gcd (X : K.In base) (G : base.Ns mainGlobals mg) (m : moreB K = true) : mg "gcd" = some (.builtin "math.gcd") := PySem.W.mg_of X G (He.eqO_ok (He.ba m).1)
theorem more_exc (m : moreB K = true) (x : Str) (hx : x ∈ xsE) : XfC K (He.ga K x) ∧ ExcC K (He.ga K x) := by
  obtain ⟨_, m⟩ := He.ba m
  exact excB_ok (List.all_eq_true.mp (He.ba m).1 x hx)
theorem more_oex (m : moreB K = true) (x : Str) (hx : x ∈ raisedE) : OexC K (He.ga K x) ∧ PySem.W.findIn K (.ref (He.ga K x)) "__init__" = some (some (.ref (He.ma K (He.ga K x) "__init__"))) ∧ PySem.W.typeIn K (.ref (He.ma K (He.ga K x) "__init__")) = some (.type "function") := by
  obtain ⟨_, m⟩ := He.ba m
  obtain ⟨_, m⟩ := He.ba m
  have h := List.all_eq_true.mp (He.ba m).1 x hx
  obtain ⟨h1, h⟩ := He.ba h
  obtain ⟨h2, h3⟩ := He.ba h
  exact ⟨oexB_ok h1, He.eqO_ok h2, of_decide_eq_true h3⟩
theorem more_noat (m : moreB K = true) (x : Str) (hx : x ∈ xsE) (f : Str) (hf : f ∈ flE) : PySem.W.findIn K (.ref (He.ga K x)) f = some none := by
  obtain ⟨_, m⟩ := He.ba m
  obtain ⟨_, m⟩ := He.ba m
  obtain ⟨_, m⟩ := He.ba m
  exact He.eqO_ok (List.all_eq_true.mp (List.all_eq_true.mp (He.ba m).1 x hx) f hf)
theorem more_pair (m : moreB K = true) (x : Str) (hx : x ∈ xsE) (y : Str) (hy : y ∈ xsE) : PySem.W.exmOne K (.ref (He.ga K x)) (.ref (He.ga K y)) = some (sbE x y) ∧ PySem.W.kitOne K (.ref (He.ga K x)) (.ref (He.ga K y)) = some (sbE x y) := by
  obtain ⟨_, m⟩ := He.ba m
  obtain ⟨_, m⟩ := He.ba m
  obtain ⟨_, m⟩ := He.ba m
  obtain ⟨h1, h2⟩ := He.ba (List.all_eq_true.mp (List.all_eq_true.mp (He.ba m).2 x hx) y hy)
  exact ⟨of_decide_eq_true h1, of_decide_eq_true h2⟩
theorem erf_ok (m : moreB K = true) (g : ∀ x ∈ xsE, mg x = some (.ref (He.ga K x))) : ErF K mg xsE flE sbE := by
  have inj : ∀ x ∈ xsE, ∀ C, mg x = some (.ref C) → C = He.ga K x := fun x hx C e => by
    rw [g x hx] at e
    injection e with e
    injection e with e
    exact e.symm
  exact ⟨fun x hx C e => by rw [inj x hx C e]; exact more_exc m x hx, fun x hx y hy C D e1 e2 => by rw [inj x hx C e1, inj y hy D e2]; exact more_pair m x hx y hy,
    fun x hx f hf C e => by rw [inj x hx C e]; exact more_noat m x hx f hf, fun x hx => ⟨_, g x hx⟩⟩
end
section
variable {P : Program} {w : World} {mg : Str → Option Value} {base : Heap}
theorem erc_BadNumber (K : PySem.W.Frag) (m : moreB K = true) (gx : mg "BadNumber" = some (.ref (He.ga K "BadNumber"))) {fd : FuncData} (F : FunD K "__init__" "BadNumber.__init__" (defArgs st_init_BadNumber) (defBody st_init_BadNumber) (defScope st_init_BadNumber) [] [] (He.ma K (He.ga K "BadNumber") "__init__") fd) :
    ErC P w K mg base "BadNumber" 1 (fun C => SpI1 C "name") (He.ga K "BadNumber") (He.ma K (He.ga K "BadNumber") "__init__") fd ["self", "name"] := by
  letI : KK := ⟨K⟩
  obtain ⟨T, iC, tI⟩ := more_oex m "BadNumber" (by decide)
  refine ⟨gx, T, iC, tI, init1_ok F sc_init_BadNumber rfl T (more_noat m "BadNumber" (by decide) "name" (by decide)) (fun cdv A outer s H E => ?_), F.bindsN fun _ _ _ _ _ _ us hl => match us, hl with | [_, _], _ => rfl⟩
  exact pss_cons (ps_ost (pv 0) (pv 1)) pss_nil
theorem erc_BadDie (K : PySem.W.Frag) (m : moreB K = true) (gx : mg "BadDie" = some (.ref (He.ga K "BadDie"))) {fd : FuncData} (F : FunD K "__init__" "BadDie.__init__" (defArgs st_init_BadDie) (defBody st_init_BadDie) (defScope st_init_BadDie) [] [] (He.ma K (He.ga K "BadDie") "__init__") fd) :
    ErC P w K mg base "BadDie" 1 (fun C => SpI1 C "place") (He.ga K "BadDie") (He.ma K (He.ga K "BadDie") "__init__") fd ["self", "place"] := by
  letI : KK := ⟨K⟩
  obtain ⟨T, iC, tI⟩ := more_oex m "BadDie" (by decide)
  refine ⟨gx, T, iC, tI, init1_ok F sc_init_BadDie rfl T (more_noat m "BadDie" (by decide) "place" (by decide)) (fun cdv A outer s H E => ?_), F.bindsN fun _ _ _ _ _ _ us hl => match us, hl with | [_, _], _ => rfl⟩
  exact pss_cons (ps_ost (pv 0) (pv 1)) pss_nil
theorem erc_BadWeights (K : PySem.W.Frag) (m : moreB K = true) (gx : mg "BadWeights" = some (.ref (He.ga K "BadWeights"))) {fd : FuncData} (F : FunD K "__init__" "BadWeights.__init__" (defArgs st_init_BadWeights) (defBody st_init_BadWeights) (defScope st_init_BadWeights) [] [] (He.ma K (He.ga K "BadWeights") "__init__") fd) :
    ErC P w K mg base "BadWeights" 1 (fun C => SpI1 C "place") (He.ga K "BadWeights") (He.ma K (He.ga K "BadWeights") "__init__") fd ["self", "place"] := by
  letI : KK := ⟨K⟩
  obtain ⟨T, iC, tI⟩ := more_oex m "BadWeights" (by decide)
  refine ⟨gx, T, iC, tI, init1_ok F sc_init_BadWeights rfl T (more_noat m "BadWeights" (by decide) "place" (by decide)) (fun cdv A outer s H E => ?_), F.bindsN fun _ _ _ _ _ _ us hl => match us, hl with | [_, _], _ => rfl⟩
  exact pss_cons (ps_ost (pv 0) (pv 1)) pss_nil
theorem erc_OtherSize (K : PySem.W.Frag) (m : moreB K = true) (gx : mg "OtherSize" = some (.ref (He.ga K "OtherSize"))) {fd : FuncData} (F : FunD K "__init__" "OtherSize.__init__" (defArgs st_init_OtherSize) (defBody st_init_OtherSize) (defScope st_init_OtherSize) [] [] (He.ma K (He.ga K "OtherSize") "__init__") fd) :
    ErC P w K mg base "OtherSize" 1 (fun C => SpI2 C "first" "second") (He.ga K "OtherSize") (He.ma K (He.ga K "OtherSize") "__init__") fd ["self", "first", "second"] := by
  letI : KK := ⟨K⟩
  obtain ⟨T, iC, tI⟩ := more_oex m "OtherSize" (by decide)
  refine ⟨gx, T, iC, tI, init2_ok F sc_init_OtherSize rfl T (more_noat m "OtherSize" (by decide) "first" (by decide)) (more_noat m "OtherSize" (by decide) "second" (by decide)) (fun cdv A outer s H E => ?_), F.bindsN fun _ _ _ _ _ _ us hl => match us, hl with | [_, _, _], _ => rfl⟩
  exact pss_cons (ps_ost (pv 0) (pv 1)) (pss_cons (ps_ost (pv 0) (pv 2)) pss_nil)
theorem law_fn (K : PySem.W.Frag) {h : Heap} (X : K.In h) (G : h.Ns mainGlobals mg) (c : SaysK hfa hfn K) : ∃ fd : FuncData, FnP K "law" st_law (He.ga K "law") fd ∧ @FnOk P w K mg base (L2.CX P w) 8 (He.ga K "law") fd ["_law_script"] (@SpF ⟨K⟩ mg F_law 1) := by
  letI : KK := ⟨K⟩
  obtain ⟨cd, m⟩ := c.d
  have b : Blt mg := ⟨He.free_ok X G (cd.fact 63 (f := .free "len") rfl), He.free_ok X G (cd.fact 64 (f := .free "sum") rfl), He.free_ok X G (cd.fact 65 (f := .free "max") rfl), He.free_ok X G (cd.fact 66 (f := .free "min") rfl), He.free_ok X G (cd.fact 67 (f := .free "abs") rfl), He.free_ok X G (cd.fact 68 (f := .free "int") rfl), He.free_ok X G (cd.fact 69 (f := .free "bool") rfl), He.free_ok X G (cd.fact 70 (f := .free "list") rfl), He.free_ok X G (cd.fact 71 (f := .free "tuple") rfl), He.free_ok X G (cd.fact 72 (f := .free "isinstance") rfl), He.free_ok X G (cd.fact 73 (f := .free "range") rfl), He.free_ok X G (cd.fact 74 (f := .free "zip") rfl), He.free_ok X G (cd.fact 75 (f := .free "enumerate") rfl), more_gcd X G m⟩
  have gE : ∀ x ∈ xsE, mg x = some (.ref (He.ga K x)) := fun x hx => by
    have hx2 : x = "DiceError" ∨ x = "BadNumber" ∨ x = "BadDie" ∨ x = "BadWeights" ∨ x = "OtherSize" := by simpa [xsE] using hx
    rcases hx2 with e | e | e | e | e <;> subst e
    · exact He.glo_ok X G (cd.fact 58 (f := .glo "DiceError") rfl)
    · exact He.glo_ok X G (cd.fact 59 (f := .glo "BadNumber") rfl)
    · exact He.glo_ok X G (cd.fact 60 (f := .glo "BadDie") rfl)
    · exact He.glo_ok X G (cd.fact 61 (f := .glo "BadWeights") rfl)
    · exact He.glo_ok X G (cd.fact 62 (f := .glo "OtherSize") rfl)
  have EF : ErF K mg xsE flE sbE := erf_ok m gE
  obtain ⟨fd_BadNumber, Fi_BadNumber⟩ := cd.def_ 58 (d := hd_init_BadNumber) rfl
  have e_BadNumber := erc_BadNumber (P := P) (w := w) (base := base) K m (gE "BadNumber" (by decide)) Fi_BadNumber
  obtain ⟨fd_BadDie, Fi_BadDie⟩ := cd.def_ 59 (d := hd_init_BadDie) rfl
  have e_BadDie := erc_BadDie (P := P) (w := w) (base := base) K m (gE "BadDie" (by decide)) Fi_BadDie
  obtain ⟨fd_BadWeights, Fi_BadWeights⟩ := cd.def_ 60 (d := hd_init_BadWeights) rfl
  have e_BadWeights := erc_BadWeights (P := P) (w := w) (base := base) K m (gE "BadWeights" (by decide)) Fi_BadWeights
  obtain ⟨fd_OtherSize, Fi_OtherSize⟩ := cd.def_ 61 (d := hd_init_OtherSize) rfl
  have e_OtherSize := erc_OtherSize (P := P) (w := w) (base := base) K m (gE "OtherSize" (by decide)) Fi_OtherSize
  obtain ⟨fd_is_int, Fd_is_int⟩ := cd.def_ 0 (d := hd_is_int) rfl
  have d_is_int := ok_is_int (P := P) (w := w) (base := base) b Fd_is_int (He.glo_ok X G (cd.fact 0 (f := .glo "is_int") rfl))
  obtain ⟨fd_is_row, Fd_is_row⟩ := cd.def_ 1 (d := hd_is_row) rfl
  have d_is_row := ok_is_row (P := P) (w := w) (base := base) b Fd_is_row (He.glo_ok X G (cd.fact 1 (f := .glo "is_row") rfl))
  obtain ⟨fd_check_int, Fd_check_int⟩ := cd.def_ 2 (d := hd_check_int) rfl
  have d_check_int := ok_check_int (P := P) (w := w) (base := base) (d_is_int := d_is_int) (e_BadNumber := e_BadNumber) b Fd_check_int (He.glo_ok X G (cd.fact 2 (f := .glo "check_int") rfl))
  obtain ⟨fd_check_between, Fd_check_between⟩ := cd.def_ 3 (d := hd_check_between) rfl
  have d_check_between := ok_check_between (P := P) (w := w) (base := base) (d_is_int := d_is_int) (e_BadNumber := e_BadNumber) b Fd_check_between (He.glo_ok X G (cd.fact 3 (f := .glo "check_between") rfl))
  obtain ⟨fd_common_divisor, Fd_common_divisor⟩ := cd.def_ 4 (d := hd_common_divisor) rfl
  have d_common_divisor := ok_common_divisor (P := P) (w := w) (base := base) b Fd_common_divisor (He.glo_ok X G (cd.fact 4 (f := .glo "common_divisor") rfl))
  obtain ⟨fd_shortened, Fd_shortened⟩ := cd.def_ 5 (d := hd_shortened) rfl
  have d_shortened := ok_shortened (P := P) (w := w) (base := base) (d_common_divisor := d_common_divisor) b Fd_shortened (He.glo_ok X G (cd.fact 5 (f := .glo "shortened") rfl))
  obtain ⟨fd_weights_of, Fd_weights_of⟩ := cd.def_ 6 (d := hd_weights_of) rfl
  have d_weights_of := ok_weights_of (P := P) (w := w) (base := base) (d_is_int := d_is_int) (d_is_row := d_is_row) (e_BadWeights := e_BadWeights) b Fd_weights_of (He.glo_ok X G (cd.fact 6 (f := .glo "weights_of") rfl))
  obtain ⟨fd_wrong_place, Fd_wrong_place⟩ := cd.def_ 7 (d := hd_wrong_place) rfl
  have d_wrong_place := ok_wrong_place (P := P) (w := w) (base := base) (d_is_int := d_is_int) (d_is_row := d_is_row) b Fd_wrong_place (He.glo_ok X G (cd.fact 7 (f := .glo "wrong_place") rfl))
  obtain ⟨fd_die_of, Fd_die_of⟩ := cd.def_ 8 (d := hd_die_of) rfl
  have d_die_of := ok_die_of (P := P) (w := w) (base := base) (d_wrong_place := d_wrong_place) (e_BadDie := e_BadDie) b Fd_die_of (He.glo_ok X G (cd.fact 8 (f := .glo "die_of") rfl))
  obtain ⟨fd_two_dice, Fd_two_dice⟩ := cd.def_ 9 (d := hd_two_dice) rfl
  have d_two_dice := ok_two_dice (P := P) (w := w) (base := base) (d_die_of := d_die_of) (e_OtherSize := e_OtherSize) b Fd_two_dice (He.glo_ok X G (cd.fact 9 (f := .glo "two_dice") rfl))
  obtain ⟨fd_running_counts, Fd_running_counts⟩ := cd.def_ 10 (d := hd_running_counts) rfl
  have d_running_counts := ok_running_counts (P := P) (w := w) (base := base) b Fd_running_counts (He.glo_ok X G (cd.fact 10 (f := .glo "running_counts") rfl))
  obtain ⟨fd_below, Fd_below⟩ := cd.def_ 11 (d := hd_below) rfl
  have d_below := ok_below (P := P) (w := w) (base := base) (d_check_between := d_check_between) (d_die_of := d_die_of) b Fd_below (He.glo_ok X G (cd.fact 11 (f := .glo "below") rfl))
  obtain ⟨fd_belows, Fd_belows⟩ := cd.def_ 12 (d := hd_belows) rfl
  have d_belows := ok_belows (P := P) (w := w) (base := base) (d_die_of := d_die_of) (d_running_counts := d_running_counts) b Fd_belows (He.glo_ok X G (cd.fact 12 (f := .glo "belows") rfl))
  obtain ⟨fd_one_faced, Fd_one_faced⟩ := cd.def_ 13 (d := hd_one_faced) rfl
  have d_one_faced := ok_one_faced (P := P) (w := w) (base := base) (d_check_between := d_check_between) (d_check_int := d_check_int) b Fd_one_faced (He.glo_ok X G (cd.fact 13 (f := .glo "one_faced") rfl))
  obtain ⟨fd_is_like, Fd_is_like⟩ := cd.def_ 14 (d := hd_is_like) rfl
  have d_is_like := ok_is_like (P := P) (w := w) (base := base) (d_shortened := d_shortened) (d_two_dice := d_two_dice) b Fd_is_like (He.glo_ok X G (cd.fact 14 (f := .glo "is_like") rfl))
  obtain ⟨fd_short_die, Fd_short_die⟩ := cd.def_ 15 (d := hd_short_die) rfl
  have d_short_die := ok_short_die (P := P) (w := w) (base := base) (d_die_of := d_die_of) (d_shortened := d_shortened) b Fd_short_die (He.glo_ok X G (cd.fact 15 (f := .glo "short_die") rfl))
  obtain ⟨fd_mixed_die, Fd_mixed_die⟩ := cd.def_ 16 (d := hd_mixed_die) rfl
  have d_mixed_die := ok_mixed_die (P := P) (w := w) (base := base) (d_die_of := d_die_of) (d_weights_of := d_weights_of) (e_BadWeights := e_BadWeights) (e_OtherSize := e_OtherSize) b Fd_mixed_die (He.glo_ok X G (cd.fact 16 (f := .glo "mixed_die") rfl))
  obtain ⟨fd_lowest, Fd_lowest⟩ := cd.def_ 17 (d := hd_lowest) rfl
  have d_lowest := ok_lowest (P := P) (w := w) (base := base) b Fd_lowest (He.glo_ok X G (cd.fact 17 (f := .glo "lowest") rfl))
  obtain ⟨fd_fraction, Fd_fraction⟩ := cd.def_ 18 (d := hd_fraction) rfl
  have d_fraction := ok_fraction (P := P) (w := w) (base := base) (d_is_int := d_is_int) (d_is_row := d_is_row) (d_lowest := d_lowest) (e_BadNumber := e_BadNumber) b Fd_fraction (He.glo_ok X G (cd.fact 18 (f := .glo "fraction") rfl))
  obtain ⟨fd_both_fractions, Fd_both_fractions⟩ := cd.def_ 19 (d := hd_both_fractions) rfl
  have d_both_fractions := ok_both_fractions (P := P) (w := w) (base := base) (d_fraction := d_fraction) b Fd_both_fractions (He.glo_ok X G (cd.fact 19 (f := .glo "both_fractions") rfl))
  obtain ⟨fd_added, Fd_added⟩ := cd.def_ 20 (d := hd_added) rfl
  have d_added := ok_added (P := P) (w := w) (base := base) (d_both_fractions := d_both_fractions) (d_lowest := d_lowest) b Fd_added (He.glo_ok X G (cd.fact 20 (f := .glo "added") rfl))
  obtain ⟨fd_taken_off, Fd_taken_off⟩ := cd.def_ 21 (d := hd_taken_off) rfl
  have d_taken_off := ok_taken_off (P := P) (w := w) (base := base) (d_both_fractions := d_both_fractions) (d_lowest := d_lowest) b Fd_taken_off (He.glo_ok X G (cd.fact 21 (f := .glo "taken_off") rfl))
  obtain ⟨fd_multiplied, Fd_multiplied⟩ := cd.def_ 22 (d := hd_multiplied) rfl
  have d_multiplied := ok_multiplied (P := P) (w := w) (base := base) (d_both_fractions := d_both_fractions) (d_lowest := d_lowest) b Fd_multiplied (He.glo_ok X G (cd.fact 22 (f := .glo "multiplied") rfl))
  obtain ⟨fd_divided, Fd_divided⟩ := cd.def_ 23 (d := hd_divided) rfl
  have d_divided := ok_divided (P := P) (w := w) (base := base) (d_both_fractions := d_both_fractions) (d_lowest := d_lowest) (e_BadNumber := e_BadNumber) b Fd_divided (He.glo_ok X G (cd.fact 23 (f := .glo "divided") rfl))
  obtain ⟨fd_is_less, Fd_is_less⟩ := cd.def_ 24 (d := hd_is_less) rfl
  have d_is_less := ok_is_less (P := P) (w := w) (base := base) (d_both_fractions := d_both_fractions) b Fd_is_less (He.glo_ok X G (cd.fact 24 (f := .glo "is_less") rfl))
  obtain ⟨fd_is_equal, Fd_is_equal⟩ := cd.def_ 25 (d := hd_is_equal) rfl
  have d_is_equal := ok_is_equal (P := P) (w := w) (base := base) (d_fraction := d_fraction) b Fd_is_equal (He.glo_ok X G (cd.fact 25 (f := .glo "is_equal") rfl))
  obtain ⟨fd_rank_leads, Fd_rank_leads⟩ := cd.def_ 26 (d := hd_rank_leads) rfl
  have d_rank_leads := ok_rank_leads (P := P) (w := w) (base := base) (d_running_counts := d_running_counts) b Fd_rank_leads (He.glo_ok X G (cd.fact 26 (f := .glo "rank_leads") rfl))
  obtain ⟨fd_paired_sum, Fd_paired_sum⟩ := cd.def_ 27 (d := hd_paired_sum) rfl
  have d_paired_sum := ok_paired_sum (P := P) (w := w) (base := base) b Fd_paired_sum (He.glo_ok X G (cd.fact 27 (f := .glo "paired_sum") rfl))
  obtain ⟨fd_wins, Fd_wins⟩ := cd.def_ 28 (d := hd_wins) rfl
  have d_wins := ok_wins (P := P) (w := w) (base := base) (d_paired_sum := d_paired_sum) (d_running_counts := d_running_counts) (d_two_dice := d_two_dice) b Fd_wins (He.glo_ok X G (cd.fact 28 (f := .glo "wins") rfl))
  obtain ⟨fd_ties, Fd_ties⟩ := cd.def_ 29 (d := hd_ties) rfl
  have d_ties := ok_ties (P := P) (w := w) (base := base) (d_paired_sum := d_paired_sum) (d_two_dice := d_two_dice) b Fd_ties (He.glo_ok X G (cd.fact 29 (f := .glo "ties") rfl))
  obtain ⟨fd_lead, Fd_lead⟩ := cd.def_ 30 (d := hd_lead) rfl
  have d_lead := ok_lead (P := P) (w := w) (base := base) (d_paired_sum := d_paired_sum) (d_rank_leads := d_rank_leads) (d_two_dice := d_two_dice) b Fd_lead (He.glo_ok X G (cd.fact 30 (f := .glo "lead") rfl))
  obtain ⟨fd_chance, Fd_chance⟩ := cd.def_ 31 (d := hd_chance) rfl
  have d_chance := ok_chance (P := P) (w := w) (base := base) (d_lowest := d_lowest) (d_paired_sum := d_paired_sum) (d_running_counts := d_running_counts) (d_two_dice := d_two_dice) b Fd_chance (He.glo_ok X G (cd.fact 31 (f := .glo "chance") rfl))
  obtain ⟨fd_half_chance, Fd_half_chance⟩ := cd.def_ 32 (d := hd_half_chance) rfl
  have d_half_chance := ok_half_chance (P := P) (w := w) (base := base) (d_lowest := d_lowest) (d_paired_sum := d_paired_sum) (d_rank_leads := d_rank_leads) (d_two_dice := d_two_dice) b Fd_half_chance (He.glo_ok X G (cd.fact 32 (f := .glo "half_chance") rfl))
  obtain ⟨fd_areas, Fd_areas⟩ := cd.def_ 33 (d := hd_areas) rfl
  have d_areas := ok_areas (P := P) (w := w) (base := base) (d_running_counts := d_running_counts) (d_two_dice := d_two_dice) b Fd_areas (He.glo_ok X G (cd.fact 33 (f := .glo "areas") rfl))
  obtain ⟨fd_law_draws, Fd_law_draws⟩ := cd.def_ 34 (d := hd_law_draws) rfl
  have d_law_draws := ok_law_draws (P := P) (w := w) (base := base) b Fd_law_draws (He.glo_ok X G (cd.fact 34 (f := .glo "_law_draws") rfl))
  obtain ⟨fd_law_take, Fd_law_take⟩ := cd.def_ 35 (d := hd_law_take) rfl
  have d_law_take := ok_law_take (P := P) (w := w) (base := base) b Fd_law_take (He.glo_ok X G (cd.fact 35 (f := .glo "_law_take") rfl))
  obtain ⟨fd_law_int, Fd_law_int⟩ := cd.def_ 36 (d := hd_law_int) rfl
  have d_law_int := ok_law_int (P := P) (w := w) (base := base) b Fd_law_int (He.glo_ok X G (cd.fact 36 (f := .glo "_law_int") rfl))
  obtain ⟨fd_law_divisor, Fd_law_divisor⟩ := cd.def_ 37 (d := hd_law_divisor) rfl
  have d_law_divisor := ok_law_divisor (P := P) (w := w) (base := base) b Fd_law_divisor (He.glo_ok X G (cd.fact 37 (f := .glo "_law_divisor") rfl))
  obtain ⟨fd_law_is_fraction, Fd_law_is_fraction⟩ := cd.def_ 38 (d := hd_law_is_fraction) rfl
  have d_law_is_fraction := ok_law_is_fraction (P := P) (w := w) (base := base) (d_law_divisor := d_law_divisor) (d_law_int := d_law_int) b Fd_law_is_fraction (He.glo_ok X G (cd.fact 38 (f := .glo "_law_is_fraction") rfl))
  obtain ⟨fd_law_same_worth, Fd_law_same_worth⟩ := cd.def_ 39 (d := hd_law_same_worth) rfl
  have d_law_same_worth := ok_law_same_worth (P := P) (w := w) (base := base) b Fd_law_same_worth (He.glo_ok X G (cd.fact 39 (f := .glo "_law_same_worth") rfl))
  obtain ⟨fd_law_die, Fd_law_die⟩ := cd.def_ 40 (d := hd_law_die) rfl
  have d_law_die := ok_law_die (P := P) (w := w) (base := base) (d_law_take := d_law_take) b Fd_law_die (He.glo_ok X G (cd.fact 40 (f := .glo "_law_die") rfl))
  obtain ⟨fd_law_dice, Fd_law_dice⟩ := cd.def_ 41 (d := hd_law_dice) rfl
  have d_law_dice := ok_law_dice (P := P) (w := w) (base := base) (d_law_die := d_law_die) (d_law_take := d_law_take) b Fd_law_dice (He.glo_ok X G (cd.fact 41 (f := .glo "_law_dice") rfl))
  obtain ⟨fd_law_sizes, Fd_law_sizes⟩ := cd.def_ 42 (d := hd_law_sizes) rfl
  have d_law_sizes := ok_law_sizes (P := P) (w := w) (base := base) (d_law_take := d_law_take) b Fd_law_sizes (He.glo_ok X G (cd.fact 42 (f := .glo "_law_sizes") rfl))
  obtain ⟨fd_law_like, Fd_law_like⟩ := cd.def_ 43 (d := hd_law_like) rfl
  have d_law_like := ok_law_like (P := P) (w := w) (base := base) b Fd_law_like (He.glo_ok X G (cd.fact 43 (f := .glo "_law_like") rfl))
  obtain ⟨fd_law_count, Fd_law_count⟩ := cd.def_ 44 (d := hd_law_count) rfl
  have d_law_count := ok_law_count (P := P) (w := w) (base := base) b Fd_law_count (He.glo_ok X G (cd.fact 44 (f := .glo "_law_count") rfl))
  obtain ⟨fd_law_areas_hold, Fd_law_areas_hold⟩ := cd.def_ 45 (d := hd_law_areas_hold) rfl
  have d_law_areas_hold := ok_law_areas_hold (P := P) (w := w) (base := base) (d_law_int := d_law_int) (d_areas := d_areas) (d_belows := d_belows) (d_lead := d_lead) b Fd_law_areas_hold (He.glo_ok X G (cd.fact 45 (f := .glo "_law_areas_hold") rfl))
  obtain ⟨fd_law_throws_hold, Fd_law_throws_hold⟩ := cd.def_ 46 (d := hd_law_throws_hold) rfl
  have d_law_throws_hold := ok_law_throws_hold (P := P) (w := w) (base := base) (d_law_count := d_law_count) (d_law_int := d_law_int) (d_lead := d_lead) (d_ties := d_ties) (d_wins := d_wins) b Fd_law_throws_hold (He.glo_ok X G (cd.fact 46 (f := .glo "_law_throws_hold") rfl))
  obtain ⟨fd_law_fractions_hold, Fd_law_fractions_hold⟩ := cd.def_ 47 (d := hd_law_fractions_hold) rfl
  have d_law_fractions_hold := ok_law_fractions_hold (P := P) (w := w) (base := base) (d_law_count := d_law_count) (d_law_is_fraction := d_law_is_fraction) (d_law_same_worth := d_law_same_worth) (d_added := d_added) (d_chance := d_chance) (d_divided := d_divided) (d_half_chance := d_half_chance) (d_is_equal := d_is_equal) (d_is_less := d_is_less) (d_multiplied := d_multiplied) (d_taken_off := d_taken_off) b Fd_law_fractions_hold (He.glo_ok X G (cd.fact 47 (f := .glo "_law_fractions_hold") rfl))
  obtain ⟨fd_law_moved_holds, Fd_law_moved_holds⟩ := cd.def_ 48 (d := hd_law_moved_holds) rfl
  have d_law_moved_holds := ok_law_moved_holds (P := P) (w := w) (base := base) (d_law_take := d_law_take) (d_lead := d_lead) b Fd_law_moved_holds (He.glo_ok X G (cd.fact 48 (f := .glo "_law_moved_holds") rfl))
  obtain ⟨fd_law_single_holds, Fd_law_single_holds⟩ := cd.def_ 49 (d := hd_law_single_holds) rfl
  have d_law_single_holds := ok_law_single_holds (P := P) (w := w) (base := base) (d_law_int := d_law_int) (d_law_take := d_law_take) (d_below := d_below) (d_lead := d_lead) (d_one_faced := d_one_faced) b Fd_law_single_holds (He.glo_ok X G (cd.fact 49 (f := .glo "_law_single_holds") rfl))
  obtain ⟨fd_law_mixed_holds, Fd_law_mixed_holds⟩ := cd.def_ 50 (d := hd_law_mixed_holds) rfl
  have d_law_mixed_holds := ok_law_mixed_holds (P := P) (w := w) (base := base) (d_law_int := d_law_int) (d_law_take := d_law_take) (d_lead := d_lead) (d_mixed_die := d_mixed_die) b Fd_law_mixed_holds (He.glo_ok X G (cd.fact 50 (f := .glo "_law_mixed_holds") rfl))
  obtain ⟨fd_law_like_holds, Fd_law_like_holds⟩ := cd.def_ 51 (d := hd_law_like_holds) rfl
  have d_law_like_holds := ok_law_like_holds (P := P) (w := w) (base := base) (d_law_divisor := d_law_divisor) (d_law_like := d_law_like) (d_law_take := d_law_take) (d_is_like := d_is_like) (d_lead := d_lead) (d_short_die := d_short_die) b Fd_law_like_holds (He.glo_ok X G (cd.fact 51 (f := .glo "_law_like_holds") rfl))
  obtain ⟨fd_law_told, Fd_law_told⟩ := cd.def_ 52 (d := hd_law_told) rfl
  have d_law_told := ok_law_told (P := P) (w := w) (base := base) (d_areas := d_areas) (d_below := d_below) (d_belows := d_belows) (d_half_chance := d_half_chance) (d_is_like := d_is_like) (d_lead := d_lead) (d_mixed_die := d_mixed_die) (d_one_faced := d_one_faced) (d_short_die := d_short_die) (EF := EF) b Fd_law_told (He.glo_ok X G (cd.fact 52 (f := .glo "_law_told") rfl))
  obtain ⟨fd_law_told_of_two, Fd_law_told_of_two⟩ := cd.def_ 53 (d := hd_law_told_of_two) rfl
  have d_law_told_of_two := ok_law_told_of_two (P := P) (w := w) (base := base) (d_added := d_added) (d_divided := d_divided) (d_is_equal := d_is_equal) (d_is_less := d_is_less) (d_multiplied := d_multiplied) (d_taken_off := d_taken_off) (EF := EF) b Fd_law_told_of_two (He.glo_ok X G (cd.fact 53 (f := .glo "_law_told_of_two") rfl))
  obtain ⟨fd_law_bad_die, Fd_law_bad_die⟩ := cd.def_ 54 (d := hd_law_bad_die) rfl
  have d_law_bad_die := ok_law_bad_die (P := P) (w := w) (base := base) (d_law_take := d_law_take) b Fd_law_bad_die (He.glo_ok X G (cd.fact 54 (f := .glo "_law_bad_die") rfl))
  obtain ⟨fd_law_refuses_dice, Fd_law_refuses_dice⟩ := cd.def_ 55 (d := hd_law_refuses_dice) rfl
  have d_law_refuses_dice := ok_law_refuses_dice (P := P) (w := w) (base := base) (d_law_bad_die := d_law_bad_die) (d_law_told := d_law_told) b Fd_law_refuses_dice (He.glo_ok X G (cd.fact 55 (f := .glo "_law_refuses_dice") rfl))
  obtain ⟨fd_law_refuses_numbers, Fd_law_refuses_numbers⟩ := cd.def_ 56 (d := hd_law_refuses_numbers) rfl
  have d_law_refuses_numbers := ok_law_refuses_numbers (P := P) (w := w) (base := base) (d_law_take := d_law_take) (d_law_told := d_law_told) (d_law_told_of_two := d_law_told_of_two) b Fd_law_refuses_numbers (He.glo_ok X G (cd.fact 56 (f := .glo "_law_refuses_numbers") rfl))
  obtain ⟨fd_law, Fd_law⟩ := cd.def_ 57 (d := hd_law) rfl
  exact ⟨fd_law, Fd_law, okF_law (P := P) (w := w) (base := base) (d_law_areas_hold := d_law_areas_hold) (d_law_dice := d_law_dice) (d_law_draws := d_law_draws) (d_law_fractions_hold := d_law_fractions_hold) (d_law_like_holds := d_law_like_holds) (d_law_mixed_holds := d_law_mixed_holds) (d_law_moved_holds := d_law_moved_holds) (d_law_refuses_dice := d_law_refuses_dice) (d_law_refuses_numbers := d_law_refuses_numbers) (d_law_single_holds := d_law_single_holds) (d_law_sizes := d_law_sizes) (d_law_take := d_law_take) (d_law_throws_hold := d_law_throws_hold) (d_areas := d_areas) b Fd_law⟩
end
end KV
set_option Elab.async false
set_option linter.all false
set_option autoImplicit false
set_option maxRecDepth 100000
set_option maxHeartbeats 0
namespace KV
open PySem PySem.Spec PyProof.Rows L2
theorem sp_law (K : PySem.W.Frag) {mg : Str → Option Value} {ns : List Int} {bs : List Sl} (hF : F_law [.sh (.scr ns)] = .ok (.sh (.bl true), bs)) {H : Hp} {a : Addr} (hS : SqL K H a (ns.map V.int)) : @SpF ⟨K⟩ mg F_law 1 [.ref a] H (fun v _ => v = .bl true) (fun _ _ _ => False) := by
  letI : KK := ⟨K⟩
  refine ⟨rfl, H, [.sh (.scr ns)], rep_sh (Ex.refl H) (.cons (.scr hS) .nil), ?_⟩
  rw [hF]
  intro B' H' v g R ret
  cases ret
  rfl
theorem fnOk_imp {P : Program} {w : World} {K : PySem.W.Frag} {mg : Str → Option Value} {base : Heap} {CX CX' : CXT} {k : Nat} {f : Addr} {fd : FuncData} {ps : List Str} {sp : Sp} (F : FnOk P w K mg base CX k f fd ps sp) (h : ∀ o H s E e s', CX o H s E e s' → CX' o H s E e s') : FnOk P w K mg base CX' k f fd ps sp :=
  ⟨F.len, fun A outer s H args us vs Q E hr e0 hb r hsp => codeAny_mono (F.run A outer s H args us vs Q E hr e0 hb r hsp) fun x s' hq => by
    cases x with
    | error e => exact h _ _ _ _ _ _ hq
    | ok fl => cases fl <;> exact hq⟩
theorem fd_eq {K : PySem.W.Frag} {x qual : Str} {params : Arguments} {body : List Stmt} {scope : Scope} {dvs : List V} {kws : List (Str × V)} {f : Addr} {fd fd' : FuncData} (F : FunD K x qual params body scope dvs kws f fd) (F' : FunD K x qual params body scope dvs kws f fd') : fd = fd' := by
  obtain ⟨_, _, _, _, _, _, _, _, _, _, e1, l1, _⟩ := F.ex
  obtain ⟨_, _, _, _, _, _, _, _, _, _, e0, l0, _⟩ := F'.ex
  rw [l1] at l0
  injection l0 with l0
  injection l0 with _ _ l0
  injection l0
/-- what the walk's end asks -/
theorem law_end (hF : ∀ ns : List Int, ns.length ≤ 63 → ∃ bs, F_law [.sh (.scr ns)] = .ok (.sh (.bl true), bs)) (P : Program) (w : World) (mg : Str → Option Value) (fa : Addr) (h : Heap) (Y : ∃ K : PySem.W.Frag, K.In h ∧ SaysK hfa hfn K) (G : h.Ns mainGlobals mg) (hmg : mg "law" = some (.ref fa)) :
    ∃ (K : PySem.W.Frag) (fd : FuncData) (sp : Sp), K.In h ∧ (∀ (s : Shared) (u : Value), BindsTo s fd ⟨[u], []⟩ [("_law_script", u)]) ∧
      (∀ (H : Hp) (a : Addr) (ns : List Int), ns.length ≤ 63 → Only H → SqL K H a (ns.map V.int) → sp [.ref a] H (fun v _ => v = .bl true) fun _ _ _ => False) ∧
      ∀ base : Heap, K.In base → base.Ns mainGlobals mg → FnOk P w K mg base (fun o H s E e s' => ∃ w, L2.CX P w o H s E e s') 8 fa fd ["_law_script"] sp := by
  obtain ⟨K, KX, c⟩ := Y
  have gl : mg "law" = some (.ref (He.ga K "law")) := He.glo_ok KX G (c.d.1.fact 57 (f := .glo "law") rfl)
  have ef := hmg.symm.trans gl
  injection ef with ef
  injection ef with ef
  subst ef
  obtain ⟨fd0, Fd0, _⟩ := law_fn (P := P) (w := w) (base := h) K KX G c
  refine ⟨K, fd0, @SpF ⟨K⟩ mg F_law 1, KX, fun s u => ?_, fun H a ns hl _ hS => ?_, fun base bK bG => ?_⟩
  · exact FunD.bindsA (ps := ["_law_script"]) Fd0 (fun _ _ _ _ _ _ us hl => match us, hl with | [_], _ => rfl) s [u] rfl
  · obtain ⟨bs, e⟩ := hF ns hl
    exact sp_law K e hS
  · obtain ⟨fd1, Fd1, F1⟩ := law_fn (P := P) (w := w) (base := base) K bK bG c
    have efd := fd_eq Fd1 Fd0
    subst efd
    exact fnOk_imp F1 fun o H s E e s' z => ⟨w, z⟩
end KV
set_option Elab.async false
set_option linter.all false
set_option autoImplicit false
set_option maxRecDepth 100000
set_option maxHeartbeats 0
section k01ph
open PySem PySem.W PySem.Calls PyProof.Rows
theorem k01_of (hF : ∀ ns : List Int, ns.length ≤ 63 → ∃ bs, KV.F_law [.sh (.scr ns)] = .ok (.sh (.bl true), bs)) : PySem.Challenge.rw_dicewins_k01_areas_leads_and_fractions.Holds := by
  w_on; o_law
  refine HandSHeadRun.head_imp (r := OpenLaw.row PySem.Challenge.rw_dicewins_k01_areas_leads_and_fractions) (q := view (OpenLaw.row PySem.Challenge.rw_dicewins_k01_areas_leads_and_fractions).prog [0, 69]) (H := KV.hkk) (ob := KV.obk) (M := 12000) (loose := KV.looseK) (d := HandSHeadRun.topDef (OpenLaw.row PySem.Challenge.rw_dicewins_k01_areas_leads_and_fractions).prog 69) (kwd := []) KV.obk_eq
    KV.runK (by kernel_rfl) (by kernel_rfl) (by kernel_rfl) (by rfl) (by first | assumption | decide +kernel) (by decide +kernel) ⟨rfl, rfl, rfl, rfl, rfl, by decide +kernel⟩ ?hw ?hc
  case hw => w_witness2
  case hc =>
    refine L2.walk_ofE (l := PySem.Challenge.rw_dicewins_k01_areas_leads_and_fractions) (n := 63) (k := 8) (x := "_law_script") (CX := fun o H s E e s' => ∃ w, L2.CX (PySem.Challenge.rw_dicewins_k01_areas_leads_and_fractions).prog w o H s E e s') rfl (by decide) (by kernel_rfl) ⟨rfl, by decide, by decide⟩ ?F ?G
    case G =>
      intro H s e s' h
      obtain ⟨_, _, _, _, _, _, _, _, _, _, _, _, _, z⟩ := h
      exact z
    case F =>
      intro w mg fa h Y G hmg0
      have e : (HandSHeadRun.topDef (OpenLaw.row PySem.Challenge.rw_dicewins_k01_areas_leads_and_fractions).prog 69).name = ("law" : PySem.Str) := by kernel_rfl
      rw [e] at hmg0
      exact KV.law_end hF _ w mg fa h Y G hmg0
end k01ph
set_option Elab.async false
set_option linter.all false
set_option autoImplicit false
set_option maxRecDepth 100000
set_option maxHeartbeats 2000000
namespace KV
open PySem PySem.Spec PyProof.Rows L2
local instance kk0 : KK := ⟨([] : PySem.W.Frag)⟩
abbrev iv (xs : List Int) : List D := xs.map D.int
def isI : D → Bool
  | .int _ => true
  | _ => false
def isRow : D → Bool
  | .lst _ => true
  | .tup _ => true
  | _ => false
/-- a value of the program's own kinds -/
def val : D → Bool
  | .scr _ => false
  | .ty _ => false
  | _ => true
@[simp] theorem val_non : val .non = true := rfl
@[simp] theorem val_bl (b) : val (.bl b) = true := rfl
@[simp] theorem val_int (b) : val (.int b) = true := rfl
@[simp] theorem val_str (b) : val (.str b) = true := rfl
@[simp] theorem val_lst (b) : val (.lst b) = true := rfl
@[simp] theorem val_tup (b) : val (.tup b) = true := rfl
@[simp] theorem isI_int (b) : isI (.int b) = true := rfl
@[simp] theorem bind_ok {α β : Type} (a : α) (k : α → Out β) : (Out.ok a).bind k = k a := rfl
@[simp] theorem bind_er {α β : Type} (e : Er) (ρ : Env) (k : α → Out β) : (Out.er e ρ).bind k = .er e ρ := rfl
@[simp] theorem sSeq_sp (f g : FS) (ρ : Env) : sSeq f g ρ = (f ρ).bind fun fl => match fl with
  | .nx ρ1 => g ρ1
  | x => .ok x := rfl
@[simp] theorem sNil_sp (ρ : Env) : sNil ρ = .ok (.nx ρ) := rfl
@[simp] theorem sIf_sp (t : FT) (p q : FS) (ρ : Env) : sIf t p q ρ = (t ρ).bind fun r => if r.1 = true then p r.2 else q r.2 := rfl
@[simp] theorem sSet_sp (i : Nat) (f : FE) (ρ : Env) : sSet i f ρ = (f ρ).bind fun r => .ok (.nx (r.2.set i (.sh r.1))) := rfl
@[simp] theorem sSetF_sp (i : Nat) (f : FF) (ρ : Env) : sSetF i f ρ = (f ρ).bind fun r => if i < r.2.length then .ok (.nx (r.2.set i (.ow r.1))) else .st := rfl
@[simp] theorem sAug_sp (i : Nat) (k : Int → Int → Int) (f : FE) (ρ : Env) : sAug i k f ρ = match ρ[i]? with
  | some (.sh (.int x)) => (f ρ).bind fun r => match r.1 with
    | .int y => .ok (.nx (r.2.set i (.sh (.int (k x y)))))
    | _ => .st
  | _ => .st := rfl
@[simp] theorem sRet_sp (f : FE) (ρ : Env) : sRet f ρ = (f ρ).bind fun r => .ok (.rt (.sh r.1) r.2) := rfl
@[simp] theorem sRetF_sp (f : FF) (ρ : Env) : sRetF f ρ = (f ρ).bind fun r => .ok (.rt (.ow r.1) r.2) := rfl
@[simp] theorem sRetN_sp (ρ : Env) : sRetN ρ = .ok (.rt (.sh .non) ρ) := rfl
@[simp] theorem sDrop_sp (f : FE) (ρ : Env) : sDrop f ρ = (f ρ).bind fun r => .ok (.nx r.2) := rfl
@[simp] theorem sBk_sp (ρ : Env) : sBk ρ = .ok (.bk ρ) := rfl
@[simp] theorem sCt_sp (ρ : Env) : sCt ρ = .ok (.ct ρ) := rfl
@[simp] theorem eC_sp (d : D) (ρ : Env) : eC d ρ = .ok (d, ρ) := rfl
@[simp] theorem aNil_sp (ρ : Env) : aNil ρ = .ok ([], ρ) := rfl
@[simp] theorem aCons_sp (f : FE) (g : FA) (ρ : Env) : aCons f g ρ = (f ρ).bind fun r => (g r.2).bind fun s => .ok (r.1 :: s.1, s.2) := rfl
@[simp] theorem eBin_sp (k : D → D → Option D) (f g : FE) (ρ : Env) : eBin k f g ρ = (f ρ).bind fun r => (g r.2).bind fun s => match k r.1 s.1 with
  | some d => .ok (d, s.2)
  | none => .st := rfl
@[simp] theorem eUn_sp (k : D → Option D) (f : FE) (ρ : Env) : eUn k f ρ = (f ρ).bind fun r => match k r.1 with
  | some d => .ok (d, r.2)
  | none => .st := rfl
@[simp] theorem eAndV_sp (f g : FE) (ρ : Env) : eAndV f g ρ = (f ρ).bind fun r => match r.1 with
  | .bl true => g r.2
  | .bl false => .ok (.bl false, r.2)
  | _ => .st := rfl
@[simp] theorem eOrV_sp (f g : FE) (ρ : Env) : eOrV f g ρ = (f ρ).bind fun r => match r.1 with
  | .bl true => .ok (.bl true, r.2)
  | .bl false => g r.2
  | _ => .st := rfl
@[simp] theorem tVal_sp (f : FE) (ρ : Env) : tVal f ρ = (f ρ).bind fun r => match r.1 with
  | .bl b => .ok (b, r.2)
  | _ => .st := rfl
@[simp] theorem tAnd2_sp (t u : FT) (ρ : Env) : tAnd2 t u ρ = (t ρ).bind fun r => if r.1 = true then u r.2 else .ok (false, r.2) := rfl
@[simp] theorem tOr2_sp (t u : FT) (ρ : Env) : tOr2 t u ρ = (t ρ).bind fun r => if r.1 = true then .ok (true, r.2) else u r.2 := rfl
@[simp] theorem tNot2_sp (t : FT) (ρ : Env) : tNot2 t ρ = (t ρ).bind fun r => .ok (!r.1, r.2) := rfl
@[simp] theorem tYes2_sp (ρ : Env) : tYes2 ρ = .ok (true, ρ) := rfl
@[simp] theorem eIf_sp (t : FT) (f g : FE) (ρ : Env) : eIf t f g ρ = (t ρ).bind fun r => if r.1 = true then f r.2 else g r.2 := rfl
@[simp] theorem eTup_sp (g : FA) (ρ : Env) : eTup g ρ = (g ρ).bind fun s => if decide (s.1.length ≤ 100000) then .ok (.tup s.1, s.2) else .st := rfl
@[simp] theorem fLst_sp (g : FA) (ρ : Env) : fLst g ρ = (g ρ).bind fun s => if decide (s.1.length ≤ 100000) then .ok (s.1, s.2) else .st := rfl
@[simp] theorem eFrz_sp (f : FF) (ρ : Env) : eFrz f ρ = (f ρ).bind fun r => .ok (.lst r.1, r.2) := rfl
@[simp] theorem arNil_sp (ρ : Env) : arNil ρ = .ok ([], ρ) := rfl
@[simp] theorem arV_sp (f : FE) (g : FAr) (ρ : Env) : arV f g ρ = (f ρ).bind fun r => (g r.2).bind fun s => .ok (.v r.1 :: s.1, s.2) := rfl
@[simp] theorem eVal_sp (f : Env → Out (Sl × Env)) (ρ : Env) : eVal f ρ = (f ρ).bind fun r => match r.1 with
  | .sh d => .ok (d, r.2)
  | .ow ds => .ok (.lst ds, r.2)
  | .un => .st := rfl
@[simp] theorem fVal_sp (f : Env → Out (Sl × Env)) (ρ : Env) : fVal f ρ = (f ρ).bind fun r => match r.1 with
  | .ow ds => .ok (ds, r.2)
  | _ => .st := rfl
@[simp] theorem eCB_sp (k : List D → Option D) (fa : FA) (ρ : Env) : eCB k fa ρ = (fa ρ).bind fun r => match k r.1 with
  | some d => .ok (d, r.2)
  | none => .st := rfl
@[simp] theorem fCB_sp (k : List D → Option (List D)) (fa : FA) (ρ : Env) : fCB k fa ρ = (fa ρ).bind fun r => match k r.1 with
  | some d => .ok (d, r.2)
  | none => .st := rfl
@[simp] theorem gSeq_sp (f : FE) (ρ : Env) : gSeq f ρ = (f ρ).bind fun r => match itemsOf r.1 with
  | some ds => .ok (ds, r.2)
  | none => .st := rfl
@[simp] theorem gRng1_sp (fa : FA) (ρ : Env) : gRng1 fa ρ = (fa ρ).bind fun r => match r.1 with
  | [.int n] => if decide (n ≤ 1000000) && decide (-1000000 ≤ n) then .ok (rangeD 0 n, r.2) else .st
  | _ => .st := rfl
@[simp] theorem gRng2_sp (fa : FA) (ρ : Env) : gRng2 fa ρ = (fa ρ).bind fun r => match r.1 with
  | [.int m, .int n] => if decide (n ≤ 1000000) && decide (-1000000 ≤ n) && decide (m ≤ 1000000) && decide (-1000000 ≤ m) then .ok (rangeD m n, r.2) else .st
  | _ => .st := rfl
@[simp] theorem gEnum_sp (fa : FA) (ρ : Env) : gEnum fa ρ = (fa ρ).bind fun r => match r.1 with
  | [d] => match itemsOf d with
    | some ds => .ok (ds.zipIdx.map fun p => D.tup [.int (p.2 : Nat), p.1], r.2)
    | none => .st
  | _ => .st := rfl
@[simp] theorem gZip_sp (fa : FA) (ρ : Env) : gZip fa ρ = (fa ρ).bind fun r => match r.1 with
  | [d1, d2] => match itemsOf d1, itemsOf d2 with
    | some ds, some es => .ok (zipD ds es, r.2)
    | _, _ => .st
  | _ => .st := rfl
@[simp] theorem sFor_sp (g : FA) (h : HT') (body : FS) (ρ : Env) : sFor g h body ρ = (g ρ).bind fun r => sLoop h body r.1 r.2 := rfl
@[simp] theorem hName_sp (i : Nat) (d : D) (ρ : Env) : hName i d ρ = some (ρ.set i (.sh d)) := rfl
@[simp] theorem hTup_sp (is : List Nat) (d : D) (ρ : Env) : hTup is d ρ = match d with
  | .tup ds => if ds.length = is.length then some (setAll is ds ρ) else none
  | _ => none := rfl
@[simp] theorem hUnp_sp (is : List Nat) (d : D) (ρ : Env) : hUnp is d ρ = match d with
  | .tup ds => if ds.length = is.length then some (setAll is ds ρ) else none
  | .lst ds => if ds.length = is.length then some (setAll is ds ρ) else none
  | _ => none := rfl
@[simp] theorem sUnp_sp (hh : HT') (f : FE) (ρ : Env) : sUnp hh f ρ = (f ρ).bind fun r => match hh r.1 r.2 with
  | some ρ' => .ok (.nx ρ')
  | none => .st := rfl
@[simp] theorem oNo_sp (ρ : Env) : oNo ρ = .ok (none, ρ) := rfl
@[simp] theorem oIs_sp (f : FE) (ρ : Env) : oIs f ρ = (f ρ).bind fun r => match r.1 with
  | .int i => .ok (some i, r.2)
  | _ => .st := rfl
@[simp] theorem tTru_sp (f : FE) (ρ : Env) : tTru f ρ = (f ρ).bind fun r => match truD r.1 with
  | some b => .ok (b, r.2)
  | none => .st := rfl
@[simp] theorem eNotV_sp (f : FE) : eNotV f = eUn (fun d => match d with | .bl b => some (.bl (!b)) | _ => none) f := rfl
@[simp] theorem setAll_sp (i : Nat) (is : List Nat) (d : D) (ds : List D) (ρ : Env) : setAll (i :: is) (d :: ds) ρ = setAll is ds (ρ.set i (.sh d)) := rfl
@[simp] theorem setAll_sp0 (ds : List D) (ρ : Env) : setAll [] ds ρ = ρ := by cases ds <;> rfl
@[simp] theorem setAll_sp1 (i : Nat) (is : List Nat) (ρ : Env) : setAll (i :: is) [] ρ = ρ := rfl
@[simp] theorem eVar_eq (i : Nat) (ρ : Env) : eVar i ρ = match ρ[i]? with
  | some (.sh d) => .ok (d, ρ)
  | some (.ow ds) => .ok (.lst ds, ρ.set i (.sh (.lst ds)))
  | _ => .st := rfl
@[simp] theorem sRetVar_eq (i : Nat) (ρ : Env) : sRetVar i ρ = match ρ[i]? with
  | some (.sh d) => .ok (.rt (.sh d) ρ)
  | some (.ow ds) => .ok (.rt (.ow ds) (ρ.set i .un))
  | _ => .st := rfl
@[simp] theorem sRaise_eq (C : Str) (fs : List Str) (fa : FA) (ρ : Env) : sRaise C fs fa ρ = (fa ρ).bind fun r => if r.1.length = fs.length then .er ⟨C, (fs.zip r.1).reverse⟩ r.2 else .st := rfl
@[simp] theorem dLt_int (i j : Int) : dLt (.int i) (.int j) = some (.bl (decide (i < j))) := rfl
@[simp] theorem dLe_int (i j : Int) : dLe (.int i) (.int j) = some (.bl (decide (i ≤ j))) := rfl
@[simp] theorem dGt_int (i j : Int) : dGt (.int i) (.int j) = some (.bl (decide (j < i))) := rfl
@[simp] theorem dGe_int (i j : Int) : dGe (.int i) (.int j) = some (.bl (decide (j ≤ i))) := rfl
@[simp] theorem dAdd_int (i j : Int) : dAdd (.int i) (.int j) = some (.int (i + j)) := rfl
@[simp] theorem dSub_int (i j : Int) : dSub (.int i) (.int j) = some (.int (i - j)) := rfl
/-- own calls, the arguments all data -/
@[simp] theorem cCall_eq (F : Fn) (n : Nat) (fr : FAr) (ρ : Env) : cCall F n fr ρ = (fr ρ).bind fun r =>
  if decide (r.1.length = n) && decide ((argSlots r.1).Nodup) then match F (slotsOf r.1 r.2) with
    | .ok s => if decide (s.2.length = n) then .ok (s.1, putBack r.1 s.2 r.2) else .st
    | .er e _ => .er e (putBack r.1 (List.replicate n .un) r.2)
    | .st => .st
  else .st := rfl
@[simp] theorem slotsOf_sp (as : List Arg) (ρ : Env) : slotsOf as ρ = as.map fun a => match a with
  | .v d => .sh d
  | .s i => (ρ[i]?).getD .un := rfl
@[simp] theorem argSlots_sp0 : argSlots [] = [] := rfl
@[simp] theorem argSlots_sp1 (d : D) (r : List Arg) : argSlots (.v d :: r) = argSlots r := rfl
@[simp] theorem argSlots_sp2 (i : Nat) (r : List Arg) : argSlots (.s i :: r) = i :: argSlots r := rfl
@[simp] theorem putBack_sp0 (as : List Arg) (ρ : Env) : putBack as [] ρ = ρ := by cases as with
  | nil => rfl
  | cons a as => cases a <;> rfl
@[simp] theorem putBack_sp1 (bs : List Sl) (ρ : Env) : putBack [] bs ρ = ρ := by cases bs <;> rfl
@[simp] theorem putBack_sp2 (i : Nat) (as : List Arg) (b : Sl) (bs : List Sl) (ρ : Env) : putBack (.s i :: as) (b :: bs) ρ = putBack as bs (ρ.set i b) := rfl
@[simp] theorem putBack_sp3 (d : D) (as : List Arg) (b : Sl) (bs : List Sl) (ρ : Env) : putBack (.v d :: as) (b :: bs) ρ = putBack as bs ρ := rfl
@[simp] theorem fnOf_sp (m n : Nat) (kp : Nat → Bool) (f : FS) (as : List Sl) : fnOf m n kp f as = (f (as ++ List.replicate (m - n) .un)).bind fun fl => match fl with
  | .nx ρ => .ok (.sh .non, keepS kp n ρ)
  | .rt r ρ => .ok (r, keepS kp n ρ)
  | _ => .st := rfl
@[simp] theorem keep0_1 (ρ : Env) : keepS (fun _ => false) 1 ρ = [.un] := rfl
@[simp] theorem keep0_2 (ρ : Env) : keepS (fun _ => false) 2 ρ = [.un, .un] := rfl
@[simp] theorem keep0_3 (ρ : Env) : keepS (fun _ => false) 3 ρ = [.un, .un, .un] := rfl
@[simp] theorem keep0_4 (ρ : Env) : keepS (fun _ => false) 4 ρ = [.un, .un, .un, .un] := rfl
@[simp] theorem keep1_1 (ρ : Env) : keepS (fun i => i == 0) 1 ρ = [(ρ[0]?).getD .un] := rfl
@[simp] theorem keep1_2 (ρ : Env) : keepS (fun i => i == 0) 2 ρ = [(ρ[0]?).getD .un, .un] := rfl
@[simp] theorem keep1_3 (ρ : Env) : keepS (fun i => i == 0) 3 ρ = [(ρ[0]?).getD .un, .un, .un] := rfl
@[simp] theorem rep_1 : List.replicate 1 Sl.un = [.un] := rfl
@[simp] theorem rep_2 : List.replicate 2 Sl.un = [.un, .un] := rfl
@[simp] theorem rep_3 : List.replicate 3 Sl.un = [.un, .un, .un] := rfl
@[simp] theorem rep_4 : List.replicate 4 Sl.un = [.un, .un, .un, .un] := rfl
@[simp] theorem rep_5 : List.replicate 5 Sl.un = [.un, .un, .un, .un, .un] := rfl
@[simp] theorem is_int_non  : F_is_int [.sh .non] = .ok (.sh (.bl false), [.un]) := rfl
@[simp] theorem is_row_non  : F_is_row [.sh .non] = .ok (.sh (.bl false), [.un]) := rfl
@[simp] theorem is_int_bl (b : Bool) : F_is_int [.sh (.bl b)] = .ok (.sh (.bl false), [.un]) := rfl
@[simp] theorem is_row_bl (b : Bool) : F_is_row [.sh (.bl b)] = .ok (.sh (.bl false), [.un]) := rfl
@[simp] theorem is_int_int (b : Int) : F_is_int [.sh (.int b)] = .ok (.sh (.bl true), [.un]) := rfl
@[simp] theorem is_row_int (b : Int) : F_is_row [.sh (.int b)] = .ok (.sh (.bl false), [.un]) := rfl
@[simp] theorem is_int_str (b : Str) : F_is_int [.sh (.str b)] = .ok (.sh (.bl false), [.un]) := rfl
@[simp] theorem is_row_str (b : Str) : F_is_row [.sh (.str b)] = .ok (.sh (.bl false), [.un]) := rfl
@[simp] theorem is_int_lst (b : List D) : F_is_int [.sh (.lst b)] = .ok (.sh (.bl false), [.un]) := rfl
@[simp] theorem is_row_lst (b : List D) : F_is_row [.sh (.lst b)] = .ok (.sh (.bl true), [.un]) := rfl
@[simp] theorem is_int_tup (b : List D) : F_is_int [.sh (.tup b)] = .ok (.sh (.bl false), [.un]) := rfl
@[simp] theorem is_row_tup (b : List D) : F_is_row [.sh (.tup b)] = .ok (.sh (.bl true), [.un]) := rfl
theorem check_int_ok (i low : Int) (s : Str) (h : low ≤ i) : F_check_int [.sh (.int i), .sh (.str s), .sh (.int low)] = .ok (.sh (.int i), [.un, .un, .un]) := by
  have e : ¬ i < low := by omega
  simp [F_check_int, b_check_int, e]
theorem check_int_low (i low : Int) (s : Str) (h : i < low) : ∃ ρ, F_check_int [.sh (.int i), .sh (.str s), .sh (.int low)] = .er ⟨"BadNumber", [("name", .str s)]⟩ ρ := by
  simp [F_check_int, b_check_int, h]
@[simp] theorem dGcd_eq (i j : Int) : dGcd [.int i, .int j] = some (.int ((Nat.gcd i.natAbs j.natAbs : Nat) : Int)) := rfl
@[simp] theorem items_l (xs : List D) : itemsOf (.lst xs) = some xs := rfl
@[simp] theorem items_t (xs : List D) : itemsOf (.tup xs) = some xs := rfl
/-! common_divisor -/
def cdiv (a : Int) : List Int → Int
  | [] => a
  | x :: xs => cdiv ((Nat.gcd a.natAbs x.natAbs : Nat) : Int) xs
theorem loop_cd : ∀ (xs : List Int) (d : D) (a : Int) (s : Sl), ∃ s', sLoop (hName 2) (sSeq (sSet 1 (eCB dGcd (aCons (eVar 1) (aCons (eVar 2) aNil)))) sNil) (iv xs) [.sh d, .sh (.int a), s] = .ok (.nx [.sh d, .sh (.int (cdiv a xs)), s'])
  | [], d, a, s => ⟨s, rfl⟩
  | x :: xs, d, a, s => by
    obtain ⟨s', h⟩ := loop_cd xs d ((Nat.gcd a.natAbs x.natAbs : Nat) : Int) (.sh (.int x))
    refine ⟨s', ?_⟩
    simp only [iv, List.map_cons, sLoop]
    simp at h ⊢
    exact h
theorem common_divisor_eq (d : D) (xs : List Int) (h : itemsOf d = some (iv xs)) : F_common_divisor [.sh d] = .ok (.sh (.int (cdiv 0 xs)), [.un]) := by
  obtain ⟨s', e⟩ := loop_cd xs d 0 .un

  simp [F_common_divisor, b_common_divisor, h, e]

/-! ### rows of ints, dice -/
def Row (d : D) (xs : List Int) : Prop := d = .lst (iv xs) ∨ d = .tup (iv xs)
theorem Row.items {d : D} {xs : List Int} (h : Row d xs) : itemsOf d = some (iv xs) := by rcases h with rfl | rfl <;> rfl
structure Die (xs : List Int) : Prop where
  ne : xs ≠ []
  nn : ∀ x ∈ xs, 0 ≤ x
  pos : 0 < xs.sum
theorem sum_zero {xs : List Int} (h : ∀ x ∈ xs, 0 ≤ x ∧ x ≤ 0) : xs.sum = 0 := by
  induction xs with
  | nil => rfl
  | cons x xs ih =>
    have h1 := h x List.mem_cons_self
    rw [List.sum_cons, ih fun y hy => h y (List.mem_cons_of_mem _ hy)]
    omega
theorem Die.max {xs : List Int} (h : Die xs) : maxI xs ≠ 0 := fun e => by
  have hp : 0 < xs.length := List.length_pos_iff.mpr h.ne
  obtain ⟨_, h2⟩ := maxI_spec hp
  have z := sum_zero fun x hx => ⟨h.nn x hx, by rw [← e]; exact h2 x hx⟩
  have p := h.pos
  omega
theorem dMax_row {d : D} {xs : List Int} (h : Row d xs) (hp : 0 < xs.length) : dMax [d] = some (.int (maxI xs)) := by
  have e := intsOf_map xs
  rcases h with rfl | rfl <;> (show (intsOf (iv xs)).bind _ = _; rw [show intsOf (iv xs) = some xs from e]; exact if_pos hp)
theorem dSum_row {d : D} {xs : List Int} (h : Row d xs) : dSum [d] = some (.int xs.sum) := by
  have e := intsOf_map xs
  rcases h with rfl | rfl <;> (show (intsOf (iv xs)).map _ = _; rw [show intsOf (iv xs) = some xs from e]; rfl)
@[simp] theorem dMax_l (xs : List Int) (hp : 0 < xs.length) : dMax [.lst (iv xs)] = some (.int (maxI xs)) := dMax_row (.inl rfl) hp
@[simp] theorem dSum_l (xs : List Int) : dSum [.lst (iv xs)] = some (.int xs.sum) := dSum_row (.inl rfl)
@[simp] theorem dSum_t (xs : List Int) : dSum [.tup (iv xs)] = some (.int xs.sum) := dSum_row (.inr rfl)
@[simp] theorem dLen_l (xs : List D) : dLen [.lst xs] = some (.int xs.length) := rfl
@[simp] theorem dLen_t (xs : List D) : dLen [.tup xs] = some (.int xs.length) := rfl
@[simp] theorem dTuple_l (xs : List D) : dTuple [.lst xs] = some (.tup xs) := rfl
@[simp] theorem dTuple_t (xs : List D) : dTuple [.tup xs] = some (.tup xs) := rfl
@[simp] theorem dList_l (xs : List D) : dList [.lst xs] = some xs := rfl
@[simp] theorem dList_t (xs : List D) : dList [.tup xs] = some xs := rfl
@[simp] theorem dNeg_int (i : Int) : dNeg (.int i) = some (.int (-i)) := rfl
@[simp] theorem dEq_int (a b : Int) : dEq (.int a) (.int b) = some (.bl (decide (a = b))) := by
  show (if (eqOk (.int a) && eqOk (.int b)) = true then some (D.bl (eqD (.int a) (.int b))) else none) = _
  rw [if_pos (by rfl)]
  show some (D.bl (PyData.eqv (.int a) (.int b))) = _
  congr 2
@[simp] theorem dNe_int (a b : Int) : dNe (.int a) (.int b) = some (.bl (!decide (a = b))) := by
  show (if (eqOk (.int a) && eqOk (.int b)) = true then some (D.bl (!eqD (.int a) (.int b))) else none) = _
  rw [if_pos (by rfl)]
  rfl
@[simp] theorem dNotN_non : dNotN .non .non = some (.bl false) := rfl
@[simp] theorem dNotN_int (i : Int) : dNotN (.int i) .non = some (.bl true) := rfl
@[simp] theorem truD_l (xs : List D) : truD (.lst xs) = some (!xs.isEmpty) := rfl
@[simp] theorem truD_t (xs : List D) : truD (.tup xs) = some (!xs.isEmpty) := rfl
@[simp] theorem eCV_eq (k : List D → Option D) (i : Nat) (ρ : Env) : eCV k i ρ = match ρ[i]? with
  | some (.ow ds) => match k [.lst ds] with
    | some (.int z) => .ok (.int z, ρ)
    | _ => .st
  | some (.sh d) => match k [d] with
    | some d' => .ok (d', ρ)
    | none => .st
  | _ => .st := rfl
theorem is_int_val (b : D) (h : val b = true) : F_is_int [.sh b] = .ok (.sh (.bl (isI b)), [.un]) := by
  cases b <;> first | rfl | cases h
abbrev wpBody : FS := sSeq (sIf (tOr2 (tNot2 (tVal (eVal (cCall F_is_int 1 (arV (eVar 2) (arNil)))))) (tVal (eBin dLt (eVar 2) (eC (.int 0))))) (sSeq (sRetVar 1) (sNil)) (sNil)) (sNil)
def enumD (k : Nat) (ds : List D) : List D := (ds.zipIdx k).map fun p => D.tup [.int (p.2 : Nat), p.1]
theorem enumD_cons (k : Nat) (d : D) (ds : List D) : enumD k (d :: ds) = .tup [.int (k : Nat), d] :: enumD (k + 1) ds := by
  simp [enumD, List.zipIdx_cons]
theorem wp_good : ∀ (xs : List Int) (k : Nat) (d : D) (s1 s2 : Sl), (∀ x ∈ xs, 0 ≤ x) → ∃ t1 t2, sLoop (hTup [1, 2]) wpBody (enumD k (iv xs)) [.sh d, s1, s2] = .ok (.nx [.sh d, t1, t2])
  | [], k, d, s1, s2, _ => ⟨s1, s2, rfl⟩
  | x :: xs, k, d, s1, s2, h => by
    have h1 : ¬ x < 0 := by have := h x List.mem_cons_self; omega
    obtain ⟨t1, t2, e⟩ := wp_good xs (k + 1) d (.sh (.int (k : Nat))) (.sh (.int x)) fun y hy => h y (List.mem_cons_of_mem _ hy)
    refine ⟨t1, t2, ?_⟩
    simp only [iv, List.map_cons, enumD_cons, sLoop]
    simp [h1] at e ⊢
    exact e
theorem wp_bad : ∀ (xs : List Int) (k : Nat) (d b : D) (ds : List D) (s1 s2 : Sl), (∀ x ∈ xs, 0 ≤ x) → val b = true → (∀ i, b = .int i → i < 0) → ∃ ρ, sLoop (hTup [1, 2]) wpBody (enumD k (iv xs ++ b :: ds)) [.sh d, s1, s2] = .ok (.rt (.sh (.int ((k + xs.length : Nat) : Int))) ρ)
  | [], k, d, b, ds, s1, s2, _, hv, hb => by
    refine ⟨[.sh d, .sh (.int (k : Nat)), .sh b], ?_⟩
    rw [show iv [] ++ b :: ds = b :: ds from rfl, enumD_cons]
    simp only [sLoop]
    cases b with
    | int i =>
      have := hb i rfl
      simp [this]
    | scr _ => cases hv
    | ty _ => cases hv
    | _ => simp
  | x :: xs, k, d, b, ds, s1, s2, h, hv, hb => by
    have h1 : ¬ x < 0 := by have := h x List.mem_cons_self; omega
    obtain ⟨ρ, e⟩ := wp_bad xs (k + 1) d b ds (.sh (.int (k : Nat))) (.sh (.int x)) (fun y hy => h y (List.mem_cons_of_mem _ hy)) hv hb
    refine ⟨ρ, ?_⟩
    rw [show iv (x :: xs) ++ b :: ds = .int x :: (iv xs ++ b :: ds) from rfl, enumD_cons]
    simp only [sLoop]
    have ek : k + 1 + xs.length = k + (xs.length + 1) := by omega
    simp [h1] at e ⊢
    rw [e]
    have ez : ((k : Int) + 1 + (xs.length : Int)) = (k : Int) + ((xs.length : Int) + 1) := by omega
    rw [ez]
end KV
set_option Elab.async false
set_option linter.all false
set_option autoImplicit false
set_option maxRecDepth 100000
set_option maxHeartbeats 4000000
namespace KV
open PySem PySem.Spec PyProof.Rows L2
theorem iv_ne {xs : List Int} (h : xs ≠ []) : (iv xs).isEmpty = false := by
  cases xs with
  | nil => exact absurd rfl h
  | cons x xs => rfl
theorem wrong_place_good {d : D} {xs : List Int} (hd : Row d xs) (h : Die xs) : F_wrong_place [.sh d] = .ok (.sh .non, [.un]) := by
  have hm := h.max
  have hp : 0 < xs.length := List.length_pos_iff.mpr h.ne
  have e1 := iv_ne h.ne
  have em := dMax_row hd hp
  obtain ⟨t1, t2, e⟩ := wp_good xs 0 d .un .un h.nn
  unfold wpBody enumD at e
  rcases hd with rfl | rfl
  all_goals
    simp only [F_wrong_place, b_wrong_place, fnOf, sSeq, sIf, tOr2, tNot2, tVal, tTru, cCall_eq]
    simp [e1] at e em ⊢
    simp [e, hm, em]
theorem die_of_good {d : D} {xs : List Int} (hd : Row d xs) (h : Die xs) : F_die_of [.sh d] = .ok (.sh (.tup (iv xs)), [.un]) := by
  have e := wrong_place_good hd h
  rcases hd with rfl | rfl <;> simp [F_die_of, b_die_of, e]
theorem die_of_bad {d : D} {i : Int} (h : F_wrong_place [.sh d] = .ok (.sh (.int i), [.un])) : ∃ ρ, F_die_of [.sh d] = .er ⟨"BadDie", [("place", .int i)]⟩ ρ := by
  simp [F_die_of, b_die_of, h]
/-! two dice -/
theorem two_dice_good {d e : D} {xs ys : List Int} (hd : Row d xs) (he : Row e ys) (hx : Die xs) (hy : Die ys) (hl : xs.length = ys.length) : F_two_dice [.sh d, .sh e] = .ok (.sh (.tup [.tup (iv xs), .tup (iv ys)]), [.un, .un]) := by
  have e1 := die_of_good hd hx
  have e2 := die_of_good he hy
  simp [F_two_dice, b_two_dice, e1, e2, hl]
theorem two_dice_bad1 {d e : D} {er : Er} (h : ∃ ρ, F_die_of [.sh d] = .er er ρ) : ∃ ρ, F_two_dice [.sh d, .sh e] = .er er ρ := by
  obtain ⟨ρ, h⟩ := h
  simp [F_two_dice, b_two_dice, h]
theorem two_dice_bad2 {d e : D} {xs : List Int} {er : Er} (hd : Row d xs) (hx : Die xs) (h : ∃ ρ, F_die_of [.sh e] = .er er ρ) : ∃ ρ, F_two_dice [.sh d, .sh e] = .er er ρ := by
  obtain ⟨ρ, h⟩ := h
  have e1 := die_of_good hd hx
  simp [F_two_dice, b_two_dice, h, e1]
theorem two_dice_size {d e : D} {xs ys : List Int} (hd : Row d xs) (he : Row e ys) (hx : Die xs) (hy : Die ys) (hl : xs.length ≠ ys.length) : ∃ ρ, F_two_dice [.sh d, .sh e] = .er ⟨"OtherSize", [("second", .int ys.length), ("first", .int xs.length)]⟩ ρ := by
  have e1 := die_of_good hd hx
  have e2 := die_of_good he hy
  have hl2 : ¬ ((xs.length : Int) = ys.length) := by omega
  simp [F_two_dice, b_two_dice, e1, e2, hl, hl2]
/-! running counts -/
def run (a : Int) : List Int → List Int
  | [] => [a]
  | x :: xs => a :: run (a + x) xs
theorem run_len (a : Int) (xs : List Int) : (run a xs).length = xs.length + 1 := by
  induction xs generalizing a with
  | nil => rfl
  | cons x xs ih => show (run (a + x) xs).length + 1 = _; rw [ih]; rfl
theorem run_get (a : Int) (xs : List Int) (i : Nat) (h : i ≤ xs.length) : (run a xs)[i]? = some (a + (xs.take i).sum) := by
  induction xs generalizing a i with
  | nil =>
    have : i = 0 := by simpa using h
    subst this
    simp [run]
  | cons x xs ih =>
    cases i with
    | zero => simp [run]
    | succ i =>
      show (run (a + x) xs)[i]? = _
      rw [ih (a + x) i (by simpa using h)]
      simp [List.take_succ_cons]
      omega
abbrev rcBody : FS := sSeq (sApp 1 (eBin dAdd (eIxVar 1 (eUn dNeg (eC (.int 1)))) (eVar 2))) sNil
@[simp] theorem eIxVar_eq (i : Nat) (f : FE) (ρ : Env) : eIxVar i f ρ = match ρ[i]? with
  | some (.ow _) => (f ρ).bind fun r => match r.1, r.2[i]? with
    | .int k, some (.ow ds) => match atI ds k with
      | some d => .ok (d, r.2)
      | none => .st
    | _, _ => .st
  | some (.sh x) => (f ρ).bind fun r => match dIx x r.1 with
    | some d => .ok (d, r.2)
    | none => .st
  | _ => .st := rfl
@[simp] theorem sApp_eq (i : Nat) (f : FE) (ρ : Env) : sApp i f ρ = match ρ[i]? with
  | some (.ow _) => (f ρ).bind fun r => match r.2[i]? with
    | some (.ow ds) => if decide (ds.length < 100000) then .ok (.nx (r.2.set i (.ow (ds ++ [r.1])))) else .st
    | _ => .st
  | _ => .st := rfl
theorem atI_end (ds : List D) (d : D) : atI (ds ++ [d]) (-1) = some d := by
  unfold atI ixN
  rw [if_neg (by omega), if_pos (by rw [List.length_append]; simp only [List.length_singleton]; omega)]
  have e : (-1 + ((ds ++ [d]).length : Int)).toNat = ds.length := by rw [List.length_append]; simp only [List.length_singleton]; omega
  rw [e]
  simp
theorem rc_loop : ∀ (xs : List Int) (pre : List D) (a : Int) (d : D) (s : Sl), pre.length + xs.length < 99000 → ∃ s', sLoop (hName 2) rcBody (iv xs) [.sh d, .ow (pre ++ [.int a]), s] = .ok (.nx [.sh d, .ow (pre ++ iv (run a xs)), s'])
  | [], pre, a, d, s, _ => ⟨s, rfl⟩
  | x :: xs, pre, a, d, s, h => by
    obtain ⟨s', e⟩ := rc_loop xs (pre ++ [.int a]) (a + x) d (.sh (.int x)) (by rw [List.length_append]; simp only [List.length_singleton, List.length_cons] at h ⊢; simp; omega)
    refine ⟨s', ?_⟩
    have hl : pre.length + 1 < 100000 := by simp only [List.length_cons] at h; omega
    simp only [iv, List.map_cons, sLoop]
    simp [atI_end, hl] at e ⊢
    rw [e]
    simp [run]
theorem running_counts_eq {d : D} {xs : List Int} (hd : itemsOf d = some (iv xs)) (h : xs.length < 90000) : F_running_counts [.sh d] = .ok (.ow (iv (run 0 xs)), [.un]) := by
  obtain ⟨s', e⟩ := rc_loop xs [] 0 d .un (by simpa using (by omega : xs.length < 99000))
  unfold rcBody at e
  simp only [List.nil_append] at e
  simp only [F_running_counts, b_running_counts, fnOf]
  simp [hd] at e ⊢
  simp [e]
theorem belows_eq {d : D} {xs : List Int} (hd : Row d xs) (h : Die xs) (hl : xs.length < 90000) : F_belows [.sh d] = .ok (.sh (.tup (iv (run 0 xs))), [.un]) := by
  have e1 := die_of_good hd h
  have e2 := running_counts_eq (d := .tup (iv xs)) rfl hl
  simp [F_belows, b_belows, e1, e2]
theorem belows_bad {d : D} {er : Er} (h : ∃ ρ, F_die_of [.sh d] = .er er ρ) : ∃ ρ, F_belows [.sh d] = .er er ρ := by
  obtain ⟨ρ, h⟩ := h
  simp [F_belows, b_belows, h]
/-! below -/
theorem between_ok (i lo hi : Int) (s : Str) (h1 : lo ≤ i) (h2 : i ≤ hi) : F_check_between [.sh (.int i), .sh (.str s), .sh (.int lo), .sh (.int hi)] = .ok (.sh (.int i), [.un, .un, .un, .un]) := by
  simp [F_check_between, b_check_between, tChainF, h1, h2]
theorem between_bad (b : D) (lo hi : Int) (s : Str) (hv : val b = true) (h : ∀ i, b = .int i → i < lo ∨ hi < i) : ∃ ρ, F_check_between [.sh b, .sh (.str s), .sh (.int lo), .sh (.int hi)] = .er ⟨"BadNumber", [("name", .str s)]⟩ ρ := by
  cases b with
  | int i =>
    rcases h i rfl with z | z
    · have z1 : ¬ lo ≤ i := by omega
      simp [F_check_between, b_check_between, tChainF, z1]
    · have z2 : ¬ i ≤ hi := by omega
      by_cases z1 : lo ≤ i
      · simp [F_check_between, b_check_between, tChainF, z1, z2]
      · simp [F_check_between, b_check_between, tChainF, z1]
  | scr _ => cases hv
  | ty _ => cases hv
  | _ => simp [F_check_between, b_check_between]
theorem check_int_bad (b : D) (lo : Int) (s : Str) (hv : val b = true) (h : ∀ i, b = .int i → i < lo) : ∃ ρ, F_check_int [.sh b, .sh (.str s), .sh (.int lo)] = .er ⟨"BadNumber", [("name", .str s)]⟩ ρ := by
  cases b with
  | int i => exact check_int_low i lo s (h i rfl)
  | scr _ => cases hv
  | ty _ => cases hv
  | _ => simp [F_check_int, b_check_int]
end KV
set_option Elab.async false
set_option linter.all false
set_option autoImplicit false
set_option maxRecDepth 100000
set_option maxHeartbeats 4000000
namespace KV
open PySem PySem.Spec PyProof.Rows L2
theorem cutD_take (ds : List D) (n : Nat) : cutD ds none (some (n : Int)) = ds.take n := by
  unfold cutD
  rw [HT.sIx_none, HT.sIx_nat]
  simp
theorem cutD_drop (ds : List D) (n : Nat) : cutD ds (some (n : Int)) none = ds.drop n := by
  unfold cutD
  rw [HT.sIx_none, HT.sIx_nat]
  rw [List.take_of_length_le (by rw [List.length_drop]; omega)]
  by_cases h : n ≤ ds.length
  · rw [Nat.min_eq_left h]
  · rw [List.drop_of_length_le (by omega), List.drop_of_length_le (by omega)]
@[simp] theorem eSl_eq (f : FE) (lo hi : FO) (ρ : Env) : eSl f lo hi ρ = (f ρ).bind fun r => (lo r.2).bind fun l => (hi l.2).bind fun u => match r.1 with
  | .lst xs => .ok (.lst (cutD xs l.1 u.1), u.2)
  | .tup xs => .ok (.tup (cutD xs l.1 u.1), u.2)
  | _ => .st := rfl
theorem iv_take (xs : List Int) (n : Nat) : (iv xs).take n = iv (xs.take n) := by simp [iv, List.map_take]
theorem iv_drop (xs : List Int) (n : Nat) : (iv xs).drop n = iv (xs.drop n) := by simp [iv, List.map_drop]
theorem iv_len (xs : List Int) : (iv xs).length = xs.length := by simp [iv]
theorem below_eq {d : D} {xs : List Int} {n : Nat} (hd : Row d xs) (h : Die xs) (hn : n ≤ xs.length) : F_below [.sh d, .sh (.int n)] = .ok (.sh (.int (xs.take n).sum), [.un, .un]) := by
  have e1 := die_of_good hd h
  have e2 := between_ok n 0 xs.length "gap" (by omega) (by omega)
  have e3 := dSum_t (xs.take n)
  have e4 : List.take n (iv xs) = iv (xs.take n) := iv_take xs n
  simp [F_below, b_below, e1, e2, cutD_take]
  simp only [iv] at e3 e4 ⊢
  rw [e4, e3]
  rfl
theorem below_bad1 {d b : D} {er : Er} (h : ∃ ρ, F_die_of [.sh d] = .er er ρ) : ∃ ρ, F_below [.sh d, .sh b] = .er er ρ := by
  obtain ⟨ρ, h⟩ := h
  simp [F_below, b_below, h]
theorem below_bad2 {d b : D} {xs : List Int} (hd : Row d xs) (h : Die xs) (hv : val b = true) (hb : ∀ i, b = .int i → i < 0 ∨ (xs.length : Int) < i) : ∃ ρ, F_below [.sh d, .sh b] = .er ⟨"BadNumber", [("name", .str "gap")]⟩ ρ := by
  have e1 := die_of_good hd h
  obtain ⟨ρ, e2⟩ := between_bad b 0 xs.length "gap" hv hb
  simp [F_below, b_below, e1, e2]
/-! one_faced -/
def oneF (n r : Nat) (c : Int) : List Int := List.replicate r 0 ++ [c] ++ List.replicate (n - r - 1) 0
theorem dRep_eq (c : D) (k : Nat) (h : k ≤ 1000) : dRep (.tup [c]) (.int k) = some (.tup (List.replicate k c)) := by
  show (if (decide ((0 : Int) ≤ k) && decide ((k : Int) ≤ 1000)) = true then some (D.tup (List.replicate (k : Int).toNat c)) else none) = _
  rw [if_pos (by simp; omega), Int.toNat_natCast]
theorem dPlus_tup (xs ys : List D) (h : xs.length + ys.length ≤ 100000) : dPlus (.tup xs) (.tup ys) = some (.tup (xs ++ ys)) := by
  show (if decide (xs.length + ys.length ≤ 100000) = true then some (D.tup (xs ++ ys)) else none) = _
  rw [if_pos (decide_eq_true h)]
theorem one_faced_eq {n r : Nat} {c : Int} (hn : n ≤ 500) (hr : r < n) (hc : 1 ≤ c) : F_one_faced [.sh (.int n), .sh (.int r), .sh (.int c)] = .ok (.sh (.tup (iv (oneF n r c))), [.un, .un, .un]) := by
  have e1 := check_int_ok n 1 "ranks" (by omega)
  have e2 := between_ok r 0 (n - 1) "rank" (by omega) (by omega)
  have e3 := check_int_ok c 1 "count" hc
  have e4 : ((n : Int) - r - 1) = ((n - r - 1 : Nat) : Int) := by omega
  have e5 := dRep_eq (.int 0) r (by omega)
  have e6 := dRep_eq (.int 0) (n - r - 1) (by omega)
  have e7 := dPlus_tup (List.replicate r (D.int 0)) [.int c] (by simp; omega)
  have e8 := dPlus_tup (List.replicate r (D.int 0) ++ [.int c]) (List.replicate (n - r - 1) (D.int 0)) (by simp; omega)
  have e6 : dRep (.tup [.int 0]) (.int ((n : Int) - r - 1)) = some (.tup (List.replicate (n - r - 1) (D.int 0))) := by rw [e4]; exact e6
  simp at e8
  simp [F_one_faced, b_one_faced, e1, e2, e3, e5, e6, e7, e8]
  simp [oneF, iv]
theorem one_faced_bad1 (a b c : D) (hv : val a = true) (h : ∀ i, a = .int i → i < 1) : ∃ ρ, F_one_faced [.sh a, .sh b, .sh c] = .er ⟨"BadNumber", [("name", .str "ranks")]⟩ ρ := by
  obtain ⟨ρ, e⟩ := check_int_bad a 1 "ranks" hv h
  simp [F_one_faced, b_one_faced, e]
theorem one_faced_bad2 (n : Nat) (b c : D) (h1 : 1 ≤ n) (hv : val b = true) (h : ∀ i, b = .int i → i < 0 ∨ (n : Int) - 1 < i) : ∃ ρ, F_one_faced [.sh (.int n), .sh b, .sh c] = .er ⟨"BadNumber", [("name", .str "rank")]⟩ ρ := by
  have e1 := check_int_ok n 1 "ranks" (by omega)
  obtain ⟨ρ, e⟩ := between_bad b 0 (n - 1) "rank" hv h
  simp [F_one_faced, b_one_faced, e1, e]
theorem one_faced_bad3 (n r : Nat) (c : D) (hr : r < n) (hv : val c = true) (h : ∀ i, c = .int i → i < 1) : ∃ ρ, F_one_faced [.sh (.int n), .sh (.int r), .sh c] = .er ⟨"BadNumber", [("name", .str "count")]⟩ ρ := by
  have e1 := check_int_ok n 1 "ranks" (by omega)
  have e2 := between_ok r 0 (n - 1) "rank" (by omega) (by omega)
  obtain ⟨ρ, e⟩ := check_int_bad c 1 "count" hv h
  simp [F_one_faced, b_one_faced, e1, e2, e]
end KV
set_option Elab.async false
set_option linter.all false
set_option autoImplicit false
set_option maxRecDepth 100000
set_option maxHeartbeats 4000000
namespace KV
open PySem PySem.Spec PyProof.Rows L2
/-! equality of data -/
theorem eqvAll_iv (xs ys : List Int) : PyData.eqvAll (toPL (iv xs)) (toPL (iv ys)) = decide (xs = ys) := by
  induction xs generalizing ys with
  | nil => cases ys with
    | nil => rfl
    | cons y ys => rfl
  | cons x xs ih => cases ys with
    | nil => rfl
    | cons y ys =>
      show ((x == y) && PyData.eqvAll (toPL (iv xs)) (toPL (iv ys))) = _
      rw [ih ys, Bool.eq_iff_iff]
      simp
theorem noScr_iv (xs : List Int) : noScrL (iv xs) = true := by
  induction xs with
  | nil => rfl
  | cons x xs ih => show (true && noScrL (iv xs)) = true; rw [ih]; rfl
theorem lay_iv (xs : List Int) : PyData.canLayAll0 (toPL (iv xs)) = true := by
  induction xs with
  | nil => rfl
  | cons x xs ih => show (true && PyData.canLayAll0 (toPL (iv xs))) = true; rw [ih]; rfl
theorem depth_iv (xs : List Int) : PyData.depthAll (toPL (iv xs)) = 0 := by
  induction xs with
  | nil => rfl
  | cons x xs ih => show max 0 (PyData.depthAll (toPL (iv xs))) = 0; rw [ih]; rfl
theorem eqOk_l (xs : List Int) : eqOk (.lst (iv xs)) = true := by
  show (noScrL (iv xs) && (PyData.canLayAll0 (toPL (iv xs)) && decide (PyData.depthAll (toPL (iv xs)) + 1 ≤ 64))) = true
  rw [noScr_iv, lay_iv, depth_iv]
  rfl
theorem eqOk_t (xs : List Int) : eqOk (.tup (iv xs)) = true := by
  show (noScrL (iv xs) && (PyData.canLayAll0 (toPL (iv xs)) && decide (PyData.depthAll (toPL (iv xs)) + 1 ≤ 64))) = true
  rw [noScr_iv, lay_iv, depth_iv]
  rfl
theorem dEq_l (xs ys : List Int) : dEq (.lst (iv xs)) (.lst (iv ys)) = some (.bl (decide (xs = ys))) := by
  unfold dEq
  rw [eqOk_l, eqOk_l, if_pos (by rfl)]
  show some (D.bl (PyData.eqvAll (toPL (iv xs)) (toPL (iv ys)))) = _
  rw [eqvAll_iv]
theorem dEq_t (xs ys : List Int) : dEq (.tup (iv xs)) (.tup (iv ys)) = some (.bl (decide (xs = ys))) := by
  unfold dEq
  rw [eqOk_t, eqOk_t, if_pos (by rfl)]
  show some (D.bl (PyData.eqvAll (toPL (iv xs)) (toPL (iv ys)))) = _
  rw [eqvAll_iv]
theorem dNe_l (xs ys : List Int) : dNe (.lst (iv xs)) (.lst (iv ys)) = some (.bl (!decide (xs = ys))) := by
  unfold dNe
  rw [eqOk_l, eqOk_l, if_pos (by rfl)]
  show some (D.bl (!PyData.eqvAll (toPL (iv xs)) (toPL (iv ys)))) = _
  rw [eqvAll_iv]
theorem dNe_t (xs ys : List Int) : dNe (.tup (iv xs)) (.tup (iv ys)) = some (.bl (!decide (xs = ys))) := by
  unfold dNe
  rw [eqOk_t, eqOk_t, if_pos (by rfl)]
  show some (D.bl (!PyData.eqvAll (toPL (iv xs)) (toPL (iv ys)))) = _
  rw [eqvAll_iv]
/-! comprehensions -/
theorem cl_map {α : Type} (h : HT') (f : FE) (vs : List Nat) (u v : α → D) (ρ : Env) : ∀ xs : List α, (∀ x ∈ xs, ∃ ρ1, h (u x) ρ = some ρ1 ∧ f ρ1 = .ok (v x, ρ1) ∧ wipeE ρ1 vs = ρ) → cLoop h tYes2 f vs (xs.map u) ρ = .ok (xs.map v, ρ)
  | [], _ => rfl
  | x :: xs, H => by
    obtain ⟨ρ1, h1, h2, h3⟩ := H x List.mem_cons_self
    have ih := cl_map h f vs u v ρ xs fun y hy => H y (List.mem_cons_of_mem _ hy)
    simp only [List.map_cons, cLoop, h1, tYes2, noEr, bind_ok, if_true, h2, h3, ih]
theorem fc_map {α : Type} {g : FA} {h : HT'} {f : FE} {vs : List Nat} (u v : α → D) {ρ ρ0 : Env} (xs : List α) (hg : g ρ = .ok (xs.map u, ρ0)) (hl : xs.length ≤ 100000) (hw : wipeE ρ0 vs = ρ0) (H : ∀ x ∈ xs, ∃ ρ1, h (u x) ρ0 = some ρ1 ∧ f ρ1 = .ok (v x, ρ1) ∧ wipeE ρ1 vs = ρ0) : fComp g h tYes2 f vs ρ = .ok (xs.map v, ρ0) := by
  unfold fComp
  rw [hg]
  simp only [bind_ok]
  rw [if_pos (by rw [List.length_map]; exact decide_eq_true hl), hw, cl_map h f vs u v ρ0 xs H]
  simp only [bind_ok, hw]
theorem zipD_iv (xs ys : List Int) : zipD (iv xs) (iv ys) = (xs.zip ys).map fun p => D.tup [.int p.1, .int p.2] := by
  induction xs generalizing ys with
  | nil => rfl
  | cons x xs ih => cases ys with
    | nil => rfl
    | cons y ys =>
      show D.tup [.int x, .int y] :: zipD (iv xs) (iv ys) = _
      rw [ih ys]
      rfl
/-! bounds -/
def Bd (i : Int) (n : Nat) : Prop := i.natAbs < 2 ^ n
theorem Bd.small {i : Int} {n : Nat} (h : Bd i n) (hn : n ≤ 4000) : small i = true := by
  refine decide_eq_true (Nat.lt_of_lt_of_le h (Nat.pow_le_pow_right (by omega) hn))
theorem Bd.mono {i : Int} {m n : Nat} (h : Bd i m) (hn : m ≤ n) : Bd i n := Nat.lt_of_lt_of_le h (Nat.pow_le_pow_right (by omega) hn)
theorem Bd.mul {i j : Int} {m n : Nat} (h : Bd i m) (k : Bd j n) : Bd (i * j) (m + n) := by
  unfold Bd at *
  rw [Int.natAbs_mul, Nat.pow_add]
  exact Nat.mul_lt_mul'' h k
theorem Bd.add {i j : Int} {n : Nat} (h : Bd i n) (k : Bd j n) : Bd (i + j) (n + 1) := by
  unfold Bd at *
  rw [Nat.pow_succ]
  omega
theorem Bd.sub {i j : Int} {n : Nat} (h : Bd i n) (k : Bd j n) : Bd (i - j) (n + 1) := by
  unfold Bd at *
  rw [Nat.pow_succ]
  omega
theorem Bd.le {i j : Int} {n : Nat} (h : Bd j n) (h0 : 0 ≤ i) (h1 : i ≤ j) : Bd i n := by
  unfold Bd at *
  omega
theorem dMul_bd {i j : Int} {m n : Nat} (h : Bd i m) (k : Bd j n) (hm : m ≤ 4000) (hn : n ≤ 4000) : dMul (.int i) (.int j) = some (.int (i * j)) := by
  show (if (small i && small j) = true then _ else _) = _
  rw [h.small hm, k.small hn]
  rfl
theorem dFdiv_bd {i j : Int} {n : Nat} (k : Bd j n) (hn : n ≤ 4000) (h : j ≠ 0) : dFdiv (.int i) (.int j) = some (.int (i.fdiv j)) := by
  show (if (decide (j ≠ 0) && small j) = true then _ else _) = _
  rw [k.small hn, decide_eq_true h]
  rfl
/-! sums -/
theorem sum_nn {xs : List Int} (h : ∀ x ∈ xs, 0 ≤ x) : 0 ≤ xs.sum := by
  induction xs with
  | nil => exact Int.le_refl _
  | cons x xs ih =>
    have h1 := h x List.mem_cons_self
    have h2 := ih fun y hy => h y (List.mem_cons_of_mem _ hy)
    rw [List.sum_cons]
    omega
theorem mem_le_sum {xs : List Int} (h : ∀ x ∈ xs, 0 ≤ x) {x : Int} (hx : x ∈ xs) : x ≤ xs.sum := by
  induction xs with
  | nil => cases hx
  | cons y xs ih =>
    have h1 := h y List.mem_cons_self
    have h2 := sum_nn fun y hy => h y (List.mem_cons_of_mem _ hy)
    rw [List.sum_cons]
    rcases List.mem_cons.mp hx with rfl | z
    · omega
    · have := ih (fun y hy => h y (List.mem_cons_of_mem _ hy)) z
      omega
theorem take_le_sum {xs : List Int} (h : ∀ x ∈ xs, 0 ≤ x) (i : Nat) : 0 ≤ (xs.take i).sum ∧ (xs.take i).sum ≤ xs.sum := by
  have h1 : 0 ≤ (xs.take i).sum := sum_nn fun y hy => h y (List.mem_of_mem_take hy)
  have h2 : 0 ≤ (xs.drop i).sum := sum_nn fun y hy => h y (List.mem_of_mem_drop hy)
  have h3 : (xs.take i).sum + (xs.drop i).sum = xs.sum := by rw [← List.sum_append, List.take_append_drop]
  omega
theorem run_mem {a : Int} {xs : List Int} (h : ∀ x ∈ xs, 0 ≤ x) {y : Int} (hy : y ∈ run a xs) : a ≤ y ∧ y ≤ a + xs.sum := by
  induction xs generalizing a with
  | nil =>
    have : y = a := by simpa [run] using hy
    subst this
    simp
  | cons x xs ih =>
    have h1 := h x List.mem_cons_self
    have h2 := sum_nn fun y hy => h y (List.mem_cons_of_mem _ hy)
    rw [List.sum_cons]
    rcases List.mem_cons.mp (show y ∈ a :: run (a + x) xs from hy) with rfl | z
    · omega
    · have := ih (fun y hy => h y (List.mem_cons_of_mem _ hy)) z
      omega
/-! the products -/
def dot (xs ys : List Int) : Int := ((xs.zip ys).map fun p => p.1 * p.2).sum
/-- wins, from b on -/
def Wn (b : Int) : List Int → List Int → Int
  | x :: xs, y :: ys => x * b + Wn (b + y) xs ys
  | _, _ => 0
theorem dot_cons (x y : Int) (xs ys : List Int) : dot (x :: xs) (y :: ys) = x * y + dot xs ys := by simp [dot]
theorem dot_comm (xs ys : List Int) : dot xs ys = dot ys xs := by
  induction xs generalizing ys with
  | nil => cases ys <;> rfl
  | cons x xs ih => cases ys with
    | nil => rfl
    | cons y ys => rw [dot_cons, dot_cons, ih ys, Int.mul_comm]
theorem dot_run (b : Int) (xs ys : List Int) (h : xs.length = ys.length) : dot xs (run b ys) = Wn b xs ys := by
  induction xs generalizing ys b with
  | nil => cases ys <;> rfl
  | cons x xs ih => cases ys with
    | nil => cases h
    | cons y ys =>
      show dot (x :: xs) (b :: run (b + y) ys) = _
      rw [dot_cons, ih (b + y) ys (by simpa using h)]
      rfl
theorem all_pairs (a b : Int) (xs ys : List Int) (h : xs.length = ys.length) : Wn b xs ys + Wn a ys xs + dot xs ys = (a + xs.sum) * (b + ys.sum) - a * b := by
  induction xs generalizing ys a b with
  | nil => cases ys with
    | nil => simp [Wn, dot]
    | cons y ys => cases h
  | cons x xs ih => cases ys with
    | nil => cases h
    | cons y ys =>
      have e := ih (a + x) (b + y) ys (by simpa using h)
      rw [dot_cons, List.sum_cons, List.sum_cons]
      simp only [Wn]
      grind
theorem pairs (xs ys : List Int) (h : xs.length = ys.length) : Wn 0 xs ys + Wn 0 ys xs + dot xs ys = xs.sum * ys.sum := by
  have e := all_pairs 0 0 xs ys h
  simpa using e
theorem Wn_nn {b : Int} {xs ys : List Int} (hb : 0 ≤ b) (hx : ∀ x ∈ xs, 0 ≤ x) (hy : ∀ x ∈ ys, 0 ≤ x) : 0 ≤ Wn b xs ys := by
  induction xs generalizing ys b with
  | nil => exact Int.le_refl _
  | cons x xs ih => cases ys with
    | nil => exact Int.le_refl _
    | cons y ys =>
      have h1 := hx x List.mem_cons_self
      have h2 := hy y List.mem_cons_self
      have := ih (b := b + y) (ys := ys) (by omega) (fun z hz => hx z (List.mem_cons_of_mem _ hz)) fun z hz => hy z (List.mem_cons_of_mem _ hz)
      have := Int.mul_nonneg h1 hb
      simp only [Wn]
      omega
theorem dot_nn {xs ys : List Int} (hx : ∀ x ∈ xs, 0 ≤ x) (hy : ∀ x ∈ ys, 0 ≤ x) : 0 ≤ dot xs ys := by
  induction xs generalizing ys with
  | nil => exact Int.le_refl _
  | cons x xs ih => cases ys with
    | nil => exact Int.le_refl _
    | cons y ys =>
      have := Int.mul_nonneg (hx x List.mem_cons_self) (hy y List.mem_cons_self)
      have := ih (ys := ys) (fun z hz => hx z (List.mem_cons_of_mem _ hz)) fun z hz => hy z (List.mem_cons_of_mem _ hz)
      rw [dot_cons]
      omega
/-! leads -/
def rl (s : Int) (a : Int) : List Int → List Int
  | [] => []
  | x :: xs => (a + (a + x) - s) :: rl s (a + x) xs
theorem rl_eq (s a : Int) (xs : List Int) : ((run a xs).zip ((run a xs).drop 1)).map (fun p => p.1 + p.2 - s) = rl s a xs := by
  induction xs generalizing a with
  | nil => rfl
  | cons x xs ih =>
    show ((a :: run (a + x) xs).zip (run (a + x) xs)).map _ = _
    have e := ih (a + x)
    cases xs with
    | nil => rfl
    | cons y ys =>
      show _ = (a + (a + x) - s) :: rl s (a + x) (y :: ys)
      rw [← e]
      rfl
theorem rl_len (s a : Int) (xs : List Int) : (rl s a xs).length = xs.length := by
  induction xs generalizing a with
  | nil => rfl
  | cons x xs ih => exact congrArg (· + 1) (ih (a + x))
theorem dot_rl (s b : Int) (xs ys : List Int) (h : xs.length = ys.length) : dot xs (rl s b ys) = 2 * Wn b xs ys + dot xs ys - s * xs.sum := by
  induction xs generalizing ys b with
  | nil => cases ys with
    | nil => simp [Wn, dot]
    | cons y ys => cases h
  | cons x xs ih => cases ys with
    | nil => cases h
    | cons y ys =>
      show dot (x :: xs) ((b + (b + y) - s) :: rl s (b + y) ys) = _
      rw [dot_cons, ih (b + y) ys (by simpa using h), dot_cons, List.sum_cons]
      simp only [Wn]
      grind
theorem lead_eq (xs ys : List Int) (h : xs.length = ys.length) : dot xs (rl ys.sum 0 ys) = Wn 0 xs ys - Wn 0 ys xs := by
  rw [dot_rl _ _ _ _ h]
  have := pairs xs ys h
  have e := Int.mul_comm xs.sum ys.sum
  omega
end KV
set_option Elab.async false
set_option linter.all false
set_option autoImplicit false
set_option maxRecDepth 100000
set_option maxHeartbeats 4000000
namespace KV
open PySem PySem.Spec PyProof.Rows L2
@[simp] theorem wipeE_sp0 (ρ : Env) : wipeE ρ [] = ρ := rfl
@[simp] theorem wipeE_sp1 (ρ : Env) (v : Nat) (vs : List Nat) : wipeE ρ (v :: vs) = (wipeE ρ vs).set v .un := rfl
structure Gd (xs : List Int) : Prop extends Die xs where
  bd : Bd xs.sum 400
  len : xs.length ≤ 400
theorem Gd.mem {xs : List Int} (h : Gd xs) : ∀ x ∈ xs, Bd x 1000 := fun x hx => (h.bd.le (h.nn x hx) (mem_le_sum h.nn hx)).mono (by omega)
theorem paired_sum_eq {d e : D} {xs ys : List Int} (hd : itemsOf d = some (iv xs)) (he : itemsOf e = some (iv ys)) (hl : xs.length ≤ 1000) (hx : ∀ x ∈ xs, Bd x 1000) (hy : ∀ y ∈ ys, Bd y 1000) : F_paired_sum [.sh d, .sh e] = .ok (.sh (.int (dot xs ys)), [.un, .un]) := by
  have e1 := fc_map (α := Int × Int) (g := gZip (aCons (eVar 0) (aCons (eVar 1) (aNil)))) (h := hTup [2, 3]) (f := eBin dMul (eVar 2) (eVar 3)) (vs := [2, 3]) (fun p => D.tup [.int p.1, .int p.2]) (fun p => D.int (p.1 * p.2)) (ρ := [.sh d, .sh e, .un, .un]) (ρ0 := [.sh d, .sh e, .un, .un]) (xs.zip ys)
    (by rw [← zipD_iv]; simp [hd, he]) (by rw [List.length_zip]; omega) rfl (fun p hp => by
      obtain ⟨p1, p2⟩ := List.of_mem_zip (a := p.1) (b := p.2) hp
      have q := dMul_bd (hx _ p1) (hy _ p2) (by omega) (by omega)
      refine ⟨[.sh d, .sh e, .sh (.int p.1), .sh (.int p.2)], rfl, ?_, rfl⟩
      simp [q])
  have e2 := dSum_l ((xs.zip ys).map fun p => p.1 * p.2)
  have e3 : iv ((xs.zip ys).map fun p => p.1 * p.2) = (xs.zip ys).map fun p => D.int (p.1 * p.2) := by simp [iv]
  rw [e3] at e2
  simp only [F_paired_sum, b_paired_sum, fnOf, sSeq, sRet, eCB, aCons, eFrz]
  simp at e1 ⊢
  rw [e1]
  simp at e2 ⊢
  simp [e2, dot]
theorem rank_leads_eq {d : D} {xs : List Int} (hd : itemsOf d = some (iv xs)) (hl : xs.length ≤ 1000) : F_rank_leads [.sh d] = .ok (.ow (iv (rl xs.sum 0 xs)), [.un]) := by
  have e0 := running_counts_eq hd (by omega)
  have el : atI (iv (run 0 xs)) (-1) = some (.int xs.sum) := by
    unfold atI ixN
    have h1 : (iv (run 0 xs)).length = xs.length + 1 := by rw [iv_len, run_len]
    rw [h1, if_neg (by omega), if_pos (by omega)]
    have h2 : (-1 + ((xs.length + 1 : Nat) : Int)).toNat = xs.length := by omega
    show (iv (run 0 xs))[(-1 + ((xs.length + 1 : Nat) : Int)).toNat]? = _
    rw [h2, iv, List.getElem?_map, run_get 0 xs xs.length (Nat.le_refl _)]
    simp
  have e1 := fc_map (α := Int × Int) (g := gZip (aCons (eVar 1) (aCons (eSl (eVar 1) (oIs (eC (.int 1))) (oNo)) (aNil)))) (h := hTup [2, 3]) (f := eBin dSub (eBin dAdd (eVar 2) (eVar 3)) (eIxVar 1 (eUn dNeg (eC (.int 1))))) (vs := [2, 3]) (fun p => D.tup [.int p.1, .int p.2]) (fun p => D.int (p.1 + p.2 - xs.sum)) (ρ := [.sh d, .sh (.lst (iv (run 0 xs))), .un, .un]) (ρ0 := [.sh d, .sh (.lst (iv (run 0 xs))), .un, .un]) ((run 0 xs).zip ((run 0 xs).drop 1))
    (by
      have h3 := cutD_drop (iv (run 0 xs)) 1
      rw [← zipD_iv, ← iv_drop]
      simp at h3 ⊢
      simp [h3]) (by rw [List.length_zip, run_len]; omega) rfl (fun p hp => by
      refine ⟨[.sh d, .sh (.lst (iv (run 0 xs))), .sh (.int p.1), .sh (.int p.2)], rfl, ?_, rfl⟩
      have q : dIx (.lst (iv (run 0 xs))) (.int (-1)) = some (.int xs.sum) := el
      simp [q])
  have e3 : iv (rl xs.sum 0 xs) = ((run 0 xs).zip ((run 0 xs).drop 1)).map fun p => D.int (p.1 + p.2 - xs.sum) := by rw [← rl_eq]; simp [iv]
  rw [e3]
  simp only [F_rank_leads, b_rank_leads, fnOf, sSeq, sSet, eVal, cCall_eq, arV, arNil, eVar_eq, sRetF]
  simp [e0] at e1 ⊢
  rw [e1]
  simp
/-! the throws -/
theorem Row.tup (xs : List Int) : Row (.tup (iv xs)) xs := .inr rfl
theorem Row.lst (xs : List Int) : Row (.lst (iv xs)) xs := .inl rfl
theorem run_bd {xs : List Int} (h : Gd xs) : ∀ y ∈ run 0 xs, Bd y 1000 := fun y hy => by
  have := run_mem h.nn hy
  exact (h.bd.le (by omega) (by omega)).mono (by omega)
theorem rl_mem {s a : Int} {xs : List Int} (h : ∀ x ∈ xs, 0 ≤ x) {y : Int} (hy : y ∈ rl s a xs) : 2 * a - s ≤ y ∧ y ≤ 2 * (a + xs.sum) - s := by
  induction xs generalizing a with
  | nil => cases hy
  | cons x xs ih =>
    have h1 := h x List.mem_cons_self
    have h2 := sum_nn fun y hy => h y (List.mem_cons_of_mem _ hy)
    rw [List.sum_cons]
    rcases List.mem_cons.mp (show y ∈ (a + (a + x) - s) :: rl s (a + x) xs from hy) with rfl | z
    · omega
    · have := ih (fun y hy => h y (List.mem_cons_of_mem _ hy)) z
      omega
theorem rl_bd {xs : List Int} (h : Gd xs) : ∀ y ∈ rl xs.sum 0 xs, Bd y 1000 := fun y hy => by
  have h1 := rl_mem h.nn hy
  have h2 := h.bd
  have h3 : Bd y 400 := by
    unfold Bd at *
    omega
  exact h3.mono (by omega)
theorem wins_eq {d e : D} {xs ys : List Int} (hd : Row d xs) (he : Row e ys) (hx : Gd xs) (hy : Gd ys) (hl : xs.length = ys.length) : F_wins [.sh d, .sh e] = .ok (.sh (.int (Wn 0 xs ys)), [.un, .un]) := by
  have e1 := two_dice_good hd he hx.toDie hy.toDie hl
  have e2 := running_counts_eq (Row.tup ys).items (by have := hy.len; omega)
  have e3 := paired_sum_eq (Row.tup xs).items (Row.lst (run 0 ys)).items (by have := hx.len; omega) hx.mem (run_bd hy)
  rw [dot_run 0 xs ys hl] at e3
  simp [F_wins, b_wins, e1, e2, e3]
theorem ties_eq {d e : D} {xs ys : List Int} (hd : Row d xs) (he : Row e ys) (hx : Gd xs) (hy : Gd ys) (hl : xs.length = ys.length) : F_ties [.sh d, .sh e] = .ok (.sh (.int (dot xs ys)), [.un, .un]) := by
  have e1 := two_dice_good hd he hx.toDie hy.toDie hl
  have e3 := paired_sum_eq (Row.tup xs).items (Row.tup ys).items (by have := hx.len; omega) hx.mem hy.mem
  simp [F_ties, b_ties, e1, e3]
theorem lead_good {d e : D} {xs ys : List Int} (hd : Row d xs) (he : Row e ys) (hx : Gd xs) (hy : Gd ys) (hl : xs.length = ys.length) : F_lead [.sh d, .sh e] = .ok (.sh (.int (Wn 0 xs ys - Wn 0 ys xs)), [.un, .un]) := by
  have e1 := two_dice_good hd he hx.toDie hy.toDie hl
  have e2 := rank_leads_eq (Row.tup ys).items (by have := hy.len; omega)
  have e3 := paired_sum_eq (Row.tup xs).items (Row.lst (rl ys.sum 0 ys)).items (by have := hx.len; omega) hx.mem (rl_bd hy)
  rw [lead_eq xs ys hl] at e3
  simp [F_lead, b_lead, e1, e2, e3]
end KV
set_option Elab.async false
set_option linter.all false
set_option autoImplicit false
set_option maxRecDepth 100000
set_option maxHeartbeats 4000000
set_option exponentiation.threshold 100
namespace KV
open PySem PySem.Spec PyProof.Rows L2
structure Low (t b p q : Int) : Prop where
  pos : 0 < q
  one : Nat.gcd p.natAbs q.natAbs = 1
  eq : t * q = p * b
  pl : p.natAbs ≤ t.natAbs
  ql : q.natAbs ≤ b.natAbs
theorem low_core (t b : Int) (hb : b ≠ 0) : ∃ G : Int, ∃ p q : Int, G = (if 0 < b then ((Nat.gcd t.natAbs b.natAbs : Nat) : Int) else -((Nat.gcd t.natAbs b.natAbs : Nat) : Int)) ∧ G ≠ 0 ∧ G.natAbs ≤ b.natAbs ∧ t.fdiv G = p ∧ b.fdiv G = q ∧ Low t b p q := by
  have hg0 : 0 < Nat.gcd t.natAbs b.natAbs := Nat.gcd_pos_of_pos_right _ (by omega)
  have hgb : Nat.gcd t.natAbs b.natAbs ≤ b.natAbs := Nat.gcd_le_right _ (by omega)
  have hd1 : ((Nat.gcd t.natAbs b.natAbs : Nat) : Int) ∣ t := Int.ofNat_dvd_left.mpr (Nat.gcd_dvd_left _ _)
  have hd2 : ((Nat.gcd t.natAbs b.natAbs : Nat) : Int) ∣ b := Int.ofNat_dvd_left.mpr (Nat.gcd_dvd_right _ _)
  generalize hg : Nat.gcd t.natAbs b.natAbs = g at hg0 hgb hd1 hd2 ⊢
  have key : ∀ G : Int, G.natAbs = g → G ∣ t → G ∣ b → (0 < G ↔ 0 < b) → G ≠ 0 → ∃ p q : Int, t.fdiv G = p ∧ b.fdiv G = q ∧ Low t b p q := by
    intro G hG h1 h2 hs h0
    obtain ⟨p, hp⟩ := h1
    obtain ⟨q, hq⟩ := h2
    refine ⟨p, q, by rw [hp, Int.mul_fdiv_cancel_left _ h0], by rw [hq, Int.mul_fdiv_cancel_left _ h0], ?_, ?_, ?_, ?_, ?_⟩
    · rcases Int.lt_trichotomy q 0 with z | z | z
      · rcases Int.lt_trichotomy G 0 with y | y | y
        · have := Int.mul_pos_of_neg_of_neg y z
          omega
        · omega
        · have := Int.mul_neg_of_pos_of_neg y z
          omega
      · subst z
        simp at hq
        omega
      · exact z
    · have e1 : t.natAbs = g * p.natAbs := by rw [hp, Int.natAbs_mul, hG]
      have e2 : b.natAbs = g * q.natAbs := by rw [hq, Int.natAbs_mul, hG]
      rw [e1, e2, Nat.gcd_mul_left] at hg
      exact Nat.eq_of_mul_eq_mul_left hg0 (by rw [hg, Nat.mul_one])
    · rw [hp, hq]; grind
    · rw [hp, Int.natAbs_mul, hG]
      exact Nat.le_mul_of_pos_left _ hg0
    · rw [hq, Int.natAbs_mul, hG]
      exact Nat.le_mul_of_pos_left _ hg0
  by_cases hp : 0 < b
  · obtain ⟨p, q, h1, h2, h3⟩ := key g (by omega) hd1 hd2 (by omega) (by omega)
    exact ⟨g, p, q, by rw [if_pos hp], by omega, by omega, h1, h2, h3⟩
  · obtain ⟨p, q, h1, h2, h3⟩ := key (-g) (by omega) (Int.neg_dvd.mpr hd1) (Int.neg_dvd.mpr hd2) (by omega) (by omega)
    exact ⟨-g, p, q, by rw [if_neg hp], by omega, by omega, h1, h2, h3⟩
theorem lowest_eq (t b : Int) (hb : b ≠ 0) {n : Nat} (hs : Bd b n) (hn : n ≤ 4000) : ∃ p q, F_lowest [.sh (.int t), .sh (.int b)] = .ok (.sh (.tup [.int p, .int q]), [.un, .un]) ∧ Low t b p q := by
  obtain ⟨G, p, q, hG, h0, hl, h1, h2, h3⟩ := low_core t b hb
  refine ⟨p, q, ?_, h3⟩
  have hbG : Bd G n := Nat.lt_of_le_of_lt hl hs
  have e1 := dFdiv_bd (i := t) hbG hn h0
  have e2 := dFdiv_bd (i := b) hbG hn h0
  rw [h1] at e1
  rw [h2] at e2
  by_cases hp : 0 < b
  · rw [if_pos hp] at hG
    subst hG
    simp [F_lowest, b_lowest, hp, e1, e2]
  · rw [if_neg hp] at hG
    subst hG
    simp [F_lowest, b_lowest, hp, e1, e2]
theorem low_uniq {t b p q t' b' p' q' : Int} (h : Low t b p q) (h' : Low t' b' p' q') (hb : b ≠ 0) (hb' : b' ≠ 0) (e : t * b' = t' * b) : p = p' ∧ q = q' := by
  have e1 := h.eq
  have e2 := h'.eq
  have e3 : p * q' = p' * q := by
    have k : (b * b') * (p * q') = (b * b') * (p' * q) := by grind
    exact Int.eq_of_mul_eq_mul_left (Int.mul_ne_zero hb hb') k
  have n3 : p.natAbs * q'.natAbs = p'.natAbs * q.natAbs := by rw [← Int.natAbs_mul, ← Int.natAbs_mul, e3]
  have d1 : q.natAbs ∣ q'.natAbs := Nat.Coprime.dvd_of_dvd_mul_left (k := q.natAbs) (m := p.natAbs) (Nat.Coprime.symm h.one) (by rw [n3]; exact Nat.dvd_mul_left _ _)
  have d2 : q'.natAbs ∣ q.natAbs := Nat.Coprime.dvd_of_dvd_mul_left (k := q'.natAbs) (m := p'.natAbs) (Nat.Coprime.symm h'.one) (by rw [← n3]; exact Nat.dvd_mul_left _ _)
  have hq := Nat.dvd_antisymm d1 d2
  have p1 := h.pos
  have p2 := h'.pos
  have eq : q = q' := by omega
  subst eq
  exact ⟨Int.eq_of_mul_eq_mul_right (by omega) e3, rfl⟩
theorem Low.self {p q : Int} (h : 0 < q) (h1 : Nat.gcd p.natAbs q.natAbs = 1) : Low p q p q := ⟨h, h1, rfl, Nat.le_refl _, Nat.le_refl _⟩
/-! fractions passed -/
def FrOk (d : D) (p q : Int) : Prop := 0 < q ∧ ∀ s, F_fraction [.sh d, .sh (.str s)] = .ok (.sh (.tup [.int p, .int q]), [.un, .un])
theorem fr_int (i : Int) : FrOk (.int i) i 1 := ⟨by omega, fun s => by simp [F_fraction, b_fraction]⟩
theorem fr_pair {d : D} {t b : Int} {n : Nat} (hd : d = .tup [.int t, .int b] ∨ d = .lst [.int t, .int b]) (hb : 1 ≤ b) (hs : Bd b n) (hn : n ≤ 4000) : ∃ p q, FrOk d p q ∧ Low t b p q := by
  obtain ⟨p, q, e, l⟩ := lowest_eq t b (by omega) hs hn
  refine ⟨p, q, ⟨l.pos, fun s => ?_⟩, l⟩
  have h1 : ¬ b < 1 := by omega
  rcases hd with rfl | rfl <;> simp [F_fraction, b_fraction, h1, e]
theorem fr_low {p q : Int} {n : Nat} (h : 0 < q) (h1 : Nat.gcd p.natAbs q.natAbs = 1) (hs : Bd q n) (hn : n ≤ 4000) : FrOk (.tup [.int p, .int q]) p q := by
  obtain ⟨p', q', e, l⟩ := fr_pair (.inl rfl) (t := p) (b := q) (by omega) hs hn
  obtain ⟨z1, z2⟩ := low_uniq l (Low.self h h1) (by omega) (by omega) rfl
  subst z1
  subst z2
  exact e
theorem both_eq {d e : D} {p q p' q' : Int} (h : FrOk d p q) (h' : FrOk e p' q') : F_both_fractions [.sh d, .sh e] = .ok (.sh (.tup [.int p, .int q, .int p', .int q']), [.un, .un]) := by
  have e1 := h.2 "first"
  have e2 := h'.2 "second"
  have e3 := dPlus_tup [.int p, .int q] [.int p', .int q'] (by simp)
  simp [F_both_fractions, b_both_fractions, e1, e2] at e3 ⊢
  simp [e3]
theorem both_bad1 {d e : D} (h : ∀ s, ∃ ρ, F_fraction [.sh d, .sh (.str s)] = .er ⟨"BadNumber", [("name", .str s)]⟩ ρ) : ∃ ρ, F_both_fractions [.sh d, .sh e] = .er ⟨"BadNumber", [("name", .str "first")]⟩ ρ := by
  obtain ⟨ρ, e1⟩ := h "first"
  simp [F_both_fractions, b_both_fractions, e1]
theorem both_bad2 {d e : D} {p q : Int} (h : FrOk d p q) (h' : ∀ s, ∃ ρ, F_fraction [.sh e, .sh (.str s)] = .er ⟨"BadNumber", [("name", .str s)]⟩ ρ) : ∃ ρ, F_both_fractions [.sh d, .sh e] = .er ⟨"BadNumber", [("name", .str "second")]⟩ ρ := by
  obtain ⟨ρ, e1⟩ := h' "second"
  have e2 := h.2 "first"
  simp [F_both_fractions, b_both_fractions, e1, e2]
end KV
set_option Elab.async false
set_option linter.all false
set_option autoImplicit false
set_option maxRecDepth 100000
set_option maxHeartbeats 4000000
set_option exponentiation.threshold 100
namespace KV
open PySem PySem.Spec PyProof.Rows L2
theorem added_eq {d e : D} {p q p' q' : Int} (h : FrOk d p q) (h' : FrOk e p' q') (b1 : Bd p 1000) (b2 : Bd q 1000) (b3 : Bd p' 1000) (b4 : Bd q' 1000) : ∃ u v, F_added [.sh d, .sh e] = .ok (.sh (.tup [.int u, .int v]), [.un, .un]) ∧ Low (p * q' + p' * q) (q * q') u v := by
  have e1 := both_eq h h'
  obtain ⟨u, v, e2, l⟩ := lowest_eq (p * q' + p' * q) (q * q') (Int.mul_ne_zero (by have := h.1; omega) (by have := h'.1; omega)) (b2.mul b4) (by omega)
  have m1 := dMul_bd b1 b4 (by omega) (by omega)
  have m2 := dMul_bd b3 b2 (by omega) (by omega)
  have m3 := dMul_bd b2 b4 (by omega) (by omega)
  exact ⟨u, v, by simp [F_added, b_added, e1, e2, m1, m2, m3], l⟩
theorem taken_off_eq {d e : D} {p q p' q' : Int} (h : FrOk d p q) (h' : FrOk e p' q') (b1 : Bd p 1000) (b2 : Bd q 1000) (b3 : Bd p' 1000) (b4 : Bd q' 1000) : ∃ u v, F_taken_off [.sh d, .sh e] = .ok (.sh (.tup [.int u, .int v]), [.un, .un]) ∧ Low (p * q' - p' * q) (q * q') u v := by
  have e1 := both_eq h h'
  obtain ⟨u, v, e2, l⟩ := lowest_eq (p * q' - p' * q) (q * q') (Int.mul_ne_zero (by have := h.1; omega) (by have := h'.1; omega)) (b2.mul b4) (by omega)
  have m1 := dMul_bd b1 b4 (by omega) (by omega)
  have m2 := dMul_bd b3 b2 (by omega) (by omega)
  have m3 := dMul_bd b2 b4 (by omega) (by omega)
  exact ⟨u, v, by simp [F_taken_off, b_taken_off, e1, e2, m1, m2, m3], l⟩
theorem multiplied_eq {d e : D} {p q p' q' : Int} (h : FrOk d p q) (h' : FrOk e p' q') (b1 : Bd p 1000) (b2 : Bd q 1000) (b3 : Bd p' 1000) (b4 : Bd q' 1000) : ∃ u v, F_multiplied [.sh d, .sh e] = .ok (.sh (.tup [.int u, .int v]), [.un, .un]) ∧ Low (p * p') (q * q') u v := by
  have e1 := both_eq h h'
  obtain ⟨u, v, e2, l⟩ := lowest_eq (p * p') (q * q') (Int.mul_ne_zero (by have := h.1; omega) (by have := h'.1; omega)) (b2.mul b4) (by omega)
  have m1 := dMul_bd b1 b3 (by omega) (by omega)
  have m3 := dMul_bd b2 b4 (by omega) (by omega)
  exact ⟨u, v, by simp [F_multiplied, b_multiplied, e1, e2, m1, m3], l⟩
theorem divided_eq {d e : D} {p q p' q' : Int} (h : FrOk d p q) (h' : FrOk e p' q') (h0 : p' ≠ 0) (b1 : Bd p 1000) (b2 : Bd q 1000) (b3 : Bd p' 1000) (b4 : Bd q' 1000) : ∃ u v, F_divided [.sh d, .sh e] = .ok (.sh (.tup [.int u, .int v]), [.un, .un]) ∧ Low (p * q') (p' * q) u v := by
  have e1 := both_eq h h'
  obtain ⟨u, v, e2, l⟩ := lowest_eq (p * q') (p' * q) (Int.mul_ne_zero h0 (by have := h.1; omega)) (b3.mul b2) (by omega)
  have m1 := dMul_bd b1 b4 (by omega) (by omega)
  have m2 := dMul_bd b3 b2 (by omega) (by omega)
  exact ⟨u, v, by simp [F_divided, b_divided, e1, e2, m1, m2, h0], l⟩
theorem divided_zero {d e : D} {p q q' : Int} (h : FrOk d p q) (h' : FrOk e 0 q') : ∃ ρ, F_divided [.sh d, .sh e] = .er ⟨"BadNumber", [("name", .str "divisor")]⟩ ρ := by
  have e1 := both_eq h h'
  simp [F_divided, b_divided, e1]
theorem is_less_eq {d e : D} {p q p' q' : Int} (h : FrOk d p q) (h' : FrOk e p' q') (b1 : Bd p 1000) (b2 : Bd q 1000) (b3 : Bd p' 1000) (b4 : Bd q' 1000) : F_is_less [.sh d, .sh e] = .ok (.sh (.bl (decide (p * q' < p' * q))), [.un, .un]) := by
  have e1 := both_eq h h'
  have m1 := dMul_bd b1 b4 (by omega) (by omega)
  have m2 := dMul_bd b3 b2 (by omega) (by omega)
  simp [F_is_less, b_is_less, e1, m1, m2]
theorem is_equal_eq {d e : D} {p q p' q' : Int} (h : FrOk d p q) (h' : FrOk e p' q') : F_is_equal [.sh d, .sh e] = .ok (.sh (.bl (decide (p = p' ∧ q = q'))), [.un, .un]) := by
  have e1 := h.2 "first"
  have e2 := h'.2 "second"
  have e3 := dEq_t [p, q] [p', q']
  simp at e3
  simp [F_is_equal, b_is_equal, e1, e2, e3]
/-! the bad ones -/
def BadFr (d : D) : Prop := ∀ s, ∃ ρ, F_fraction [.sh d, .sh (.str s)] = .er ⟨"BadNumber", [("name", .str s)]⟩ ρ
section
variable {d e : D} {p q : Int}
theorem added_bad1 (h : BadFr d) : ∃ ρ, F_added [.sh d, .sh e] = .er ⟨"BadNumber", [("name", .str "first")]⟩ ρ := by
  obtain ⟨ρ, z⟩ := both_bad1 (e := e) h
  simp [F_added, b_added, z]
theorem added_bad2 (h : FrOk d p q) (h' : BadFr e) : ∃ ρ, F_added [.sh d, .sh e] = .er ⟨"BadNumber", [("name", .str "second")]⟩ ρ := by
  obtain ⟨ρ, z⟩ := both_bad2 h h'
  simp [F_added, b_added, z]
theorem taken_off_bad1 (h : BadFr d) : ∃ ρ, F_taken_off [.sh d, .sh e] = .er ⟨"BadNumber", [("name", .str "first")]⟩ ρ := by
  obtain ⟨ρ, z⟩ := both_bad1 (e := e) h
  simp [F_taken_off, b_taken_off, z]
theorem taken_off_bad2 (h : FrOk d p q) (h' : BadFr e) : ∃ ρ, F_taken_off [.sh d, .sh e] = .er ⟨"BadNumber", [("name", .str "second")]⟩ ρ := by
  obtain ⟨ρ, z⟩ := both_bad2 h h'
  simp [F_taken_off, b_taken_off, z]
theorem multiplied_bad1 (h : BadFr d) : ∃ ρ, F_multiplied [.sh d, .sh e] = .er ⟨"BadNumber", [("name", .str "first")]⟩ ρ := by
  obtain ⟨ρ, z⟩ := both_bad1 (e := e) h
  simp [F_multiplied, b_multiplied, z]
theorem multiplied_bad2 (h : FrOk d p q) (h' : BadFr e) : ∃ ρ, F_multiplied [.sh d, .sh e] = .er ⟨"BadNumber", [("name", .str "second")]⟩ ρ := by
  obtain ⟨ρ, z⟩ := both_bad2 h h'
  simp [F_multiplied, b_multiplied, z]
theorem divided_bad1 (h : BadFr d) : ∃ ρ, F_divided [.sh d, .sh e] = .er ⟨"BadNumber", [("name", .str "first")]⟩ ρ := by
  obtain ⟨ρ, z⟩ := both_bad1 (e := e) h
  simp [F_divided, b_divided, z]
theorem divided_bad2 (h : FrOk d p q) (h' : BadFr e) : ∃ ρ, F_divided [.sh d, .sh e] = .er ⟨"BadNumber", [("name", .str "second")]⟩ ρ := by
  obtain ⟨ρ, z⟩ := both_bad2 h h'
  simp [F_divided, b_divided, z]
theorem is_less_bad1 (h : BadFr d) : ∃ ρ, F_is_less [.sh d, .sh e] = .er ⟨"BadNumber", [("name", .str "first")]⟩ ρ := by
  obtain ⟨ρ, z⟩ := both_bad1 (e := e) h
  simp [F_is_less, b_is_less, z]
theorem is_less_bad2 (h : FrOk d p q) (h' : BadFr e) : ∃ ρ, F_is_less [.sh d, .sh e] = .er ⟨"BadNumber", [("name", .str "second")]⟩ ρ := by
  obtain ⟨ρ, z⟩ := both_bad2 h h'
  simp [F_is_less, b_is_less, z]
theorem is_equal_bad1 (h : BadFr d) : ∃ ρ, F_is_equal [.sh d, .sh e] = .er ⟨"BadNumber", [("name", .str "first")]⟩ ρ := by
  obtain ⟨ρ, z⟩ := h "first"
  simp [F_is_equal, b_is_equal, z]
theorem is_equal_bad2 (h : FrOk d p q) (h' : BadFr e) : ∃ ρ, F_is_equal [.sh d, .sh e] = .er ⟨"BadNumber", [("name", .str "second")]⟩ ρ := by
  obtain ⟨ρ, z⟩ := h' "second"
  have z2 := h.2 "first"
  simp [F_is_equal, b_is_equal, z, z2]
end
/-! chance, half chance -/
theorem sum_pos_bd {xs ys : List Int} (hx : Gd xs) (hy : Gd ys) : 0 < xs.sum * ys.sum ∧ Bd (xs.sum * ys.sum) 800 := ⟨Int.mul_pos hx.pos hy.pos, hx.bd.mul hy.bd⟩
theorem chance_eq {d e : D} {xs ys : List Int} (hd : Row d xs) (he : Row e ys) (hx : Gd xs) (hy : Gd ys) (hl : xs.length = ys.length) : ∃ p q, F_chance [.sh d, .sh e] = .ok (.sh (.tup [.int p, .int q]), [.un, .un]) ∧ Low (Wn 0 xs ys) (xs.sum * ys.sum) p q := by
  have e1 := two_dice_good hd he hx.toDie hy.toDie hl
  have e2 := running_counts_eq (Row.tup ys).items (by have := hy.len; omega)
  have e3 := paired_sum_eq (Row.tup xs).items (Row.lst (run 0 ys)).items (by have := hx.len; omega) hx.mem (run_bd hy)
  rw [dot_run 0 xs ys hl] at e3
  obtain ⟨s1, s2⟩ := sum_pos_bd hx hy
  obtain ⟨p, q, e4, l⟩ := lowest_eq (Wn 0 xs ys) (xs.sum * ys.sum) (by omega) s2 (by omega)
  have m := dMul_bd hx.bd hy.bd (by omega) (by omega)
  exact ⟨p, q, by simp [F_chance, b_chance, e1, e2, e3, e4, m], l⟩
theorem half_chance_eq {d e : D} {xs ys : List Int} (hd : Row d xs) (he : Row e ys) (hx : Gd xs) (hy : Gd ys) (hl : xs.length = ys.length) : ∃ p q, F_half_chance [.sh d, .sh e] = .ok (.sh (.tup [.int p, .int q]), [.un, .un]) ∧ Low (xs.sum * ys.sum + (Wn 0 xs ys - Wn 0 ys xs)) (2 * (xs.sum * ys.sum)) p q := by
  have e1 := two_dice_good hd he hx.toDie hy.toDie hl
  have e2 := rank_leads_eq (Row.tup ys).items (by have := hy.len; omega)
  have e3 := paired_sum_eq (Row.tup xs).items (Row.lst (rl ys.sum 0 ys)).items (by have := hx.len; omega) hx.mem (rl_bd hy)
  rw [lead_eq xs ys hl] at e3
  obtain ⟨s1, s2⟩ := sum_pos_bd hx hy
  have two : Bd 2 2 := by unfold Bd; decide
  obtain ⟨p, q, e4, l⟩ := lowest_eq (xs.sum * ys.sum + (Wn 0 xs ys - Wn 0 ys xs)) (2 * (xs.sum * ys.sum)) (by omega) (two.mul s2) (by omega)
  have m := dMul_bd hx.bd hy.bd (by omega) (by omega)
  have m2 := dMul_bd two s2 (by omega) (by omega)
  exact ⟨p, q, by simp [F_half_chance, b_half_chance, e1, e2, e3, e4, m, m2], l⟩
end KV
set_option Elab.async false
set_option linter.all false
set_option autoImplicit false
set_option maxRecDepth 100000
set_option maxHeartbeats 4000000
set_option exponentiation.threshold 100
namespace KV
open PySem PySem.Spec PyProof.Rows L2
/-! areas -/
/-- the sum of the first i -/
def pre (xs : List Int) (i : Nat) : Int := (xs.take i).sum
theorem run_pre (xs : List Int) (i : Nat) (h : i ≤ xs.length) : (run 0 xs)[i]? = some (pre xs i) := by
  rw [run_get 0 xs i h, Int.zero_add]; rfl
theorem atI_iv (xs : List Int) (i : Nat) (v : Int) (h : xs[i]? = some v) : atI (iv xs) i = some (.int v) := by
  have hi : i < xs.length := (List.getElem?_eq_some_iff.mp h).1
  unfold atI ixN
  rw [if_pos (by omega), if_pos (by rw [iv_len]; omega)]
  show (iv xs)[(i : Int).toNat]? = _
  rw [Int.toNat_natCast, iv, List.getElem?_map, h]
  rfl
theorem pre_bd {xs : List Int} (h : Gd xs) (i : Nat) : Bd (pre xs i) 400 := by
  have := take_le_sum h.nn i
  exact h.bd.le this.1 this.2
def area (xs ys : List Int) (i : Nat) : Int := pre xs (i + 1) * pre ys i - pre xs i * pre ys (i + 1)
theorem range_iv (n : Nat) : rangeD 0 n = (List.range n).map fun i => D.int (i : Nat) := by
  unfold rangeD
  rw [show ((n : Int) - 0).toNat = n by omega]
  congr 1
  funext i
  rw [Int.zero_add]
abbrev arBody : FS := sSeq (sApp 6 (eBin dSub (eBin dMul (eIxVar 4 (eBin dAdd (eVar 7) (eC (.int 1)))) (eIxVar 5 (eVar 7))) (eBin dMul (eIxVar 4 (eVar 7)) (eIxVar 5 (eBin dAdd (eVar 7) (eC (.int 1))))))) (sNil)
theorem ar_loop {xs ys : List Int} (hx : Gd xs) (hy : Gd ys) (hl : xs.length = ys.length) (a b c d : Sl) : ∀ (ns : List Nat) (acc : List D) (s : Sl), (∀ n ∈ ns, n < xs.length) → acc.length + ns.length ≤ 10000 → ∃ s', sLoop (hName 7) arBody (ns.map fun i => D.int (i : Nat)) [a, b, c, d, .sh (.lst (iv (run 0 xs))), .sh (.lst (iv (run 0 ys))), .ow acc, s] = .ok (.nx [a, b, c, d, .sh (.lst (iv (run 0 xs))), .sh (.lst (iv (run 0 ys))), .ow (acc ++ ns.map fun i => D.int (area xs ys i)), s'])
  | [], acc, s, _, _ => ⟨s, by simp [sLoop]⟩
  | n :: ns, acc, s, h, hb => by
    have hn := h n List.mem_cons_self
    obtain ⟨s', e⟩ := ar_loop hx hy hl a b c d ns (acc ++ [D.int (area xs ys n)]) (.sh (.int (n : Nat))) (fun m hm => h m (List.mem_cons_of_mem _ hm)) (by rw [List.length_append]; simp only [List.length_cons, List.length_nil] at hb ⊢; omega)
    refine ⟨s', ?_⟩
    have a1 := atI_iv (run 0 xs) n _ (run_pre xs n (by omega))
    have a2 := atI_iv (run 0 xs) (n + 1) _ (run_pre xs (n + 1) (by omega))
    have a3 := atI_iv (run 0 ys) n _ (run_pre ys n (by omega))
    have a4 := atI_iv (run 0 ys) (n + 1) _ (run_pre ys (n + 1) (by omega))
    have b1 : dIx (.lst (iv (run 0 xs))) (.int n) = some (.int (pre xs n)) := a1
    have b2 : dIx (.lst (iv (run 0 xs))) (.int ((n : Int) + 1)) = some (.int (pre xs (n + 1))) := a2
    have b3 : dIx (.lst (iv (run 0 ys))) (.int n) = some (.int (pre ys n)) := a3
    have b4 : dIx (.lst (iv (run 0 ys))) (.int ((n : Int) + 1)) = some (.int (pre ys (n + 1))) := a4
    have m1 := dMul_bd (pre_bd hx (n + 1)) (pre_bd hy n) (by omega) (by omega)
    have m2 := dMul_bd (pre_bd hx n) (pre_bd hy (n + 1)) (by omega) (by omega)
    have hlt : acc.length < 100000 := by simp only [List.length_cons] at hb; omega
    simp only [List.map_cons, sLoop]
    simp [b1, b2, b3, b4, m1, m2, hlt] at e ⊢
    rw [show pre xs (n + 1) * pre ys n - pre xs n * pre ys (n + 1) = area xs ys n from rfl, e]
theorem areas_eq {d e : D} {xs ys : List Int} (hd : Row d xs) (he : Row e ys) (hx : Gd xs) (hy : Gd ys) (hl : xs.length = ys.length) : F_areas [.sh d, .sh e] = .ok (.sh (.tup (iv ((List.range xs.length).map (area xs ys)))), [.un, .un]) := by
  have e1 := two_dice_good hd he hx.toDie hy.toDie hl
  have e2 := running_counts_eq (Row.tup xs).items (by have := hx.len; omega)
  have e3 := running_counts_eq (Row.tup ys).items (by have := hy.len; omega)
  obtain ⟨s', e4⟩ := ar_loop hx hy hl (.sh d) (.sh e) (.sh (.tup (iv xs))) (.sh (.tup (iv ys))) (List.range xs.length) [] .un (fun n hn => List.mem_range.mp hn) (by have := hx.len; simp; omega)
  rw [← range_iv] at e4
  have h1 : (xs.length : Int) ≤ 1000000 := by have := hx.len; omega
  have h2 : (-1000000 : Int) ≤ xs.length := by omega
  unfold arBody at e4
  simp at e4
  simp [F_areas, b_areas, e1, e2, e3, h1, h2, e4]
theorem pre_succ (xs : List Int) (i : Nat) (v : Int) (h : xs[i]? = some v) : pre xs (i + 1) = pre xs i + v := by
  unfold pre
  rw [List.take_add_one, h]
  simp
/-- the sum of the areas from a and b on -/
def areaS (a b : Int) : List Int → List Int → Int
  | x :: xs, y :: ys => (a + x) * b - a * (b + y) + areaS (a + x) (b + y) xs ys
  | _, _ => 0
theorem areaS_eq (a b : Int) (xs ys : List Int) (h : xs.length = ys.length) : areaS a b xs ys = Wn b xs ys - Wn a ys xs := by
  induction xs generalizing ys a b with
  | nil => cases ys with
    | nil => rfl
    | cons y ys => cases h
  | cons x xs ih => cases ys with
    | nil => cases h
    | cons y ys =>
      simp only [areaS, Wn]
      rw [ih (a + x) (b + y) ys (by simpa using h)]
      grind
theorem areaS_range (a b : Int) (xs ys : List Int) (h : xs.length = ys.length) : ((List.range xs.length).map fun i => (a + pre xs (i + 1)) * (b + pre ys i) - (a + pre xs i) * (b + pre ys (i + 1))).sum = areaS a b xs ys := by
  induction xs generalizing ys a b with
  | nil => cases ys with
    | nil => rfl
    | cons y ys => cases h
  | cons x xs ih => cases ys with
    | nil => cases h
    | cons y ys =>
      rw [List.length_cons, List.range_succ_eq_map, List.map_cons, List.map_map, List.sum_cons]
      simp only [areaS]
      rw [← ih (a + x) (b + y) ys (by simpa using h)]
      congr 1
      · simp [pre]
      · congr 1
        apply List.map_congr_left
        intro i _
        simp [pre]
        grind
theorem areas_sum (xs ys : List Int) (h : xs.length = ys.length) : ((List.range xs.length).map (area xs ys)).sum = Wn 0 xs ys - Wn 0 ys xs := by
  rw [← areaS_eq 0 0 xs ys h, ← areaS_range 0 0 xs ys h]
  congr 1
  apply List.map_congr_left
  intro i _
  simp [area]
end KV
set_option Elab.async false
set_option linter.all false
set_option autoImplicit false
set_option maxRecDepth 100000
set_option maxHeartbeats 4000000
set_option exponentiation.threshold 100
namespace KV
open PySem PySem.Spec PyProof.Rows L2
/-! shortened -/
theorem cdiv_nn {a : Int} {xs : List Int} (h : 0 ≤ a) : 0 ≤ cdiv a xs := by
  induction xs generalizing a with
  | nil => exact h
  | cons x xs ih => exact ih (Int.natCast_nonneg _)
theorem cdiv_dvd (a : Int) (xs : List Int) : cdiv a xs ∣ a ∧ ∀ x ∈ xs, cdiv a xs ∣ x := by
  induction xs generalizing a with
  | nil => exact ⟨Int.dvd_refl _, fun x hx => by cases hx⟩
  | cons x xs ih =>
    obtain ⟨h1, h2⟩ := ih ((Nat.gcd a.natAbs x.natAbs : Nat) : Int)
    have d1 : ((Nat.gcd a.natAbs x.natAbs : Nat) : Int) ∣ a := Int.ofNat_dvd_left.mpr (Nat.gcd_dvd_left _ _)
    have d2 : ((Nat.gcd a.natAbs x.natAbs : Nat) : Int) ∣ x := Int.ofNat_dvd_left.mpr (Nat.gcd_dvd_right _ _)
    refine ⟨Int.dvd_trans h1 d1, fun y hy => ?_⟩
    rcases List.mem_cons.mp hy with rfl | z
    · exact Int.dvd_trans h1 d2
    · exact h2 y z
theorem cdiv_mul {c a : Int} (hc : 0 ≤ c) (ha : 0 ≤ a) (xs : List Int) : cdiv (c * a) (xs.map (c * ·)) = c * cdiv a xs := by
  induction xs generalizing a with
  | nil => rfl
  | cons x xs ih =>
    show cdiv ((Nat.gcd (c * a).natAbs (c * x).natAbs : Nat) : Int) (xs.map (c * ·)) = _
    rw [Int.natAbs_mul, Int.natAbs_mul, Nat.gcd_mul_left]
    have e : ((c.natAbs * Nat.gcd a.natAbs x.natAbs : Nat) : Int) = c * ((Nat.gcd a.natAbs x.natAbs : Nat) : Int) := by
      rw [Int.natCast_mul, Int.natAbs_of_nonneg hc]
    rw [e, ih (Int.natCast_nonneg _)]
    rfl
theorem Die.some_pos {xs : List Int} (h : Die xs) : ∃ x ∈ xs, 0 < x := by
  apply Classical.byContradiction
  intro hn
  have : xs.sum = 0 := sum_zero fun x hx => ⟨h.nn x hx, by
    have : ¬ 0 < x := fun z => hn ⟨x, hx, z⟩
    omega⟩
  have := h.pos
  omega
theorem cdiv_pos {xs : List Int} (h : Die xs) : 0 < cdiv 0 xs ∧ cdiv 0 xs ≤ xs.sum := by
  obtain ⟨x, hx, hp⟩ := h.some_pos
  have h1 := (cdiv_dvd 0 xs).2 x hx
  have h2 := cdiv_nn (a := 0) (xs := xs) (Int.le_refl _)
  have h3 := Int.le_of_dvd hp h1
  have h4 := mem_le_sum h.nn hx
  have h5 : cdiv 0 xs ≠ 0 := fun e => by
    rw [e] at h1
    have := Int.zero_dvd.mp h1
    omega
  omega
def shorten (xs : List Int) : List Int := if cdiv 0 xs < 2 then xs else xs.map fun x => x.fdiv (cdiv 0 xs)
theorem shorten_mul {xs : List Int} (h : Die xs) : (shorten xs).map (cdiv 0 xs * ·) = xs := by
  obtain ⟨h1, h2⟩ := cdiv_pos h
  unfold shorten
  by_cases c : cdiv 0 xs < 2
  · rw [if_pos c, show cdiv 0 xs = 1 by omega]
    simp
  · rw [if_neg c, List.map_map]
    conv => rhs; rw [← List.map_id xs]
    apply List.map_congr_left
    intro x hx
    obtain ⟨k, hk⟩ := (cdiv_dvd 0 xs).2 x hx
    show cdiv 0 xs * x.fdiv (cdiv 0 xs) = x
    conv => lhs; rw [hk]
    rw [Int.mul_fdiv_cancel_left _ (by omega)]
    exact hk.symm
theorem shorten_one {xs : List Int} (h : Die xs) : cdiv 0 (shorten xs) = 1 := by
  obtain ⟨h1, h2⟩ := cdiv_pos h
  have e := cdiv_mul (c := cdiv 0 xs) (a := 0) (by omega) (Int.le_refl _) (shorten xs)
  rw [shorten_mul h, Int.mul_zero] at e
  have e2 : cdiv 0 xs * 1 = cdiv 0 xs * cdiv 0 (shorten xs) := by rw [Int.mul_one]; exact e
  exact (Int.eq_of_mul_eq_mul_left (by omega) e2).symm
theorem sum_map_mul (c : Int) (xs : List Int) : (xs.map (c * ·)).sum = c * xs.sum := by
  induction xs with
  | nil => simp
  | cons x xs ih => rw [List.map_cons, List.sum_cons, List.sum_cons, ih, Int.mul_add]
theorem map_mul_mul (c d : Int) (xs : List Int) : (xs.map (d * ·)).map (c * ·) = xs.map ((c * d) * ·) := by
  rw [List.map_map]
  apply List.map_congr_left
  intro x _
  show c * (d * x) = c * d * x
  rw [Int.mul_assoc]
theorem map_mul_inj {c : Int} (hc : c ≠ 0) {xs ys : List Int} (h : xs.map (c * ·) = ys.map (c * ·)) : xs = ys := by
  induction xs generalizing ys with
  | nil => cases ys with
    | nil => rfl
    | cons y ys => cases h
  | cons x xs ih => cases ys with
    | nil => cases h
    | cons y ys =>
      rw [List.map_cons, List.map_cons, List.cons.injEq] at h
      rw [Int.eq_of_mul_eq_mul_left hc h.1, ih h.2]
theorem like_iff {xs ys : List Int} (hx : Die xs) (hy : Die ys) : shorten xs = shorten ys ↔ xs.map (ys.sum * ·) = ys.map (xs.sum * ·) := by
  obtain ⟨g1, _⟩ := cdiv_pos hx
  obtain ⟨h1, _⟩ := cdiv_pos hy
  have ex := shorten_mul hx
  have ey := shorten_mul hy
  have ox := shorten_one hx
  have oy := shorten_one hy
  have px := hx.pos
  have py := hy.pos
  generalize cdiv 0 xs = g at *
  generalize cdiv 0 ys = h at *
  generalize shorten xs = z at *
  generalize shorten ys = w at *
  subst ex
  subst ey
  rw [sum_map_mul] at px py ⊢
  rw [sum_map_mul] 
  rw [map_mul_mul, map_mul_mul]
  constructor
  · rintro rfl
    apply List.map_congr_left
    intro x _
    grind
  · intro e
    have e1 := cdiv_mul (c := h * w.sum * g) (a := 0) (by have := Int.mul_pos py g1; omega) (Int.le_refl _) z
    have e2 := cdiv_mul (c := g * z.sum * h) (a := 0) (by have := Int.mul_pos px h1; omega) (Int.le_refl _) w
    rw [Int.mul_zero] at e1 e2
    rw [e, e2, ox, oy, Int.mul_one, Int.mul_one] at e1
    rw [← e1] at e
    exact map_mul_inj (by have := Int.mul_pos px h1; omega) e
theorem shortened_eq {xs : List Int} (h : Gd xs) : F_shortened [.sh (.tup (iv xs))] = .ok (.sh (.tup (iv (shorten xs))), [.un]) := by
  have e1 := common_divisor_eq (.tup (iv xs)) xs rfl
  obtain ⟨h1, h2⟩ := cdiv_pos h.toDie
  unfold shorten
  by_cases c : cdiv 0 xs < 2
  · rw [if_pos c]
    simp [F_shortened, b_shortened, e1, c]
  · rw [if_neg c]
    have hb : Bd (cdiv 0 xs) 400 := h.bd.le (by omega) h2
    have e2 := fc_map (α := Int) (g := gSeq (eVar 0)) (h := hName 2) (f := eBin dFdiv (eVar 2) (eVar 1)) (vs := [2]) D.int (fun x => D.int (x.fdiv (cdiv 0 xs))) (ρ := [.sh (.tup (iv xs)), .sh (.int (cdiv 0 xs)), .un]) (ρ0 := [.sh (.tup (iv xs)), .sh (.int (cdiv 0 xs)), .un]) xs
      (by simp) (by have := h.len; omega) rfl (fun x hx => by
        refine ⟨[.sh (.tup (iv xs)), .sh (.int (cdiv 0 xs)), .sh (.int x)], rfl, ?_, rfl⟩
        have := dFdiv_bd (i := x) hb (by omega) (by omega)
        simp [this])
    simp [F_shortened, b_shortened, e1, c, e2]
theorem is_like_eq {d e : D} {xs ys : List Int} (hd : Row d xs) (he : Row e ys) (hx : Gd xs) (hy : Gd ys) (hl : xs.length = ys.length) : F_is_like [.sh d, .sh e] = .ok (.sh (.bl (decide (xs.map (ys.sum * ·) = ys.map (xs.sum * ·)))), [.un, .un]) := by
  have e1 := two_dice_good hd he hx.toDie hy.toDie hl
  have e2 := shortened_eq hx
  have e3 := shortened_eq hy
  have e4 := dEq_t (shorten xs) (shorten ys)
  rw [show decide (shorten xs = shorten ys) = decide (xs.map (ys.sum * ·) = ys.map (xs.sum * ·)) from decide_eq_decide.mpr (like_iff hx.toDie hy.toDie)] at e4
  simp [F_is_like, b_is_like, e1, e2, e3, e4]
theorem short_die_eq {d : D} {xs : List Int} (hd : Row d xs) (h : Gd xs) : F_short_die [.sh d] = .ok (.sh (.tup (iv (shorten xs))), [.un]) := by
  have e1 := die_of_good hd h.toDie
  have e2 := shortened_eq h
  simp [F_short_die, b_short_die, e1, e2]
theorem short_die_bad {d : D} {er : Er} (h : ∃ ρ, F_die_of [.sh d] = .er er ρ) : ∃ ρ, F_short_die [.sh d] = .er er ρ := by
  obtain ⟨ρ, h⟩ := h
  simp [F_short_die, b_short_die, h]
section
variable {d e : D} {er : Er}
theorem lead_bad (h : ∃ ρ, F_two_dice [.sh d, .sh e] = .er er ρ) : ∃ ρ, F_lead [.sh d, .sh e] = .er er ρ := by
  obtain ⟨ρ, h⟩ := h
  simp [F_lead, b_lead, h]
theorem areas_bad (h : ∃ ρ, F_two_dice [.sh d, .sh e] = .er er ρ) : ∃ ρ, F_areas [.sh d, .sh e] = .er er ρ := by
  obtain ⟨ρ, h⟩ := h
  simp [F_areas, b_areas, h]
theorem is_like_bad (h : ∃ ρ, F_two_dice [.sh d, .sh e] = .er er ρ) : ∃ ρ, F_is_like [.sh d, .sh e] = .er er ρ := by
  obtain ⟨ρ, h⟩ := h
  simp [F_is_like, b_is_like, h]
theorem half_chance_bad (h : ∃ ρ, F_two_dice [.sh d, .sh e] = .er er ρ) : ∃ ρ, F_half_chance [.sh d, .sh e] = .er er ρ := by
  obtain ⟨ρ, h⟩ := h
  simp [F_half_chance, b_half_chance, h]
end
end KV
set_option Elab.async false
set_option linter.all false
set_option autoImplicit false
set_option maxRecDepth 100000
set_option maxHeartbeats 4000000
set_option exponentiation.threshold 100
namespace KV
open PySem PySem.Spec PyProof.Rows L2
/-! weights_of -/
abbrev woBody : FS := sSeq (sIf (tOr2 (tNot2 (tVal (eVal (cCall F_is_int 1 (arV (eVar 4) (arNil)))))) (tVal (eBin dLt (eVar 4) (eVar 2)))) (sSeq (sRaise "BadWeights" ["place"] (aCons (eVar 3) (aNil))) (sNil)) (sNil)) (sNil)
theorem wo_good (low : Int) : ∀ (xs : List Int) (k : Nat) (d e : D) (s1 s2 : Sl), (∀ x ∈ xs, low ≤ x) → ∃ t1 t2, sLoop (hTup [3, 4]) woBody (enumD k (iv xs)) [.sh d, .sh e, .sh (.int low), s1, s2] = .ok (.nx [.sh d, .sh e, .sh (.int low), t1, t2])
  | [], k, d, e, s1, s2, _ => ⟨s1, s2, rfl⟩
  | x :: xs, k, d, e, s1, s2, h => by
    have h1 : ¬ x < low := by have := h x List.mem_cons_self; omega
    obtain ⟨t1, t2, e⟩ := wo_good low xs (k + 1) d e (.sh (.int (k : Nat))) (.sh (.int x)) fun y hy => h y (List.mem_cons_of_mem _ hy)
    refine ⟨t1, t2, ?_⟩
    simp only [iv, List.map_cons, enumD_cons, sLoop]
    simp [h1] at e ⊢
    exact e
theorem weights_good {d : D} {ws : List Int} {n : Nat} (hd : Row d ws) (h0 : ws ≠ []) (hn : ws.length = n) (h : ∀ w ∈ ws, 0 ≤ w) : F_weights_of [.sh d, .sh (.int n), .sh (.int 0)] = .ok (.sh (.tup (iv ws)), [.un, .un, .un]) := by
  have e1 := iv_ne h0
  obtain ⟨t1, t2, e⟩ := wo_good 0 ws 0 d (.int n) .un .un h
  unfold woBody enumD at e
  have hn2 : (ws.length : Int) = n := by omega
  rcases hd with rfl | rfl
  all_goals
    try simp [e1] at e
    simp [F_weights_of, b_weights_of, tTru, e1, hn, e, h0]
/-! mixed_die -/
/-- the mix of three rows -/
def mix3 (a b c : Int) : List Int → List Int → List Int → List Int
  | x :: xs, y :: ys, z :: zs => (a * x + (b * y + c * z)) :: mix3 a b c xs ys zs
  | _, _, _ => []
theorem mix3_len (a b c : Int) {xs ys zs : List Int} (h1 : xs.length = ys.length) (h2 : xs.length = zs.length) : (mix3 a b c xs ys zs).length = xs.length := by
  induction xs generalizing ys zs with
  | nil => rfl
  | cons x xs ih => cases ys with
    | nil => cases h1
    | cons y ys => cases zs with
      | nil => cases h2
      | cons z zs => exact congrArg (· + 1) (ih (by simpa using h1) (by simpa using h2))
theorem mix3_zip (a b c : Int) (xs ys zs : List Int) : (xs.zip (ys.zip zs)).map (fun p => D.int (a * p.1 + (b * p.2.1 + (c * p.2.2 + 0)))) = iv (mix3 a b c xs ys zs) := by
  induction xs generalizing ys zs with
  | nil => rfl
  | cons x xs ih => cases ys with
    | nil => rfl
    | cons y ys => cases zs with
      | nil => rfl
      | cons z zs =>
        rw [List.zip_cons_cons, List.zip_cons_cons, List.map_cons, ih ys zs]
        simp [mix3, iv]
theorem zip3_iv (xs ys zs : List Int) : zip3D (iv xs) (iv ys) (iv zs) = (xs.zip (ys.zip zs)).map fun p => D.tup [.int p.1, .int p.2.1, .int p.2.2] := by
  induction xs generalizing ys zs with
  | nil => rfl
  | cons x xs ih => cases ys with
    | nil => rfl
    | cons y ys => cases zs with
      | nil => rfl
      | cons z zs =>
        show D.tup [.int x, .int y, .int z] :: zip3D (iv xs) (iv ys) (iv zs) = _
        rw [ih ys zs]
        rfl
theorem mixed_eq {d e1 e2 e3 : D} {a b c : Int} {xs ys zs : List Int} (hd : Row d [a, b, c]) (ha : 0 ≤ a ∧ a ≤ 9) (hb : 0 ≤ b ∧ b ≤ 9) (hc : 0 ≤ c ∧ c ≤ 9) (hp : a + b + c ≠ 0) (h1 : Row e1 xs) (h2 : Row e2 ys) (h3 : Row e3 zs) (gx : Gd xs) (gy : Gd ys) (gz : Gd zs) (l1 : xs.length = ys.length) (l2 : xs.length = zs.length) : (starFn F_mixed_die) [.sh d, .sh e1, .sh e2, .sh e3] = .ok (.sh (.tup (iv (mix3 a b c xs ys zs))), [.sh d, .sh e1, .sh e2, .sh e3]) := by
  have w1 := weights_good (n := 3) hd (by simp) rfl (by simp; omega)
  have k1 := die_of_good h1 gx.toDie
  have k2 := die_of_good h2 gy.toDie
  have k3 := die_of_good h3 gz.toDie
  have bd9 : ∀ {i : Int}, 0 ≤ i ∧ i ≤ 9 → Bd i 4 := fun {i} hi => by unfold Bd; have : (2 : Nat) ^ 4 = 16 := rfl; omega
  have hm : maxI [a, b, c] ≠ 0 := by
    have hd3 : Die [a, b, c] := ⟨by simp, by simp; omega, by simp; omega⟩
    exact hd3.max
  have em := dMax_row (Row.tup [a, b, c]) (by simp)
  have l1' : (ys.length : Int) = xs.length := by omega
  have l2' : (zs.length : Int) = xs.length := by omega
  have e4 := fc_map (α := Int × Int × Int) (g := gZipS (eVar 3)) (h := hName 6) (f := eCB dSum (aCons (eFrz (fComp (gZip (aCons (eVar 2) (aCons (eVar 6) (aNil)))) (hTup [7, 8]) (tYes2) (eBin dMul (eVar 7) (eVar 8)) [7, 8])) (aNil))) (vs := [6]) (fun p => D.tup [.int p.1, .int p.2.1, .int p.2.2]) (fun p => D.int (a * p.1 + (b * p.2.1 + (c * p.2.2 + 0)))) (ρ := [.sh d, .sh (.tup [e1, e2, e3]), .sh (.tup (iv [a, b, c])), .sh (.lst [.tup (iv xs), .tup (iv ys), .tup (iv zs)]), .sh (.tup (iv zs)), .un, .un, .un, .un]) (ρ0 := [.sh d, .sh (.tup [e1, e2, e3]), .sh (.tup (iv [a, b, c])), .sh (.lst [.tup (iv xs), .tup (iv ys), .tup (iv zs)]), .sh (.tup (iv zs)), .un, .un, .un, .un]) (xs.zip (ys.zip zs))
    (by rw [← zip3_iv]; simp [gZipS, ← l1, ← l2]) (by have := gx.len; rw [List.length_zip]; omega) rfl (fun p hp => by
      obtain ⟨p1, p2⟩ := List.of_mem_zip (a := p.1) (b := p.2) hp
      obtain ⟨p3, p4⟩ := List.of_mem_zip (a := p.2.1) (b := p.2.2) p2
      have m1 := dMul_bd (bd9 ha) (gx.mem _ p1) (by omega) (by omega)
      have m2 := dMul_bd (bd9 hb) (gy.mem _ p3) (by omega) (by omega)
      have m3 := dMul_bd (bd9 hc) (gz.mem _ p4) (by omega) (by omega)
      have s := dSum_l [a * p.1, b * p.2.1, c * p.2.2]
      refine ⟨[.sh d, .sh (.tup [e1, e2, e3]), .sh (.tup (iv [a, b, c])), .sh (.lst [.tup (iv xs), .tup (iv ys), .tup (iv zs)]), .sh (.tup (iv zs)), .un, .sh (.tup [.int p.1, .int p.2.1, .int p.2.2]), .un, .un], rfl, ?_, rfl⟩
      simp at s
      simp [fComp, cLoop, noEr, zipD, tYes2, m1, m2, m3, s])
  rw [mix3_zip] at e4
  simp at w1 em e4
  simp [starFn, shs, F_mixed_die, b_mixed_die, w1, em, hm, fCompX, cLoopX, k1, k2, k3, sLoop, dIx, atI, ixN, l1', l2', e4]
end KV
set_option Elab.async false
set_option linter.all false
set_option autoImplicit false
set_option maxRecDepth 100000
set_option maxHeartbeats 4000000
set_option exponentiation.threshold 100
namespace KV
open PySem PySem.Spec PyProof.Rows L2
@[simp] theorem ePop_eq (i : Nat) (ρ : Env) : ePop i ρ = match ρ[i]? with
  | some (.ow ds) => match ds[ds.length - 1]? with
    | some d => .ok (d, ρ.set i (.ow ds.dropLast))
    | none => .st
  | _ => .st := rfl
@[simp] theorem sRev_eq (i : Nat) (ρ : Env) : sRev i ρ = match ρ[i]? with
  | some (.ow ds) => .ok (.nx (ρ.set i (.ow ds.reverse)))
  | _ => .st := rfl
@[simp] theorem arS_eq (i : Nat) (g : FAr) (ρ : Env) : arS i g ρ = match ρ[i]? with
  | some (.ow _) => (g ρ).bind fun s => .ok (.s i :: s.1, s.2)
  | _ => .st := rfl
@[simp] theorem dInt_int (i : Int) : dInt [.int i] = some (.int i) := rfl
@[simp] theorem dInt_bl (b : Bool) : dInt [.bl b] = some (.int (if b then 1 else 0)) := rfl
theorem dMod_pos (i j : Int) (h : 0 < j) : dMod (.int i) (.int j) = some (.int (i % j)) := by
  show (if decide (0 < j) = true then _ else _) = _
  rw [decide_eq_true h]
  rfl
/-! a take -/
theorem take_eq (ns : List Int) (m : Int) (hm : 0 < m) : ∃ (r : Nat) (ns' : List Int), F_law_take [.ow (iv ns), .sh (.int m)] = .ok (.sh (.int r), [.ow (iv ns'), .un]) ∧ (r : Int) < m := by
  rcases List.eq_nil_or_concat ns with rfl | ⟨ns', n, rfl⟩
  · refine ⟨0, [], ?_, hm⟩
    simp [F_law_take, b_law_take, dLen]
  · have h1 := Int.emod_nonneg n (show m ≠ 0 by omega)
    have h2 := Int.emod_lt_of_pos n hm
    refine ⟨(n % m).toNat, ns', ?_, by omega⟩
    have e1 := dMod_pos n m hm
    have e2 : (((n % m).toNat : Nat) : Int) = n % m := by omega
    rw [e2]
    have e3 : ¬ ((ns'.length : Int) + 1 = 0) := by omega
    simp [F_law_take, b_law_take, dLen, e1, e3]
/-! the draws -/
theorem dr48 : ∀ (ts : List Int) (acc : List Int) (c : Int) (a b e f : Sl), acc.length + ts.length ≤ 90000 → ∃ (acc' : List Int) (c' : Int) (e' : Sl), acc'.length ≤ acc.length + ts.length ∧ sLoop (hName 4) (sSeq (sIf (tVal (eBin dGt (eVar 3) (eC (.int 0)))) (sSeq (sApp 1 (eBin dMod (eCB dInt (aCons (eVar 3) (aNil))) (eC (.int 30)))) (sSeq (sSet 3 (eBin dFdiv (eVar 3) (eC (.int 30)))) (sNil))) (sNil)) (sNil)) (iv ts) [a, .ow (iv acc), b, .sh (.int c), e, f] = .ok (.nx [a, .ow (iv acc'), b, .sh (.int c'), e', f])
  | [], acc, c, a, b, e, f, h => ⟨acc, c, e, by simp, rfl⟩
  | t :: ts, acc, c, a, b, e, f, h => by
    by_cases hc : 0 < c
    · obtain ⟨acc', c', e', h1, h2⟩ := dr48 ts (acc ++ [c % 30]) (c.fdiv 30) a b (.sh (.int t)) f (by simp at h ⊢; omega)
      refine ⟨acc', c', e', by simp at h1 ⊢; omega, ?_⟩
      have m1 := dMod_pos c 30 (by omega)
      have m2 := dFdiv_bd (i := c) (j := 30) (n := 10) (by unfold Bd; decide) (by omega) (by omega)
      have hl : acc.length < 100000 := by simp at h; omega
      simp only [iv, List.map_cons, sLoop]
      simp [hc, m1, m2, hl] at h2 ⊢
      exact h2
    · obtain ⟨acc', c', e', h1, h2⟩ := dr48 ts acc c a b (.sh (.int t)) f (by simp at h ⊢; omega)
      refine ⟨acc', c', e', by simp at h1 ⊢; omega, ?_⟩
      simp only [iv, List.map_cons, sLoop]
      simp [hc] at h2 ⊢
      exact h2
theorem dr6 : ∀ (ts : List Nat) (acc : List Int) (s i : Int) (a e : Sl) (c : Sl), (∀ t ∈ ts, t < 6) → 0 ≤ s → s < 2147483648 → 0 ≤ i → i < 100 → acc.length + ts.length ≤ 90000 → ∃ (acc' : List Int) (s' : Int) (e' : Sl), acc'.length ≤ acc.length + ts.length ∧ sLoop (hName 4) (sSeq (sSet 5 (eBin dMod (eCB dInt (aCons (eBin dAdd (eBin dAdd (eBin dAdd (eBin dMul (eVar 5) (eVar 5)) (eBin dMul (eVar 4) (eC (.int 7919)))) (eBin dMul (eVar 2) (eC (.int 31)))) (eC (.int 3))) (aNil))) (eC (.int 2147483587)))) (sSeq (sApp 1 (eVar 5)) (sNil))) (ts.map fun i => D.int (i : Nat)) [a, .ow (iv acc), .sh (.int i), c, e, .sh (.int s)] = .ok (.nx [a, .ow (iv acc'), .sh (.int i), c, e', .sh (.int s')])
  | [], acc, s, i, a, e, c, _, _, _, _, _, h => ⟨acc, s, e, by simp, rfl⟩
  | t :: ts, acc, s, i, a, e, c, ht, h0, h1, h2, h3, h => by
    have hs := Int.emod_nonneg (s * s + t * 7919 + i * 31 + 3) (show (2147483587 : Int) ≠ 0 by decide)
    have hs2 := Int.emod_lt_of_pos (s * s + t * 7919 + i * 31 + 3) (show (0 : Int) < 2147483587 by decide)
    obtain ⟨acc', s', e', g1, g2⟩ := dr6 ts (acc ++ [(s * s + t * 7919 + i * 31 + 3) % 2147483587]) ((s * s + t * 7919 + i * 31 + 3) % 2147483587) i a (.sh (.int (t : Nat))) c (fun t' h' => ht t' (List.mem_cons_of_mem _ h')) hs (by omega) h2 h3 (by simp at h ⊢; omega)
    refine ⟨acc', s', e', by simp at g1 ⊢; omega, ?_⟩
    have ht0 := ht t List.mem_cons_self
    have bd : ∀ {i : Int}, 0 ≤ i → i < 2147483648 → Bd i 31 := fun {i} h h' => by unfold Bd; have : (2 : Nat) ^ 31 = 2147483648 := rfl; omega
    have m1 := dMul_bd (bd h0 h1) (bd h0 h1) (by omega) (by omega)
    have m2 := dMul_bd (bd (i := t) (by omega) (by omega)) (bd (i := 7919) (by omega) (by omega)) (by omega) (by omega)
    have m3 := dMul_bd (bd (i := i) (by omega) (by omega)) (bd (i := 31) (by omega) (by omega)) (by omega) (by omega)
    have m4 := dMod_pos (s * s + t * 7919 + i * 31 + 3) 2147483587 (by omega)
    have hl : acc.length < 100000 := by simp at h; omega
    simp only [List.map_cons, sLoop]
    simp [m1, m2, m3, m4, hl] at g2 ⊢
    exact g2
end KV
set_option Elab.async false
set_option linter.all false
set_option autoImplicit false
set_option maxRecDepth 100000
set_option maxHeartbeats 4000000
set_option exponentiation.threshold 100
namespace KV
open PySem PySem.Spec PyProof.Rows L2
abbrev drBody : FS := (sSeq (sSet 3 (eCB dInt (aCons (eIxVar 0 (eVar 2)) (aNil)))) (sSeq (sIf (tVal (eBin dLt (eVar 3) (eC (.int 0)))) (sSeq (sSet 3 (eBin dSub (eC (.int 5)) (eVar 3))) (sNil)) (sNil)) (sSeq (sIf (tVal (eBin dGe (eVar 3) (eBin dPow (eC (.int 10)) (eC (.int 18))))) (sSeq (sFor (gRng1 (aCons (eC (.int 48)) (aNil))) (hName 4) (sSeq (sIf (tVal (eBin dGt (eVar 3) (eC (.int 0)))) (sSeq (sApp 1 (eBin dMod (eCB dInt (aCons (eVar 3) (aNil))) (eC (.int 30)))) (sSeq (sSet 3 (eBin dFdiv (eVar 3) (eC (.int 30)))) (sNil))) (sNil)) (sNil))) (sNil)) (sSeq (sSet 5 (eBin dMod (eCB dInt (aCons (eBin dAdd (eBin dAdd (eBin dMul (eVar 3) (eC (.int 62089911))) (eBin dMul (eVar 2) (eC (.int 104729)))) (eC (.int 17))) (aNil))) (eC (.int 2147483629)))) (sSeq (sFor (gRng1 (aCons (eC (.int 6)) (aNil))) (hName 4) (sSeq (sSet 5 (eBin dMod (eCB dInt (aCons (eBin dAdd (eBin dAdd (eBin dAdd (eBin dMul (eVar 5) (eVar 5)) (eBin dMul (eVar 4) (eC (.int 7919)))) (eBin dMul (eVar 2) (eC (.int 31)))) (eC (.int 3))) (aNil))) (eC (.int 2147483587)))) (sSeq (sApp 1 (eVar 5)) (sNil)))) (sNil)))) (sNil))))
theorem dr_out (ns : List Int) : ∀ (ts : List Nat) (acc : List Int) (s2 s3 s4 s5 : Sl), (∀ t ∈ ts, t < ns.length ∧ t < 63) → acc.length + 48 * ts.length ≤ 80000 → ∃ (acc' : List Int) (t2 t3 t4 t5 : Sl), sLoop (hName 2) drBody (ts.map fun i => D.int (i : Nat)) [.sh (.scr ns), .ow (iv acc), s2, s3, s4, s5] = .ok (.nx [.sh (.scr ns), .ow (iv acc'), t2, t3, t4, t5])
  | [], acc, s2, s3, s4, s5, _, h => ⟨acc, s2, s3, s4, s5, rfl⟩
  | t :: ts, acc, s2, s3, s4, s5, ht, h => by
    obtain ⟨h1, h2⟩ := ht t List.mem_cons_self
    have ht' : ∀ u ∈ ts, u < ns.length ∧ u < 63 := fun u hu => ht u (List.mem_cons_of_mem _ hu)
    obtain ⟨c0, hc0⟩ : ∃ c0, ns[t]? = some c0 := ⟨ns[t], List.getElem?_eq_getElem h1⟩
    have a1 : dIx (.scr ns) (.int t) = some (.int c0) := by
      show (atI ns t).map D.int = _
      unfold atI ixN
      rw [if_pos (by omega), if_pos (by omega)]
      simp [hc0]
    have p : dPow (.int 10) (.int 18) = some (.int 1000000000000000000) := rfl
    have key : ∀ c1 : Int, 0 ≤ c1 → ∃ (acc2 : List Int) (t3 t4 t5 : Sl), acc2.length ≤ acc.length + 48 ∧ (sSeq (sIf (tVal (eBin dGe (eVar 3) (eBin dPow (eC (.int 10)) (eC (.int 18))))) (sSeq (sFor (gRng1 (aCons (eC (.int 48)) (aNil))) (hName 4) (sSeq (sIf (tVal (eBin dGt (eVar 3) (eC (.int 0)))) (sSeq (sApp 1 (eBin dMod (eCB dInt (aCons (eVar 3) (aNil))) (eC (.int 30)))) (sSeq (sSet 3 (eBin dFdiv (eVar 3) (eC (.int 30)))) (sNil))) (sNil)) (sNil))) (sNil)) (sSeq (sSet 5 (eBin dMod (eCB dInt (aCons (eBin dAdd (eBin dAdd (eBin dMul (eVar 3) (eC (.int 62089911))) (eBin dMul (eVar 2) (eC (.int 104729)))) (eC (.int 17))) (aNil))) (eC (.int 2147483629)))) (sSeq (sFor (gRng1 (aCons (eC (.int 6)) (aNil))) (hName 4) (sSeq (sSet 5 (eBin dMod (eCB dInt (aCons (eBin dAdd (eBin dAdd (eBin dAdd (eBin dMul (eVar 5) (eVar 5)) (eBin dMul (eVar 4) (eC (.int 7919)))) (eBin dMul (eVar 2) (eC (.int 31)))) (eC (.int 3))) (aNil))) (eC (.int 2147483587)))) (sSeq (sApp 1 (eVar 5)) (sNil)))) (sNil)))) (sNil)) [.sh (.scr ns), .ow (iv acc), .sh (.int t), .sh (.int c1), s4, s5] = .ok (.nx [.sh (.scr ns), .ow (iv acc2), .sh (.int t), t3, t4, t5]) := by
      intro c1 hc1
      by_cases hb : 1000000000000000000 ≤ c1
      · obtain ⟨acc2, c', e', g1, g2⟩ := dr48 ((List.range 48).map fun i : Nat => (i : Int)) acc c1 (.sh (.scr ns)) (.sh (.int t)) s4 s5 (by simp at h ⊢; omega)
        rw [show iv ((List.range 48).map fun i : Nat => (i : Int)) = rangeD 0 48 from rfl] at g2
        refine ⟨acc2, .sh (.int c'), e', s5, by simpa using g1, ?_⟩
        simp [p, hb, g2]
      · have m0 := Int.emod_nonneg (c1 * 62089911 + t * 104729 + 17) (show (2147483629 : Int) ≠ 0 by decide)
        have m1 := Int.emod_lt_of_pos (c1 * 62089911 + t * 104729 + 17) (show (0 : Int) < 2147483629 by decide)
        obtain ⟨acc2, s', e', g1, g2⟩ := dr6 (List.range 6) acc ((c1 * 62089911 + t * 104729 + 17) % 2147483629) t (.sh (.scr ns)) s4 (.sh (.int c1)) (fun u hu => List.mem_range.mp hu) m0 (by omega) (by omega) (by omega) (by simp at h ⊢; omega)
        rw [← range_iv] at g2
        refine ⟨acc2, .sh (.int c1), e', .sh (.int s'), by simp at g1; omega, ?_⟩
        have bd : ∀ {i : Int}, 0 ≤ i → i < 1000000000000000000 → Bd i 60 := fun {i} h h' => by unfold Bd; have : (2 : Nat) ^ 60 = 1152921504606846976 := rfl; omega
        have q1 := dMul_bd (bd hc1 (by omega)) (bd (i := 62089911) (by omega) (by omega)) (by omega) (by omega)
        have q2 := dMul_bd (bd (i := t) (by omega) (by omega)) (bd (i := 104729) (by omega) (by omega)) (by omega) (by omega)
        have q3 := dMod_pos (c1 * 62089911 + t * 104729 + 17) 2147483629 (by omega)
        simp at g2
        simp [p, hb, q1, q2, q3, g2]
    by_cases hn : c0 < 0
    · obtain ⟨acc2, t3, t4, t5, k1, k2⟩ := key (5 - c0) (by omega)
      obtain ⟨acc', u2, u3, u4, u5, k3⟩ := dr_out ns ts acc2 (.sh (.int t)) t3 t4 t5 ht' (by simp at h; omega)
      refine ⟨acc', u2, u3, u4, u5, ?_⟩
      simp only [List.map_cons, sLoop]
      simp [a1, hn] at k2 k3 ⊢
      rw [k2]
      simpa using k3
    · obtain ⟨acc2, t3, t4, t5, k1, k2⟩ := key c0 (by omega)
      obtain ⟨acc', u2, u3, u4, u5, k3⟩ := dr_out ns ts acc2 (.sh (.int t)) t3 t4 t5 ht' (by simp at h; omega)
      refine ⟨acc', u2, u3, u4, u5, ?_⟩
      simp only [List.map_cons, sLoop]
      simp [a1, hn] at k2 k3 ⊢
      rw [k2]
      simpa using k3
theorem draws_eq (ns : List Int) (h : ns.length ≤ 63) : ∃ ms : List Int, F_law_draws [.sh (.scr ns)] = .ok (.ow (iv ms), [.un]) := by
  obtain ⟨acc', u2, u3, u4, u5, k⟩ := dr_out ns (List.range ns.length) [] .un .un .un .un (fun t ht => by have := List.mem_range.mp ht; omega) (by simp; omega)
  rw [← range_iv] at k
  refine ⟨acc'.reverse, ?_⟩
  have e1 : dLen [.scr ns] = some (.int ns.length) := rfl
  have e2 : dMin2 [.int ns.length, .int 63] = some (.int ns.length) := by
    show some (D.int (if (63 : Int) < ns.length then 63 else ns.length)) = _
    rw [if_neg (by omega)]
  have h1 : (ns.length : Int) ≤ 1000000 := by omega
  have h2 : (-1000000 : Int) ≤ ns.length := by omega
  unfold drBody at k
  simp at k
  simp [F_law_draws, b_law_draws, e1, e2, h1, h2, k]
end KV
set_option Elab.async false
set_option linter.all false
set_option autoImplicit false
set_option maxRecDepth 100000
set_option maxHeartbeats 4000000
set_option exponentiation.threshold 100
namespace KV
open PySem PySem.Spec PyProof.Rows L2
@[simp] theorem law_int_int (i : Int) : F_law_int [.sh (.int i)] = .ok (.sh (.bl true), [.un]) := rfl
@[simp] theorem dIsi_tup (ds : List D) : dIsi [.tup ds, .ty "tuple"] = some (.bl true) := rfl
@[simp] theorem dIsi_bl (b : Bool) : dIsi [.bl b, .ty "bool"] = some (.bl true) := rfl
@[simp] theorem dAbs_nat (n : Nat) : dAbs [.int n] = some (.int n) := by
  show some (D.int (if (n : Int) < 0 then -(n : Int) else n)) = _
  rw [if_neg (by omega)]
/-! the divisor -/
abbrev dvBody : FS := (sSeq (sIf (tVal (eBin dEq (eVar 1) (eC (.int 0)))) (sSeq (sRet (eCB dAbs (aCons (eVar 0) (aNil)))) (sNil)) (sNil)) (sSeq (sSet 3 (eBin dMod (eCB dInt (aCons (eVar 0) (aNil))) (eVar 1))) (sSeq (sSet 0 (eVar 1)) (sSeq (sSet 1 (eVar 3)) (sNil)))))
theorem dv_step (a b : Nat) (hb : 0 < b) (t : D) (s2 s3 : Sl) : dvBody [.sh (.int a), .sh (.int b), .sh t, s3] = .ok (.nx [.sh (.int b), .sh (.int (a % b : Nat)), .sh t, .sh (.int (a % b : Nat))]) := by
  have e := dMod_pos a b (by omega)
  have h0 : b ≠ 0 := by omega
  rw [← Int.natCast_emod] at e
  unfold dvBody
  simp only [sSeq, sIf, tVal, eBin, eVar_eq, eC, bind_ok, sSet, eCB, aCons, aNil, sNil]
  simp [h0]
  simp at e
  simp [e]
theorem dv_stop (a : Nat) (t : D) (s3 : Sl) : dvBody [.sh (.int a), .sh (.int (0 : Nat)), .sh t, s3] = .ok (.rt (.sh (.int a)) [.sh (.int a), .sh (.int (0 : Nat)), .sh t, s3]) := by
  unfold dvBody
  simp
theorem dv_loop : ∀ (n : Nat) (ts : List D) (a b : Nat) (s2 s3 : Sl), b ≤ a → a * b < 2 ^ n → n + 1 ≤ ts.length → ∃ ρ, sLoop (hName 2) dvBody ts [.sh (.int a), .sh (.int b), s2, s3] = .ok (.rt (.sh (.int (Nat.gcd a b : Nat))) ρ)
  | n, [], a, b, s2, s3, h1, h2, h3 => by simp at h3
  | n, t :: ts, a, b, s2, s3, h1, h2, h3 => by
    have e0 : hName 2 t [.sh (.int a), .sh (.int b), s2, s3] = some [.sh (.int a), .sh (.int b), .sh t, s3] := rfl
    rcases Nat.eq_zero_or_pos b with rfl | hb
    · refine ⟨[.sh (.int a), .sh (.int (0 : Nat)), .sh t, s3], ?_⟩
      simp only [sLoop, e0, dv_stop, bind_ok, Nat.gcd_zero_right]
    · cases n with
      | zero =>
        have : 0 < a * b := Nat.mul_pos (by omega) hb
        rw [Nat.pow_zero] at h2
        omega
      | succ n =>
        have hm := Nat.mod_lt a hb
        have hd : a % b + b ≤ a := by
          have k1 := Nat.div_add_mod a b
          have k2 : 1 ≤ a / b := (Nat.one_le_div_iff hb).mpr h1
          have k3 : b * 1 ≤ b * (a / b) := Nat.mul_le_mul_left b k2
          omega
        have h4 : b * (a % b) < 2 ^ n := by
          have k1 : (a % b + a % b) * b ≤ a * b := Nat.mul_le_mul_right b (by omega)
          rw [Nat.add_mul] at k1
          rw [Nat.pow_succ] at h2
          have k2 : b * (a % b) = a % b * b := Nat.mul_comm _ _
          omega
        obtain ⟨ρ, e⟩ := dv_loop n ts b (a % b) (.sh t) (.sh (.int (a % b : Nat))) (by omega) h4 (by simp at h3; omega)
        refine ⟨ρ, ?_⟩
        have eg : Nat.gcd a b = Nat.gcd b (a % b) := by rw [Nat.gcd_comm, Nat.gcd_rec, Nat.gcd_comm]
        simp only [sLoop, e0, dv_step a b hb t s2 s3, bind_ok, e, eg]
theorem divisor_eq (a b : Nat) (h : b < 2 ^ 1900) : F_law_divisor [.sh (.int a), .sh (.int b)] = .ok (.sh (.int (Nat.gcd a b : Nat)), [.un, .un]) := by
  have hl : (rangeD 0 4000).length = 4000 := by simp [rangeD]
  have key : ∃ ρ, sLoop (hName 2) dvBody (rangeD 0 4000) [.sh (.int a), .sh (.int b), .un, .un] = .ok (.rt (.sh (.int (Nat.gcd a b : Nat))) ρ) := by
    cases q : rangeD 0 4000 with
    | nil => rw [q] at hl; cases hl
    | cons t ts =>
      rw [q] at hl
      have e0 : hName 2 t [.sh (.int a), .sh (.int b), .un, .un] = some [.sh (.int a), .sh (.int b), .sh t, .un] := rfl
      rcases Nat.eq_zero_or_pos b with rfl | hb
      · refine ⟨[.sh (.int a), .sh (.int (0 : Nat)), .sh t, .un], ?_⟩
        simp only [sLoop, e0, dv_stop, bind_ok, Nat.gcd_zero_right]
      · have hm := Nat.mod_lt a hb
        have h4 : b * (a % b) < 2 ^ (1900 + 1900) := by
          rw [Nat.pow_add]
          exact Nat.mul_lt_mul'' h (by omega)
        obtain ⟨ρ, e⟩ := dv_loop (1900 + 1900) ts b (a % b) (.sh t) (.sh (.int (a % b : Nat))) (by omega) h4 (by simp at hl; omega)
        refine ⟨ρ, ?_⟩
        have eg : Nat.gcd a b = Nat.gcd b (a % b) := by rw [Nat.gcd_comm, Nat.gcd_rec, Nat.gcd_comm]
        simp only [sLoop, e0, dv_step a b hb t .un .un, bind_ok, e, eg]
  obtain ⟨ρ, e⟩ := key
  unfold dvBody at e
  simp only [F_law_divisor, b_law_divisor, fnOf]
  simp at e ⊢
  simp [e]
end KV
set_option Elab.async false
set_option linter.all false
set_option autoImplicit false
set_option maxRecDepth 100000
set_option maxHeartbeats 4000000
set_option exponentiation.threshold 100
namespace KV
open PySem PySem.Spec PyProof.Rows L2
@[simp] theorem ix_t0 (a : D) (l : List D) : dIx (.tup (a :: l)) (.int 0) = some a := by
  show atI (a :: l) 0 = some a
  unfold atI ixN
  rw [if_pos (by omega), if_pos (by simp; try omega)]
  rfl
@[simp] theorem ix_t1 (a b : D) (l : List D) : dIx (.tup (a :: b :: l)) (.int 1) = some b := by
  show atI (a :: b :: l) 1 = some b
  unfold atI ixN
  rw [if_pos (by omega), if_pos (by simp; try omega)]
  rfl
@[simp] theorem ix_l0 (a : D) (l : List D) : dIx (.lst (a :: l)) (.int 0) = some a := by
  show atI (a :: l) 0 = some a
  unfold atI ixN
  rw [if_pos (by omega), if_pos (by simp; try omega)]
  rfl
@[simp] theorem ix_l1 (a b : D) (l : List D) : dIx (.lst (a :: b :: l)) (.int 1) = some b := by
  show atI (a :: b :: l) 1 = some b
  unfold atI ixN
  rw [if_pos (by omega), if_pos (by simp; try omega)]
  rfl
@[simp] theorem ix_l2 (a b c : D) (l : List D) : dIx (.lst (a :: b :: c :: l)) (.int 2) = some c := by
  show atI (a :: b :: c :: l) 2 = some c
  unfold atI ixN
  rw [if_pos (by omega), if_pos (by simp; try omega)]
  rfl
theorem is_fraction_eq {p q : Int} (hp : 0 ≤ p) (hq : 0 < q) (h1 : Nat.gcd p.natAbs q.natAbs = 1) (hb : Bd q 1900) : F_law_is_fraction [.sh (.tup [.int p, .int q])] = .ok (.sh (.bl true), [.un]) := by
  obtain ⟨a, rfl⟩ := Int.eq_ofNat_of_zero_le hp
  obtain ⟨b, rfl⟩ := Int.eq_ofNat_of_zero_le (Int.le_of_lt hq)
  have e := divisor_eq a b hb
  have h2 : ¬ ((b : Int) < 1) := by omega
  simp at h1
  simp [F_law_is_fraction, b_law_is_fraction, e, h2, h1]
theorem same_worth_eq {p q r s : Int} {m n : Nat} (b1 : Bd p m) (b2 : Bd s m) (b3 : Bd r n) (b4 : Bd q n) (hm : m ≤ 4000) (hn : n ≤ 4000) (h : p * s = r * q) : F_law_same_worth [.sh (.tup [.int p, .int q]), .sh (.tup [.int r, .int s])] = .ok (.sh (.bl true), [.un, .un]) := by
  have m1 := dMul_bd b1 b2 hm hm
  have m2 := dMul_bd b3 b4 hn hn
  simp [F_law_same_worth, b_law_same_worth, m1, m2, h]
theorem law_like_eq {xs ys : List Int} {d e : D} (hd : Row d xs) (he : Row e ys) (hx : Gd xs) (hy : Gd ys) : F_law_like [.sh d, .sh e] = .ok (.sh (.bl (decide (xs.map (ys.sum * ·) = ys.map (xs.sum * ·)))), [.un, .un]) := by
  have sx := dSum_row hd
  have sy := dSum_row he
  have e1 := fc_map (α := Int) (g := gSeq (eVar 0)) (h := hName 2) (f := eBin dMul (eCV dSum 1) (eVar 2)) (vs := [2]) D.int (fun x => D.int (ys.sum * x)) (ρ := [.sh d, .sh e, .un]) (ρ0 := [.sh d, .sh e, .un]) xs
    (by simp [hd.items]) (by have := hx.len; omega) rfl (fun x hx' => by
      refine ⟨[.sh d, .sh e, .sh (.int x)], rfl, ?_, rfl⟩
      have := dMul_bd hy.bd (hx.mem x hx') (by omega) (by omega)
      simp [sy, this])
  have e2 := fc_map (α := Int) (g := gSeq (eVar 1)) (h := hName 2) (f := eBin dMul (eCV dSum 0) (eVar 2)) (vs := [2]) D.int (fun x => D.int (xs.sum * x)) (ρ := [.sh d, .sh e, .un]) (ρ0 := [.sh d, .sh e, .un]) ys
    (by simp [he.items]) (by have := hy.len; omega) rfl (fun x hx' => by
      refine ⟨[.sh d, .sh e, .sh (.int x)], rfl, ?_, rfl⟩
      have := dMul_bd hx.bd (hy.mem x hx') (by omega) (by omega)
      simp [sx, this])
  have e3 := dEq_l (xs.map (ys.sum * ·)) (ys.map (xs.sum * ·))
  simp only [iv, List.map_map] at e3
  simp only [F_law_like, b_law_like, fnOf]
  simp at e1 e2 ⊢
  simp [e1, e2]
  simp [Function.comp_def] at e3 ⊢
  simp [e3]
/-! the count -/
def at0 (xs : List Int) (i : Nat) : Int := (xs[i]?).getD 0
theorem at0_mem {xs : List Int} {i : Nat} (h : i < xs.length) : at0 xs i ∈ xs ∧ xs[i]? = some (at0 xs i) := by
  unfold at0
  rw [List.getElem?_eq_getElem h]
  exact ⟨List.getElem_mem h, rfl⟩
theorem ix_row {d : D} {xs : List Int} (hd : Row d xs) {i : Nat} (h : i < xs.length) : dIx d (.int i) = some (.int (at0 xs i)) := by
  have := atI_iv xs i _ (at0_mem h).2
  rcases hd with rfl | rfl <;> exact this
theorem sum_lt (ys : List Int) (i : Nat) : ((List.range ys.length).map fun j => if j < i then at0 ys j else 0).sum = pre ys i := by
  induction ys generalizing i with
  | nil => simp [pre]
  | cons y ys ih =>
    rw [List.length_cons, List.range_succ_eq_map, List.map_cons, List.map_map, List.sum_cons]
    cases i with
    | zero =>
      have : ((List.range ys.length).map ((fun j => if j < 0 then at0 (y :: ys) j else 0) ∘ Nat.succ)).sum = 0 := sum_zero (by simp)
      rw [this]
      simp [pre]
    | succ i =>
      have : (List.range ys.length).map ((fun j => if j < i + 1 then at0 (y :: ys) j else 0) ∘ Nat.succ) = (List.range ys.length).map fun j => if j < i then at0 ys j else 0 := by
        apply List.map_congr_left
        intro j _
        simp [at0]
      rw [this, ih i]
      simp [pre, at0]
theorem sum_at (ys : List Int) (i : Nat) : ((List.range ys.length).map fun j => if i = j then at0 ys j else 0).sum = at0 ys i := by
  induction ys generalizing i with
  | nil => simp [at0]
  | cons y ys ih =>
    rw [List.length_cons, List.range_succ_eq_map, List.map_cons, List.map_map, List.sum_cons]
    cases i with
    | zero =>
      have : ((List.range ys.length).map ((fun j => if 0 = j then at0 (y :: ys) j else 0) ∘ Nat.succ)).sum = 0 := sum_zero (by simp)
      rw [this]
      simp [at0]
    | succ i =>
      have : (List.range ys.length).map ((fun j => if i + 1 = j then at0 (y :: ys) j else 0) ∘ Nat.succ) = (List.range ys.length).map fun j => if i = j then at0 ys j else 0 := by
        apply List.map_congr_left
        intro j _
        simp [at0]
      rw [this, ih i]
      simp [at0]
theorem sum_wn (b : Int) (xs ys : List Int) (h : xs.length = ys.length) : ((List.range xs.length).map fun i => at0 xs i * (b + pre ys i)).sum = Wn b xs ys := by
  induction xs generalizing ys b with
  | nil => cases ys <;> rfl
  | cons x xs ih => cases ys with
    | nil => cases h
    | cons y ys =>
      rw [List.length_cons, List.range_succ_eq_map, List.map_cons, List.map_map, List.sum_cons]
      simp only [Wn]
      rw [← ih (b + y) ys (by simpa using h)]
      congr 1
      · simp [pre, at0]
      · congr 1
        apply List.map_congr_left
        intro i _
        simp [pre, at0]
        grind
theorem sum_dot (xs ys : List Int) (h : xs.length = ys.length) : ((List.range xs.length).map fun i => at0 xs i * at0 ys i).sum = dot xs ys := by
  induction xs generalizing ys with
  | nil => cases ys <;> rfl
  | cons x xs ih => cases ys with
    | nil => cases h
    | cons y ys =>
      rw [List.length_cons, List.range_succ_eq_map, List.map_cons, List.map_map, List.sum_cons, dot_cons, ← ih ys (by simpa using h)]
      congr 1
end KV
set_option Elab.async false
set_option linter.all false
set_option autoImplicit false
set_option maxRecDepth 100000
set_option maxHeartbeats 4000000
set_option exponentiation.threshold 100
namespace KV
open PySem PySem.Spec PyProof.Rows L2
abbrev ciBody : FS := (sSeq (sIf (tVal (eBin dGt (eVar 4) (eVar 5))) (sSeq (sAug 2 (fun x y => x + y) (eBin dMul (eIxVar 0 (eVar 4)) (eIxVar 1 (eVar 5)))) (sNil)) (sNil)) (sSeq (sIf (tVal (eBin dEq (eVar 4) (eVar 5))) (sSeq (sAug 3 (fun x y => x + y) (eBin dMul (eIxVar 0 (eVar 4)) (eIxVar 1 (eVar 5)))) (sNil)) (sNil)) (sNil)))
theorem ci_loop {d e : D} {xs ys : List Int} (hd : Row d xs) (he : Row e ys) (hx : Gd xs) (hy : Gd ys) (i : Nat) (hi : i < xs.length) : ∀ (js : List Nat) (w l : Int) (s5 : Sl), (∀ j ∈ js, j < ys.length) → ∃ s', sLoop (hName 5) ciBody (js.map fun i => D.int (i : Nat)) [.sh d, .sh e, .sh (.int w), .sh (.int l), .sh (.int i), s5] = .ok (.nx [.sh d, .sh e, .sh (.int (w + at0 xs i * (js.map fun j => if j < i then at0 ys j else 0).sum)), .sh (.int (l + at0 xs i * (js.map fun j => if i = j then at0 ys j else 0).sum)), .sh (.int i), s'])
  | [], w, l, s5, _ => ⟨s5, by simp [sLoop]⟩
  | j :: js, w, l, s5, hj => by
    have hj0 := hj j List.mem_cons_self
    have a1 := ix_row hd hi
    have a2 := ix_row he hj0
    have m := dMul_bd (hx.mem _ (at0_mem hi).1) (hy.mem _ (at0_mem hj0).1) (by omega) (by omega)
    simp only [List.map_cons, sLoop, List.sum_cons, Int.mul_add]
    by_cases h1 : j < i
    · have h2 : ¬ i = j := by omega
      obtain ⟨s', q⟩ := ci_loop hd he hx hy i hi js (w + at0 xs i * at0 ys j) l (.sh (.int j)) fun k hk => hj k (List.mem_cons_of_mem _ hk)
      refine ⟨s', ?_⟩
      have h2' : ¬ (i : Int) = j := by omega
      simp [h1, h2, h2', a1, a2, m] at q ⊢
      rw [q]
      simp [Int.add_assoc]
    · by_cases h2 : i = j
      · subst h2
        obtain ⟨s', q⟩ := ci_loop hd he hx hy i hi js w (l + at0 xs i * at0 ys i) (.sh (.int i)) fun k hk => hj k (List.mem_cons_of_mem _ hk)
        refine ⟨s', ?_⟩
        simp [a1, a2, m] at q ⊢
        rw [q]
        simp [Int.add_assoc]
      · obtain ⟨s', q⟩ := ci_loop hd he hx hy i hi js w l (.sh (.int j)) fun k hk => hj k (List.mem_cons_of_mem _ hk)
        refine ⟨s', ?_⟩
        have h2' : ¬ (i : Int) = j := by omega
        simp [h1, h2, h2'] at q ⊢
        exact q
abbrev coBody : FS := (sSeq (sFor (gRng1 (aCons (eCV dLen 1) (aNil))) (hName 5) (sSeq (sIf (tVal (eBin dGt (eVar 4) (eVar 5))) (sSeq (sAug 2 (fun x y => x + y) (eBin dMul (eIxVar 0 (eVar 4)) (eIxVar 1 (eVar 5)))) (sNil)) (sNil)) (sSeq (sIf (tVal (eBin dEq (eVar 4) (eVar 5))) (sSeq (sAug 3 (fun x y => x + y) (eBin dMul (eIxVar 0 (eVar 4)) (eIxVar 1 (eVar 5)))) (sNil)) (sNil)) (sNil)))) (sNil))
theorem len_row {d : D} {xs : List Int} (hd : Row d xs) : dLen [d] = some (.int xs.length) := by
  rcases hd with rfl | rfl <;> simp
theorem co_loop {d e : D} {xs ys : List Int} (hd : Row d xs) (he : Row e ys) (hx : Gd xs) (hy : Gd ys) : ∀ (is : List Nat) (w l : Int) (s4 s5 : Sl), (∀ i ∈ is, i < xs.length) → ∃ s' s'', sLoop (hName 4) coBody (is.map fun i => D.int (i : Nat)) [.sh d, .sh e, .sh (.int w), .sh (.int l), s4, s5] = .ok (.nx [.sh d, .sh e, .sh (.int (w + (is.map fun i => at0 xs i * pre ys i).sum)), .sh (.int (l + (is.map fun i => at0 xs i * at0 ys i).sum)), s', s''])
  | [], w, l, s4, s5, _ => ⟨s4, s5, by simp [sLoop]⟩
  | i :: is, w, l, s4, s5, hi => by
    have hi0 := hi i List.mem_cons_self
    obtain ⟨t, q⟩ := ci_loop hd he hx hy i hi0 (List.range ys.length) w l s5 fun j hj => List.mem_range.mp hj
    rw [sum_lt, sum_at, ← range_iv] at q
    obtain ⟨s', s'', q2⟩ := co_loop hd he hx hy is (w + at0 xs i * pre ys i) (l + at0 xs i * at0 ys i) (.sh (.int i)) t fun k hk => hi k (List.mem_cons_of_mem _ hk)
    refine ⟨s', s'', ?_⟩
    have a := len_row he
    have h1 : (ys.length : Int) ≤ 1000000 := by have := hy.len; omega
    have h2 : (-1000000 : Int) ≤ ys.length := by omega
    simp only [List.map_cons, sLoop, List.sum_cons]
    simp [a, h1, h2] at q q2 ⊢
    rw [q]
    simp
    rw [q2]
    simp [Int.add_assoc]
/-- won, level, lost -/
theorem count_eq {d e : D} {xs ys : List Int} (hd : Row d xs) (he : Row e ys) (hx : Gd xs) (hy : Gd ys) (hl : xs.length = ys.length) : F_law_count [.sh d, .sh e] = .ok (.ow [.int (Wn 0 xs ys), .int (dot xs ys), .int (Wn 0 ys xs)], [.un, .un]) := by
  obtain ⟨s', s'', q⟩ := co_loop hd he hx hy (List.range xs.length) 0 0 .un .un fun j hj => List.mem_range.mp hj
  rw [sum_dot xs ys hl, ← range_iv] at q
  have e0 := sum_wn 0 xs ys hl
  simp only [Int.zero_add] at e0 q
  rw [e0] at q
  have a := len_row hd
  have h1 : (xs.length : Int) ≤ 1000000 := by have := hx.len; omega
  have h2 : (-1000000 : Int) ≤ xs.length := by omega
  have sx := dSum_row hd
  have sy := dSum_row he
  have m := dMul_bd hx.bd hy.bd (by omega) (by omega)
  have p := pairs xs ys hl
  have e2 : xs.sum * ys.sum - Wn 0 xs ys - dot xs ys = Wn 0 ys xs := by omega
  unfold coBody at q
  simp only [F_law_count, b_law_count, fnOf]
  simp [a, h1, h2] at q ⊢
  rw [q]
  simp [sx, sy, m, e2]
end KV
set_option Elab.async false
set_option linter.all false
set_option autoImplicit false
set_option maxRecDepth 100000
set_option maxHeartbeats 4000000
set_option exponentiation.threshold 100
namespace KV
open PySem PySem.Spec PyProof.Rows L2
/-- slices of rows -/
def sliceD (n : Int) : D → Option D
  | .lst ys => some (.lst (cutD ys none (some n)))
  | .tup ys => some (.tup (cutD ys none (some n)))
  | _ => none
theorem slice_sum {d : D} {xs : List Int} (hd : Row d xs) (n : Nat) : ∃ d', sliceD n d = some d' ∧ dSum [d'] = some (.int (pre xs n)) := by
  have c := cutD_take (iv xs) n
  rw [iv_take] at c
  rcases hd with rfl | rfl
  · exact ⟨.lst (iv (xs.take n)), by simp only [sliceD, c], dSum_l _⟩
  · exact ⟨.tup (iv (xs.take n)), by simp only [sliceD, c], dSum_t _⟩
theorem eSl_row {d d' : D} {n : Int} {ρ : Env} (f : FE) (lo hi : FO) (hf : f ρ = .ok (d, ρ)) (hl : lo ρ = .ok (none, ρ)) (hh : hi ρ = .ok (some n, ρ)) (h : sliceD n d = some d') : eSl f lo hi ρ = .ok (d', ρ) := by
  rw [eSl_eq, hf]
  simp only [bind_ok, hl, hh]
  cases d <;> first | (cases h; rfl) | cases h
theorem sum_slice {d : D} {xs : List Int} (hd : Row d xs) {ρ : Env} (f : FE) (hi : FE) (n : Nat) (hf : f ρ = .ok (d, ρ)) (hh : hi ρ = .ok (.int n, ρ)) : eCB dSum (aCons (eSl f oNo (oIs hi)) aNil) ρ = .ok (.int (pre xs n), ρ) := by
  obtain ⟨d', h1, h2⟩ := slice_sum hd n
  have e := eSl_row f oNo (oIs hi) hf rfl (by simp [hh]) h1
  simp only [eCB, aCons, aNil, e, bind_ok, h2]
abbrev ahBody : FS := (sSeq (sIf (tOr2 (tNot2 (tVal (eVal (cCall F_law_int 1 (arV (eIxVar 2 (eVar 4)) (arNil)))))) (tNot2 (tVal (eVal (cCall F_law_int 1 (arV (eIxVar 3 (eVar 4)) (arNil))))))) (sSeq (sRet (eC (.bl false))) (sNil)) (sNil)) (sSeq (sSet 5 (eBin dSub (eBin dMul (eCB dSum (aCons (eSl (eVar 0) (oNo) (oIs (eBin dAdd (eVar 4) (eC (.int 1))))) (aNil))) (eCB dSum (aCons (eSl (eVar 1) (oNo) (oIs (eVar 4))) (aNil)))) (eBin dMul (eCB dSum (aCons (eSl (eVar 0) (oNo) (oIs (eVar 4))) (aNil))) (eCB dSum (aCons (eSl (eVar 1) (oNo) (oIs (eBin dAdd (eVar 4) (eC (.int 1))))) (aNil)))))) (sSeq (sIf (tOr2 (tVal (eBin dNe (eIxVar 2 (eVar 4)) (eVar 5))) (tVal (eBin dNe (eIxVar 3 (eVar 4)) (eCB dSum (aCons (eSl (eVar 0) (oNo) (oIs (eVar 4))) (aNil)))))) (sSeq (sRet (eC (.bl false))) (sNil)) (sNil)) (sNil))))
theorem ah_step {d e : D} {xs ys : List Int} (hd : Row d xs) (he : Row e ys) (hx : Gd xs) (hy : Gd ys) (hl : xs.length = ys.length) (j : Nat) (hj : j < xs.length) (s5 : Sl) : ∃ t5, ahBody [.sh d, .sh e, .sh (.tup (iv ((List.range xs.length).map (area xs ys)))), .sh (.tup (iv (run 0 xs))), .sh (.int j), s5] = .ok (.nx [.sh d, .sh e, .sh (.tup (iv ((List.range xs.length).map (area xs ys)))), .sh (.tup (iv (run 0 xs))), .sh (.int j), t5]) := by
  refine ⟨.sh (.int (area xs ys j)), ?_⟩
  have a1 : dIx (.tup (iv ((List.range xs.length).map (area xs ys)))) (.int j) = some (.int (area xs ys j)) := atI_iv _ j _ (by simp [hj])
  have a2 : dIx (.tup (iv (run 0 xs))) (.int j) = some (.int (pre xs j)) := atI_iv _ j _ (run_pre xs j (by omega))
  have m1 := dMul_bd (pre_bd hx (j + 1)) (pre_bd hy j) (by omega) (by omega)
  have m2 := dMul_bd (pre_bd hx j) (pre_bd hy (j + 1)) (by omega) (by omega)
  have cx0 : cutD (iv xs) none (some (j : Int)) = iv (xs.take j) := by rw [cutD_take, iv_take]
  have cx1 : cutD (iv xs) none (some ((j : Int) + 1)) = iv (xs.take (j + 1)) := by rw [show ((j : Int) + 1) = ((j + 1 : Nat) : Int) from rfl, cutD_take, iv_take]
  have cy0 : cutD (iv ys) none (some (j : Int)) = iv (ys.take j) := by rw [cutD_take, iv_take]
  have cy1 : cutD (iv ys) none (some ((j : Int) + 1)) = iv (ys.take (j + 1)) := by rw [show ((j : Int) + 1) = ((j + 1 : Nat) : Int) from rfl, cutD_take, iv_take]
  generalize hA : D.tup (iv ((List.range xs.length).map (area xs ys))) = A at *
  generalize hR : D.tup (iv (run 0 xs)) = R at *
  have hd5 : pre xs (j + 1) * pre ys j - pre xs j * pre ys (j + 1) = area xs ys j := rfl
  have e1 : dSum [.lst (iv (xs.take j))] = some (.int (pre xs j)) := dSum_l _
  have e2 : dSum [.lst (iv (xs.take (j + 1)))] = some (.int (pre xs (j + 1))) := dSum_l _
  have e3 : dSum [.lst (iv (ys.take j))] = some (.int (pre ys j)) := dSum_l _
  have e4 : dSum [.lst (iv (ys.take (j + 1)))] = some (.int (pre ys (j + 1))) := dSum_l _
  have f1 : dSum [.tup (iv (xs.take j))] = some (.int (pre xs j)) := dSum_t _
  have f2 : dSum [.tup (iv (xs.take (j + 1)))] = some (.int (pre xs (j + 1))) := dSum_t _
  have f3 : dSum [.tup (iv (ys.take j))] = some (.int (pre ys j)) := dSum_t _
  have f4 : dSum [.tup (iv (ys.take (j + 1)))] = some (.int (pre ys (j + 1))) := dSum_t _
  rcases hd with rfl | rfl <;> rcases he with rfl | rfl <;>
  simp [-List.map_take, -List.map_drop, ahBody, a1, a2, cx0, cx1, cy0, cy1, -dSum_l, -dSum_t, e1, e2, e3, e4, f1, f2, f3, f4, m1, m2, hd5]
theorem ah_loop {d e : D} {xs ys : List Int} (hd : Row d xs) (he : Row e ys) (hx : Gd xs) (hy : Gd ys) (hl : xs.length = ys.length) : ∀ (js : List Nat) (s4 s5 : Sl), (∀ j ∈ js, j < xs.length) → ∃ t4 t5, sLoop (hName 4) ahBody (js.map fun i => D.int (i : Nat)) [.sh d, .sh e, .sh (.tup (iv ((List.range xs.length).map (area xs ys)))), .sh (.tup (iv (run 0 xs))), s4, s5] = .ok (.nx [.sh d, .sh e, .sh (.tup (iv ((List.range xs.length).map (area xs ys)))), .sh (.tup (iv (run 0 xs))), t4, t5])
  | [], s4, s5, _ => ⟨s4, s5, rfl⟩
  | j :: js, s4, s5, h => by
    obtain ⟨t, q1⟩ := ah_step hd he hx hy hl j (h j List.mem_cons_self) s5
    obtain ⟨u, v, q2⟩ := ah_loop hd he hx hy hl js (.sh (.int j)) t fun k hk => h k (List.mem_cons_of_mem _ hk)
    refine ⟨u, v, ?_⟩
    have e0 : hName 4 (D.int j) [.sh d, .sh e, .sh (.tup (iv ((List.range xs.length).map (area xs ys)))), .sh (.tup (iv (run 0 xs))), s4, s5] = some [.sh d, .sh e, .sh (.tup (iv ((List.range xs.length).map (area xs ys)))), .sh (.tup (iv (run 0 xs))), .sh (.int j), s5] := rfl
    simp only [List.map_cons, sLoop, e0, q1, bind_ok, q2]
theorem areas_hold {d e : D} {xs ys : List Int} (hd : Row d xs) (he : Row e ys) (hx : Gd xs) (hy : Gd ys) (hl : xs.length = ys.length) : F_law_areas_hold [.sh d, .sh e] = .ok (.sh (.bl true), [.un, .un]) := by
  have e1 := areas_eq hd he hx hy hl
  have e2 := belows_eq hd hx.toDie (by have := hx.len; omega)
  have e3 := lead_good hd he hx hy hl
  obtain ⟨t, u, q⟩ := ah_loop hd he hx hy hl (List.range xs.length) .un .un fun j hj => List.mem_range.mp hj
  rw [← range_iv] at q
  have a := len_row hd
  have sx := dSum_row hd
  have h1 : (xs.length : Int) ≤ 1000000 := by have := hx.len; omega
  have h2 : (-1000000 : Int) ≤ xs.length := by omega
  have lr : (run 0 xs).length = xs.length + 1 := run_len 0 xs
  have i1 : dIx (.tup (iv (run 0 xs))) (.int xs.length) = some (.int xs.sum) := by
    have := atI_iv (run 0 xs) xs.length _ (run_pre xs xs.length (Nat.le_refl _))
    rw [show pre xs xs.length = xs.sum by unfold pre; rw [List.take_length]] at this
    exact this
  have sA := dSum_t ((List.range xs.length).map (area xs ys))
  rw [areas_sum xs ys hl] at sA
  have lA : dLen [.tup (iv ((List.range xs.length).map (area xs ys)))] = some (.int xs.length) := by simp
  have lR : dLen [.tup (iv (run 0 xs))] = some (.int ((xs.length : Int) + 1)) := by simp [lr]
  have dI : dIsi [.tup (iv ((List.range xs.length).map (area xs ys))), .ty "tuple"] = some (.bl true) := rfl
  have dR : dIsi [.tup (iv (run 0 xs)), .ty "tuple"] = some (.bl true) := rfl
  unfold ahBody at q
  simp only [F_law_areas_hold, b_law_areas_hold, fnOf]
  generalize D.tup (iv ((List.range xs.length).map (area xs ys))) = A at *
  generalize D.tup (iv (run 0 xs)) = R at *
  simp [e1, e2, dI, dR, lA, lR, a, i1, sx, h1, h2] at q ⊢
  rw [q]
  simp [sA, e3]
end KV
set_option Elab.async false
set_option linter.all false
set_option autoImplicit false
set_option maxRecDepth 100000
set_option maxHeartbeats 8000000
set_option exponentiation.threshold 100
namespace KV
open PySem PySem.Spec PyProof.Rows L2
theorem throws_hold {d e : D} {xs ys : List Int} (hd : Row d xs) (he : Row e ys) (hx : Gd xs) (hy : Gd ys) (hl : xs.length = ys.length) : F_law_throws_hold [.sh d, .sh e] = .ok (.sh (.bl true), [.un, .un]) := by
  have e0 := count_eq hd he hx hy hl
  have e1 := wins_eq hd he hx hy hl
  have e2 := ties_eq hd he hx hy hl
  have e3 := lead_good hd he hx hy hl
  have e4 := wins_eq he hd hy hx hl.symm
  have e5 := lead_good he hd hy hx hl.symm
  have q := dNe_l [Wn 0 xs ys, dot xs ys, Wn 0 xs ys - Wn 0 ys xs] [Wn 0 xs ys, dot xs ys, Wn 0 xs ys - Wn 0 ys xs]
  simp at q
  simp [F_law_throws_hold, b_law_throws_hold, e0, e1, e2, e3, e4, e5, sLoop, q]
theorem low_as {t b p q t' b' : Int} (l : Low t b p q) (hb : b ≠ 0) (hb' : b' ≠ 0) (e : t * b' = t' * b) : Low t' b' p q := by
  obtain ⟨G, p', q', _, _, _, _, _, l'⟩ := low_core t' b' hb'
  obtain ⟨z1, z2⟩ := low_uniq l l' hb hb' e
  subst z1
  subst z2
  exact l'
theorem Low.nn {t b p q : Int} (l : Low t b p q) (ht : 0 ≤ t) (hb : 0 < b) : 0 ≤ p := by
  have e := l.eq
  have h1 : 0 ≤ t * q := Int.mul_nonneg ht (Int.le_of_lt l.pos)
  rw [e] at h1
  rcases Int.lt_or_le p 0 with z | z
  · have := Int.mul_neg_of_neg_of_pos z hb
    omega
  · exact z
theorem dEq_bl (a b : Bool) : dEq (.bl a) (.bl b) = some (.bl (decide (a = b))) := by cases a <;> cases b <;> rfl
theorem dNe_bl (a b : Bool) : dNe (.bl a) (.bl b) = some (.bl (!decide (a = b))) := by cases a <;> cases b <;> rfl
theorem Bd.of_le {i j : Int} {n : Nat} (h : Bd j n) (hl : i.natAbs ≤ j.natAbs) : Bd i n := Nat.lt_of_le_of_lt hl h
theorem fractions_hold {d e : D} {xs ys : List Int} (hd : Row d xs) (he : Row e ys) (hx : Gd xs) (hy : Gd ys) (hl : xs.length = ys.length) : F_law_fractions_hold [.sh d, .sh e] = .ok (.sh (.bl true), [.un, .un]) := by
  have e0 := count_eq hd he hx hy hl
  obtain ⟨p, q, e1, l1⟩ := chance_eq hd he hx hy hl
  obtain ⟨h, k, e2, l2⟩ := half_chance_eq hd he hx hy hl
  obtain ⟨p', q', e3, l3⟩ := chance_eq he hd hy hx hl.symm
  obtain ⟨h', k', e4, l4⟩ := half_chance_eq he hd hy hx hl.symm
  have sx := dSum_row hd
  have sy := dSum_row he
  obtain ⟨hN, bN⟩ := sum_pos_bd hx hy
  have mN := dMul_bd hx.bd hy.bd (by omega) (by omega)
  have two : Bd 2 2 := by unfold Bd; decide
  have m2N := dMul_bd two bN (by omega) (by omega)
  have b2N := two.mul bN
  have pr := pairs xs ys hl
  have nW : 0 ≤ Wn 0 xs ys := Wn_nn (Int.le_refl _) hx.nn hy.nn
  have nL : 0 ≤ Wn 0 ys xs := Wn_nn (Int.le_refl _) hy.nn hx.nn
  have nT : 0 ≤ dot xs ys := dot_nn hx.nn hy.nn
  rw [Int.mul_comm ys.sum xs.sum] at l3 l4
  generalize Wn 0 xs ys = W at *
  generalize Wn 0 ys xs = L at *
  generalize dot xs ys = T at *
  generalize xs.sum * ys.sum = N at *
  have bW : Bd W 800 := bN.le nW (by omega)
  have bT : Bd T 800 := bN.le nT (by omega)
  have bh : Bd h 802 := (b2N.le (i := N + (W - L)) (by omega) (by omega)).of_le l2.pl
  have bk : Bd k 802 := b2N.of_le l2.ql
  have bh' : Bd h' 802 := (b2N.le (i := N + (L - W)) (by omega) (by omega)).of_le l4.pl
  have bk' : Bd k' 802 := b2N.of_le l4.ql
  have bp : Bd p 800 := bW.of_le l1.pl
  have bq : Bd q 800 := bN.of_le l1.ql
  have bp' : Bd p' 800 := (bN.le nL (by omega)).of_le l3.pl
  have bq' : Bd q' 800 := bN.of_le l3.ql
  have f1 := fr_low l1.pos l1.one bq (by omega)
  have f2 := fr_low l2.pos l2.one bk (by omega)
  have f3 := fr_low l3.pos l3.one bq' (by omega)
  have f4 := fr_low l4.pos l4.one bk' (by omega)
  have E1 := l1.eq
  have E2 := l2.eq
  have E3 := l3.eq
  have E4 := l4.eq
  have P1 := l1.pos
  have P2 := l2.pos
  have P3 := l3.pos
  have P4 := l4.pos
  have kq : k * q ≠ 0 := Int.mul_ne_zero (by omega) (by omega)
  have qq : q * q' ≠ 0 := Int.mul_ne_zero (by omega) (by omega)
  have kk : k * k' ≠ 0 := Int.mul_ne_zero (by omega) (by omega)
  -- the rest
  obtain ⟨r, s, e5, l5⟩ := taken_off_eq f2 f1 (bh.mono (by omega)) (bk.mono (by omega)) (bp.mono (by omega)) (bq.mono (by omega))
  have l5' : Low T (2 * N) r s := low_as l5 kq (by omega) (by
    have hT : T = N - W - L := by omega
    rw [hT]
    grind)
  -- both
  obtain ⟨u, v, e6, l6⟩ := added_eq f1 f3 (bp.mono (by omega)) (bq.mono (by omega)) (bp'.mono (by omega)) (bq'.mono (by omega))
  have l6' : Low (W + L) N u v := low_as l6 qq (by omega) (by grind)
  -- the halves
  obtain ⟨a, b, e7, l7⟩ := added_eq f2 f4 (bh.mono (by omega)) (bk.mono (by omega)) (bh'.mono (by omega)) (bk'.mono (by omega))
  have one1 : Low 1 1 1 1 := Low.self (by omega) rfl
  obtain ⟨z1, z2⟩ := low_uniq l7 one1 kk (by omega) (by
    have : (2 * N) * ((h * k' + h' * k) * 1) = (2 * N) * (1 * (k * k')) := by grind
    exact Int.eq_of_mul_eq_mul_left (by omega) this)
  subst z1
  subst z2
  have bs : Bd s 802 := b2N.of_le l5'.ql
  have br : Bd r 802 := (bT.mono (by omega)).of_le l5'.pl
  have f5 := fr_low l5'.pos l5'.one bs (by omega)
  -- times
  obtain ⟨a1, b1, e8, l8⟩ := multiplied_eq f5 (fr_int (2 * N)) (br.mono (by omega)) (bs.mono (by omega)) (b2N.mono (by omega)) (show Bd 1 1000 from (show Bd 1 1 by unfold Bd; decide).mono (by omega))
  have E5 := l5'.eq
  obtain ⟨z1, z2⟩ := low_uniq l8 (Low.self (p := T) (q := 1) (by omega) (by simp)) (by have := l5'.pos; omega) (by omega) (by grind)
  subst z1
  subst z2
  -- divided by 2
  obtain ⟨f, g, f6, l9⟩ := fr_pair (d := .lst [.int a1, .int N]) (.inr rfl) (by omega) bN (by omega)
  have E9 := l9.eq
  have P9 := l9.pos
  obtain ⟨a2, b2, e9, l10⟩ := divided_eq f6 (fr_int 2) (by omega) ((bT.of_le l9.pl).mono (by omega)) ((bN.of_le l9.ql).mono (by omega)) (two.mono (by omega)) (show Bd 1 1000 from (show Bd 1 1 by unfold Bd; decide).mono (by omega))
  obtain ⟨z1, z2⟩ := low_uniq l10 l5' (by omega) (by omega) (by grind)
  subst z1
  subst z2
  -- divided by - N
  obtain ⟨a3, b3, e10, l11⟩ := divided_eq (fr_int W) (fr_int (0 - N)) (by omega) (bW.mono (by omega)) (show Bd 1 1000 from (show Bd 1 1 by unfold Bd; decide).mono (by omega)) (show Bd (0 - N) 1000 from (show Bd (0 - N) 800 by unfold Bd at *; omega).mono (by omega)) (show Bd 1 1000 from (show Bd 1 1 by unfold Bd; decide).mono (by omega))
  obtain ⟨z1, z2⟩ := low_uniq l11 (Low.self (p := 0 - p) (q := q) P1 (by have := l1.one; rwa [show (0 - p).natAbs = p.natAbs by omega])) (by omega) (by omega) (by grind)
  subst z1
  subst z2
  -- less, equal
  have fh : FrOk (.tup [.int 1, .int 2]) 1 2 := fr_low (by omega) rfl two (by omega)
  have e11 := is_less_eq fh f2 (show Bd 1 1000 from (show Bd 1 1 by unfold Bd; decide).mono (by omega)) (two.mono (by omega)) (bh.mono (by omega)) (bk.mono (by omega))
  have c11 : decide (1 * k < h * 2) = decide (L < W) := decide_eq_decide.mpr (by
    have w1 : N * (h * 2) = N * k + (W - L) * k := by grind
    constructor
    · intro z
      have w2 : N * k < N * (h * 2) := Int.mul_lt_mul_of_pos_left (by omega) hN
      rcases Int.lt_or_le L W with y | y
      · exact y
      · have : (W - L) * k ≤ 0 := Int.mul_nonpos_of_nonpos_of_nonneg (by omega) (by omega)
        omega
    · intro z
      rcases Int.lt_or_le (1 * k) (h * 2) with y | y
      · exact y
      · have w2 : N * (h * 2) ≤ N * k := Int.mul_le_mul_of_nonneg_left (by omega) (by omega)
        have : 0 < (W - L) * k := Int.mul_pos (by omega) (by omega)
        omega)
  rw [c11] at e11
  obtain ⟨f', g', f7, l12⟩ := fr_pair (d := .lst [.int 2, .int 4]) (t := 2) (b := 4) (n := 3) (.inr rfl) (by omega) (by unfold Bd; decide) (by omega)
  obtain ⟨z1, z2⟩ := low_uniq l12 (Low.self (p := 1) (q := 2) (by omega) rfl) (by omega) (by omega) (by omega)
  subst z1
  subst z2
  have e12 := is_equal_eq f7 f2
  have c12 : decide ((1 : Int) = h ∧ (2 : Int) = k) = decide (W = L) := decide_eq_decide.mpr (by
    constructor
    · rintro ⟨rfl, rfl⟩
      omega
    · intro z
      obtain ⟨y1, y2⟩ := low_uniq l2 (Low.self (p := 1) (q := 2) (by omega) rfl) (by omega) (by omega) (by omega)
      omega)
  rw [c12] at e12
  have i1 := is_fraction_eq (l1.nn nW hN) P1 l1.one (bq.mono (by omega))
  have i2 := is_fraction_eq (l2.nn (by omega) (by omega)) P2 l2.one (bk.mono (by omega))
  have i3 := is_fraction_eq (l5'.nn nT (by omega)) l5'.pos l5'.one (bs.mono (by omega))
  have i4 := is_fraction_eq (l6'.nn (by omega) (by omega)) l6'.pos l6'.one ((bN.of_le l6'.ql).mono (by omega))
  have w1 := same_worth_eq (bp.mono (show 800 ≤ 1000 by omega)) (bN.mono (show 800 ≤ 1000 by omega)) (bW.mono (show 800 ≤ 1000 by omega)) (bq.mono (show 800 ≤ 1000 by omega)) (by omega) (by omega) E1.symm
  have w2 := same_worth_eq (br.mono (show 802 ≤ 1000 by omega)) (b2N.mono (show 2 + 800 ≤ 1000 by omega)) (bT.mono (show 800 ≤ 1000 by omega)) (bs.mono (show 802 ≤ 1000 by omega)) (by omega) (by omega) E5.symm
  have E6 := l6'.eq
  have g0 : decide ([u, v] = [1, 1]) = decide (a1 = 0) := decide_eq_decide.mpr (by
    constructor
    · intro z
      simp at z
      obtain ⟨rfl, rfl⟩ := z
      omega
    · intro z
      obtain ⟨y1, y2⟩ := low_uniq l6' one1 (by omega) (by omega) (by omega)
      rw [y1, y2])
  have n1 := dNe_t [1, 1] [1, 1]
  have n2 := dEq_t [u, v] [1, 1]
  rw [g0] at n2
  have n3 := dNe_t [a1, 1] [a1, 1]
  have n4 := dNe_t [a2, b2] [a2, b2]
  have n5 := dNe_t [-p, b3] [-p, b3]
  simp only [Int.zero_sub] at e10
  simp at n1 n2 n3 n4 n5
  clear kk l6 l5 l7 l8 l10 l11 l12 kq qq
  simp [F_law_fractions_hold, b_law_fractions_hold, sLoop, e0, e1, e2, e3, e4, e5, e6, e7, e8, e9, e10, e11, e12, sx, sy, mN, m2N, i1, i2, i3, i4, w1, w2, n1, n2, n3, n4, n5, dEq_bl, dNe_bl]
end KV
set_option Elab.async false
set_option linter.all false
set_option autoImplicit false
set_option maxRecDepth 100000
set_option maxHeartbeats 4000000
set_option exponentiation.threshold 100
namespace KV
open PySem PySem.Spec PyProof.Rows L2
@[simp] theorem sSetIx_eq (i : Nat) (fi f : FE) (ρ : Env) : sSetIx i fi f ρ = (f ρ).bind fun r => match r.2[i]? with
  | some (.ow _) => (fi r.2).bind fun s => match s.1 with
    | .int k => match s.2[i]? with
      | some (.ow ds) => match ixN ds.length k with
        | some j => .ok (.nx (s.2.set i (.ow (ds.set j r.1))))
        | none => .st
      | _ => .st
    | _ => .st
  | _ => .st := rfl
@[simp] theorem fCat_sp (f g : FE) (ρ : Env) : fCat f g ρ = (f ρ).bind fun r => (g r.2).bind fun s => match r.1, s.1 with
  | .lst xs, .lst ys => if decide (xs.length + ys.length ≤ 100000) then .ok (xs ++ ys, s.2) else .st
  | _, _ => .st := rfl
theorem cl_filter {α : Type} (h : HT') (t : FT) (f : FE) (vs : List Nat) (u v : α → D) (pr : α → Bool) (ρ : Env) : ∀ xs : List α, (∀ x ∈ xs, ∃ ρ1, h (u x) ρ = some ρ1 ∧ t ρ1 = .ok (pr x, ρ1) ∧ f ρ1 = .ok (v x, ρ1) ∧ wipeE ρ1 vs = ρ) → cLoop h t f vs (xs.map u) ρ = .ok ((xs.filter pr).map v, ρ)
  | [], _ => rfl
  | x :: xs, H => by
    obtain ⟨ρ1, h1, h2, h3, h4⟩ := H x List.mem_cons_self
    have ih := cl_filter h t f vs u v pr ρ xs fun y hy => H y (List.mem_cons_of_mem _ hy)
    cases q : pr x with
    | true =>
      rw [q] at h2
      rw [List.filter_cons_of_pos q]
      simp only [List.map_cons, cLoop, h1, h2, noEr, bind_ok, if_true, h3, h4, ih]
    | false =>
      rw [q] at h2
      rw [List.filter_cons_of_neg (by simp [q])]
      simp only [List.map_cons, cLoop, h1, h2, noEr, bind_ok, h4]
      simpa using ih
theorem fc_filter {α : Type} {g : FA} {h : HT'} {t : FT} {f : FE} {vs : List Nat} (u v : α → D) (pr : α → Bool) {ρ ρ0 : Env} (xs : List α) (hg : g ρ = .ok (xs.map u, ρ0)) (hl : xs.length ≤ 100000) (hw : wipeE ρ0 vs = ρ0) (H : ∀ x ∈ xs, ∃ ρ1, h (u x) ρ0 = some ρ1 ∧ t ρ1 = .ok (pr x, ρ1) ∧ f ρ1 = .ok (v x, ρ1) ∧ wipeE ρ1 vs = ρ0) : fComp g h t f vs ρ = .ok ((xs.filter pr).map v, ρ0) := by
  unfold fComp
  rw [hg]
  simp only [bind_ok]
  rw [if_pos (by rw [List.length_map]; exact decide_eq_true hl), hw, cl_filter h t f vs u v pr ρ0 xs H]
  simp only [bind_ok, hw]
theorem sum_set {xs : List Int} {r : Nat} (v : Int) (h : r < xs.length) : (xs.set r v).sum = xs.sum + v - at0 xs r := by
  induction xs generalizing r with
  | nil => simp at h
  | cons x xs ih => cases r with
    | zero => simp [at0]; omega
    | succ r =>
      rw [List.set_cons_succ, List.sum_cons, List.sum_cons, ih (by simpa using h)]
      simp [at0]
      omega
theorem dot_set {xs zs : List Int} {r : Nat} (v : Int) (h : r < xs.length) (h' : r < zs.length) : dot (xs.set r v) zs = dot xs zs + (v - at0 xs r) * at0 zs r := by
  induction xs generalizing zs r with
  | nil => simp at h
  | cons x xs ih => cases zs with
    | nil => simp at h'
    | cons z zs => cases r with
      | zero => rw [List.set_cons_zero, dot_cons, dot_cons]; simp [at0]; grind
      | succ r =>
        rw [List.set_cons_succ, dot_cons, dot_cons, ih (by simpa using h) (by simpa using h')]
        simp [at0]
        omega
theorem at0_set_ne {xs : List Int} {r i : Nat} (v : Int) (h : r ≠ i) : at0 (xs.set r v) i = at0 xs i := by
  unfold at0
  rw [List.getElem?_set_ne h]
theorem at0_set_eq {xs : List Int} {r : Nat} (v : Int) (h : r < xs.length) : at0 (xs.set r v) r = v := by
  unfold at0
  rw [List.getElem?_set_self h]
  rfl
theorem mem_set {xs : List Int} {r : Nat} {v y : Int} (h : y ∈ xs.set r v) : y ∈ xs ∨ y = v := List.mem_or_eq_of_mem_set h
theorem rl_at (s a : Int) (ys : List Int) (i : Nat) (h : i < ys.length) : at0 (rl s a ys) i = (a + pre ys i) + (a + pre ys (i + 1)) - s := by
  induction ys generalizing a i with
  | nil => simp at h
  | cons y ys ih => cases i with
    | zero => simp [rl, at0, pre]
    | succ i =>
      show at0 (rl s (a + y) ys) i = _
      rw [ih (a + y) i (by simpa using h)]
      simp [pre]
      omega
theorem pre_at {xs : List Int} {i : Nat} (h : i < xs.length) : pre xs (i + 1) = pre xs i + at0 xs i := pre_succ xs i _ (at0_mem h).2
def moved (xs : List Int) (r : Nat) : List Int := (xs.set r (at0 xs r - 1)).set (r + 1) (at0 xs (r + 1) + 1)
theorem moved_gd {xs : List Int} (hx : Gd xs) {r : Nat} (h : r + 1 < xs.length) (hp : 0 < at0 xs r) : Gd (moved xs r) := by
  have hs : (moved xs r).sum = xs.sum := by
    unfold moved
    rw [sum_set _ (by rw [List.length_set]; exact h), sum_set _ (by omega), at0_set_ne _ (by omega)]
    omega
  have hn := hx.nn _ (at0_mem (xs := xs) h).1
  refine ⟨⟨fun e => ?_, fun y hy => ?_, by rw [hs]; exact hx.pos⟩, by rw [hs]; exact hx.bd, by unfold moved; rw [List.length_set, List.length_set]; exact hx.len⟩
  · have := congrArg List.length e
    unfold moved at this
    rw [List.length_set, List.length_set] at this
    simp at this
    rw [this] at h
    simp at h
  · rcases mem_set hy with z | rfl
    · rcases mem_set z with z | rfl
      · exact hx.nn y z
      · omega
    · omega
theorem moved_lead {xs ys : List Int} (hl : xs.length = ys.length) {r : Nat} (h : r + 1 < xs.length) : (Wn 0 (moved xs r) ys - Wn 0 ys (moved xs r)) - (Wn 0 xs ys - Wn 0 ys xs) = at0 ys r + at0 ys (r + 1) := by
  have hm : (moved xs r).length = ys.length := by unfold moved; rw [List.length_set, List.length_set, hl]
  rw [← lead_eq _ _ hm, ← lead_eq _ _ hl]
  unfold moved
  rw [dot_set _ (by rw [List.length_set]; exact h) (by rw [rl_len]; omega), dot_set _ (by omega) (by rw [rl_len]; omega), at0_set_ne _ (by omega), rl_at _ _ _ _ (by omega), rl_at _ _ _ _ (by omega), pre_at (i := r + 1) (by omega), pre_at (i := r) (by omega)]
  grind
theorem moved_holds {d e : D} {xs ys : List Int} (hd : Row d xs) (he : Row e ys) (hx : Gd xs) (hy : Gd ys) (hl : xs.length = ys.length) (ns : List Int) : ∃ ns' : List Int, F_law_moved_holds [.ow (iv ns), .sh d, .sh e] = .ok (.sh (.bl true), [.ow (iv ns'), .un, .un]) := by
  have a := len_row hd
  have hne := List.length_pos_iff.mpr hx.ne
  have r1 : rangeD 0 ((xs.length : Int) - 1) = (List.range (xs.length - 1)).map fun i => D.int (i : Nat) := by
    rw [show ((xs.length : Int) - 1) = ((xs.length - 1 : Nat) : Int) by omega, range_iv]
  have h1 : (xs.length : Int) - 1 ≤ 1000000 := by have := hx.len; omega
  have h2 : (-1000000 : Int) ≤ (xs.length : Int) - 1 := by omega
  have q := fc_filter (α := Nat) (g := gRng1 (aCons (eBin dSub (eCV dLen 1) (eC (.int 1))) (aNil))) (h := hName 4) (t := tVal (eBin dGt (eIxVar 1 (eVar 4)) (eC (.int 0)))) (f := eVar 4) (vs := [4]) (fun i => D.int (i : Nat)) (fun i => D.int (i : Nat)) (fun i => decide (0 < at0 xs i)) (ρ := [.ow (iv ns), .sh d, .sh e, .un, .un, .un]) (ρ0 := [.ow (iv ns), .sh d, .sh e, .un, .un, .un]) (List.range (xs.length - 1))
    (by rw [← r1]; simp [a, h1, h2]) (by rw [List.length_range]; have := hx.len; omega) rfl (fun i hi => by
      have := List.mem_range.mp hi
      have k := ix_row hd (i := i) (by omega)
      refine ⟨[.ow (iv ns), .sh d, .sh e, .un, .sh (.int i), .un], rfl, ?_, rfl, rfl⟩
      simp [k])
  generalize hH : (List.range (xs.length - 1)).filter (fun i => decide (0 < at0 xs i)) = H at q
  cases H with
  | nil =>
    refine ⟨ns, ?_⟩
    simp at q
    simp [F_law_moved_holds, b_law_moved_holds, q]
  | cons i0 is =>
    obtain ⟨r, ns', t1, t2⟩ := take_eq ns ((((i0 :: is).map fun i => D.int (i : Nat)).length : Nat) : Int) (by simp)
    have t3 : r < (i0 :: is).length := by rw [List.length_map] at t2; omega
    obtain ⟨i, hi⟩ : ∃ i, (i0 :: is)[r]? = some i := ⟨_, List.getElem?_eq_getElem t3⟩
    have hm := List.mem_of_getElem? hi
    rw [← hH, List.mem_filter] at hm
    have hi1 := List.mem_range.mp hm.1
    have hi2 : 0 < at0 xs i := by simpa using hm.2
    have k1 : atI ((i0 :: is).map fun i => D.int (i : Nat)) r = some (.int i) := by
      unfold atI ixN
      rw [if_pos (by omega), if_pos (by rw [List.length_map]; omega)]
      show ((i0 :: is).map fun i => D.int (i : Nat))[(r : Int).toNat]? = _
      rw [Int.toNat_natCast, List.getElem?_map, hi]
      rfl
    have g := moved_gd hx (r := i) (by omega) hi2
    have L1 := lead_good (Row.lst (moved xs i)) he g hy (by unfold moved; rw [List.length_set, List.length_set, hl])
    have L2 := lead_good hd he hx hy hl
    have ml := moved_lead (ys := ys) hl (r := i) (by omega)
    have y1 := ix_row he (i := i) (by omega)
    have y2 := ix_row he (i := i + 1) (by omega)
    refine ⟨ns', ?_⟩
    have hQ : ((i0 :: is).map fun i => D.int (i : Nat)) ≠ [] := by simp
    have dl : dList [d] = some (iv xs) := by rcases hd with rfl | rfl <;> rfl
    have c1 : atI (iv xs) i = some (.int (at0 xs i)) := atI_iv xs i _ (at0_mem (by omega)).2
    have c2 : ixN xs.length i = some i := by unfold ixN; rw [if_pos (by omega), if_pos (by omega)]; rfl
    have c3 : ixN xs.length ((i : Int) + 1) = some (i + 1) := by unfold ixN; rw [if_pos (by omega), if_pos (by omega)]; rfl
    have s1 : (iv xs).set i (.int (at0 xs i - 1)) = iv (xs.set i (at0 xs i - 1)) := by simp [iv, List.map_set]
    have c4 : atI (iv (xs.set i (at0 xs i - 1))) ((i : Int) + 1) = some (.int (at0 xs (i + 1))) := by
      have := atI_iv (xs.set i (at0 xs i - 1)) (i + 1) (at0 xs (i + 1)) (by rw [List.getElem?_set_ne (by omega)]; exact (at0_mem (by omega)).2)
      exact this
    have s2 : (iv (xs.set i (at0 xs i - 1))).set (i + 1) (.int (at0 xs (i + 1) + 1)) = iv (moved xs i) := by simp [moved, iv, List.map_set]
    have y2' : dIx e (.int ((i : Int) + 1)) = some (.int (at0 ys (i + 1))) := y2
    have n1 : (iv xs).length = xs.length := iv_len xs
    have n2 : (iv (xs.set i (at0 xs i - 1))).length = xs.length := by rw [iv_len, List.length_set]
    generalize (i0 :: is).map (fun i => D.int (i : Nat)) = Q at *
    generalize iv (xs.set i (at0 xs i - 1)) = X2 at *
    generalize iv (moved xs i) = X3 at *
    generalize iv xs = X1 at *
    simp [F_law_moved_holds, b_law_moved_holds, q, hQ, t1, k1, dl, c1, c2, c3, c4, s1, s2, n1, n2, L1, L2, y1, y2', ml]
end KV
set_option Elab.async false
set_option linter.all false
set_option autoImplicit false
set_option maxRecDepth 100000
set_option maxHeartbeats 4000000
set_option exponentiation.threshold 100
namespace KV
open PySem PySem.Spec PyProof.Rows L2
theorem oneF_set {n r : Nat} (c : Int) (h : r < n) : oneF n r c = (List.replicate n 0).set r c := by
  apply List.ext_getElem?
  intro i
  unfold oneF
  rw [List.append_assoc, List.getElem?_append, List.length_replicate, List.getElem?_set, List.length_replicate]
  by_cases h1 : i < r
  · rw [if_pos h1, if_neg (by omega), List.getElem?_replicate, List.getElem?_replicate, if_pos h1, if_pos (by omega)]
  · rw [if_neg h1]
    by_cases h2 : r = i
    · subst h2
      rw [if_pos rfl, if_pos h, Nat.sub_self]
      rfl
    · rw [if_neg h2, List.getElem?_append, if_neg (by simp; omega), List.getElem?_replicate, List.getElem?_replicate]
      simp only [List.length_singleton]
      by_cases h3 : i < n
      · rw [if_pos h3, if_pos (by omega)]
      · rw [if_neg h3, if_neg (by omega)]
theorem oneF_map {n r : Nat} (c : Int) (h : r < n) : (List.range n).map (fun j : Nat => c * (if decide ((j : Int) = r) = true then 1 else 0)) = oneF n r c := by
  rw [oneF_set c h]
  apply List.ext_getElem?
  intro i
  rw [List.getElem?_map, List.getElem?_set, List.length_replicate]
  by_cases h1 : i < n
  · rw [List.getElem?_range h1]
    by_cases h2 : r = i
    · subst h2
      simp [h1]
    · have h3 : ¬ (i : Int) = r := by omega
      simp [h1, h2, h3]
  · rw [List.getElem?_eq_none (by rw [List.length_range]; omega), if_neg (by omega), List.getElem?_eq_none (by rw [List.length_replicate]; omega)]
    rfl
theorem dot_zero (n : Nat) (zs : List Int) : dot (List.replicate n 0) zs = 0 := by
  induction n generalizing zs with
  | zero => cases zs <;> rfl
  | succ n ih => cases zs with
    | nil => rfl
    | cons z zs => rw [List.replicate_succ, dot_cons, ih zs]; omega
theorem sum_zeros (n : Nat) : (List.replicate n (0 : Int)).sum = 0 := sum_zero fun x hx => by
  rw [(List.mem_replicate.mp hx).2]
  omega
theorem at0_zeros (n r : Nat) : at0 (List.replicate n 0) r = 0 := by
  unfold at0
  rw [List.getElem?_replicate]
  split <;> rfl
theorem oneF_gd {n r : Nat} {c : Int} (h : r < n) (hn : n ≤ 400) (hc : 1 ≤ c) (hb : c ≤ 100) : Gd (oneF n r c) := by
  have hs : (oneF n r c).sum = c := by rw [oneF_set c h, sum_set _ (by simpa using h), sum_zeros, at0_zeros]; omega
  have hl : (oneF n r c).length = n := by rw [oneF_set c h, List.length_set, List.length_replicate]
  refine ⟨⟨fun e => ?_, fun y hy => ?_, by rw [hs]; omega⟩, ?_, by rw [hl]; exact hn⟩
  · rw [e] at hl
    simp at hl
    omega
  · rw [oneF_set c h] at hy
    rcases mem_set hy with z | rfl
    · rw [(List.mem_replicate.mp z).2]
      omega
    · omega
  · rw [hs]
    exact (show Bd c 7 by unfold Bd; have : (2 : Nat) ^ 7 = 128 := rfl; omega).mono (by omega)
theorem oneF_len {n r : Nat} {c : Int} (h : r < n) : (oneF n r c).length = n := by rw [oneF_set c h, List.length_set, List.length_replicate]
theorem oneF_lead {xs : List Int} {r : Nat} (c : Int) (h : r < xs.length) : Wn 0 xs (oneF xs.length r c) - Wn 0 (oneF xs.length r c) xs = c * (xs.sum - pre xs r - pre xs (r + 1)) := by
  have e := lead_eq (oneF xs.length r c) xs (oneF_len h)
  rw [oneF_set c h, dot_set c (by simpa using h) (by rw [rl_len]; exact h), dot_zero, at0_zeros, rl_at _ _ _ _ h, ← oneF_set c h] at e
  grind
theorem single_holds {d : D} {xs : List Int} (hd : Row d xs) (hx : Gd xs) (ns : List Int) : ∃ ns' : List Int, F_law_single_holds [.ow (iv ns), .sh d] = .ok (.sh (.bl true), [.ow (iv ns'), .un]) := by
  have a := len_row hd
  have sx := dSum_row hd
  have hne := List.length_pos_iff.mpr hx.ne
  have hle := hx.len
  obtain ⟨r, ns1, t1, u1⟩ := take_eq ns xs.length (by omega)
  obtain ⟨c, ns2, t2, u2⟩ := take_eq ns1 5 (by omega)
  obtain ⟨g, ns3, t3, u3⟩ := take_eq ns2 ((xs.length : Int) + 1) (by omega)
  have hr : r < xs.length := by omega
  have m := one_faced_eq (n := xs.length) (r := r) (c := 1 + (c : Int)) (by omega) hr (by omega)
  have b1 := below_eq (n := g) hd hx.toDie (by omega)
  have b2 := below_eq (n := r) hd hx.toDie (by omega)
  have b3 := below_eq (n := r + 1) hd hx.toDie (by omega)
  have L := lead_good hd (Row.tup (oneF xs.length r (1 + c))) hx (oneF_gd hr (by omega) (by omega) (by omega)) (oneF_len hr).symm
  rw [oneF_lead _ hr] at L
  have h1 : (xs.length : Int) ≤ 1000000 := by omega
  have h2 : (-1000000 : Int) ≤ xs.length := by omega
  have q := fc_map (α := Nat) (g := gRng1 (aCons (eVar 2) (aNil))) (h := hName 8) (f := eBin dMul (eVar 4) (eCB dInt (aCons (eBin dEq (eVar 8) (eVar 3)) (aNil)))) (vs := [8]) (fun i => D.int (i : Nat)) (fun j => D.int ((1 + (c : Int)) * (if decide ((j : Int) = r) = true then 1 else 0))) (ρ := [.ow (iv ns2), .sh d, .sh (.int xs.length), .sh (.int r), .sh (.int (1 + (c : Int))), .sh (.tup (iv (oneF xs.length r (1 + c)))), .un, .un, .un]) (ρ0 := [.ow (iv ns2), .sh d, .sh (.int xs.length), .sh (.int r), .sh (.int (1 + (c : Int))), .sh (.tup (iv (oneF xs.length r (1 + c)))), .un, .un, .un]) (List.range xs.length)
    (by rw [← range_iv]; simp [h1, h2]) (by rw [List.length_range]; omega) rfl (fun j hj => by
      refine ⟨[.ow (iv ns2), .sh d, .sh (.int xs.length), .sh (.int r), .sh (.int (1 + (c : Int))), .sh (.tup (iv (oneF xs.length r (1 + c)))), .un, .un, .sh (.int j)], rfl, ?_, rfl⟩
      have := dMul_bd (i := 1 + (c : Int)) (j := if decide ((j : Int) = r) = true then 1 else 0) (m := 7) (n := 7) (by unfold Bd; have : (2 : Nat) ^ 7 = 128 := rfl; omega) (by unfold Bd; have : (2 : Nat) ^ 7 = 128 := rfl; split <;> omega) (by omega) (by omega)
      simp at this
      simp [this])
  have q2 : (List.range xs.length).map (fun j : Nat => D.int ((1 + (c : Int)) * (if decide ((j : Int) = r) = true then 1 else 0))) = iv (oneF xs.length r (1 + c)) := by
    rw [← oneF_map _ hr, iv, List.map_map]
    rfl
  rw [q2] at q
  have n1 := dNe_l (oneF xs.length r (1 + c)) (oneF xs.length r (1 + c))
  have dl : dList [.tup (iv (oneF xs.length r (1 + c)))] = some (iv (oneF xs.length r (1 + c))) := rfl
  have cg : cutD (iv xs) none (some (g : Int)) = iv (xs.take g) := by rw [cutD_take, iv_take]
  have s1 := dSum_l (xs.take g)
  have s2 := dSum_t (xs.take g)
  have dI : dIsi [.tup (iv (oneF xs.length r (1 + c))), .ty "tuple"] = some (.bl true) := rfl
  have bc : Bd (1 + (c : Int)) 7 := by unfold Bd; have : (2 : Nat) ^ 7 = 128 := rfl; omega
  have bS : Bd (xs.sum - pre xs r - pre xs (r + 1)) 402 := ((hx.bd.sub (pre_bd hx r)).sub ((pre_bd hx (r + 1)).mono (by omega))).mono (by omega)
  have mm := dMul_bd bc bS (by omega) (by omega)
  refine ⟨ns3, ?_⟩
  have b3' : F_below [.sh d, .sh (.int ((r : Int) + 1))] = .ok (.sh (.int (pre xs (r + 1))), [.un, .un]) := b3
  have b2' : F_below [.sh d, .sh (.int (r : Int))] = .ok (.sh (.int (pre xs r)), [.un, .un]) := b2
  generalize iv (oneF xs.length r (1 + c)) = O at *
  rcases hd with rfl | rfl <;>
  · simp [-List.map_take] at s1 s2 n1
    simp [-List.map_take, F_law_single_holds, b_law_single_holds, a, sx, t1, t2, t3, m, q, n1, dl, dI, b1, b2', b3', L, cg, s1, s2, mm]
end KV
set_option Elab.async false
set_option linter.all false
set_option autoImplicit false
set_option maxRecDepth 100000
set_option maxHeartbeats 4000000
set_option exponentiation.threshold 100
namespace KV
open PySem PySem.Spec PyProof.Rows L2
theorem fc_map' {α : Type} {g : FA} {h : HT'} {f : FE} {vs : List Nat} (u v : α → D) {ρ ρg ρ0 : Env} (xs : List α) (hg : g ρ = .ok (xs.map u, ρg)) (hl : xs.length ≤ 100000) (hw : wipeE ρg vs = ρ0) (hw2 : wipeE ρ0 vs = ρ0) (H : ∀ x ∈ xs, ∃ ρ1, h (u x) ρ0 = some ρ1 ∧ f ρ1 = .ok (v x, ρ1) ∧ wipeE ρ1 vs = ρ0) : fComp g h tYes2 f vs ρ = .ok (xs.map v, ρ0) := by
  unfold fComp
  rw [hg]
  simp only [bind_ok]
  rw [if_pos (by rw [List.length_map]; exact decide_eq_true hl), hw, cl_map h f vs u v ρ0 xs H]
  simp only [bind_ok, hw2]
@[simp] theorem dNotB_eq (a b : Bool) : dNotB (.bl a) (.bl b) = some (.bl (!decide (a = b))) := rfl
structure Gs (xs : List Int) : Prop extends Die xs where
  bd : Bd xs.sum 200
  len : xs.length ≤ 100
theorem Gs.gd {xs : List Int} (h : Gs xs) : Gd xs := ⟨h.toDie, h.bd.mono (by omega), by have := h.len; omega⟩
theorem scale_gd {xs : List Int} (h : Gs xs) {c : Int} (h1 : 1 ≤ c) (h2 : c ≤ 100) : Gd (xs.map (c * ·)) := by
  have bc : Bd c 7 := by unfold Bd; have : (2 : Nat) ^ 7 = 128 := rfl; omega
  refine ⟨⟨by simpa using h.ne, fun y hy => ?_, by rw [sum_map_mul]; exact Int.mul_pos (by omega) h.pos⟩, by rw [sum_map_mul]; exact (bc.mul h.bd).mono (by omega), by rw [List.length_map]; have := h.len; omega⟩
  obtain ⟨x, hx, rfl⟩ := List.mem_map.mp hy
  exact Int.mul_nonneg (by omega) (h.nn x hx)
theorem Wn_scale_r (c b : Int) (xs ys : List Int) : Wn (c * b) xs (ys.map (c * ·)) = c * Wn b xs ys := by
  induction xs generalizing ys b with
  | nil => simp [Wn]
  | cons x xs ih => cases ys with
    | nil => simp [Wn]
    | cons y ys =>
      show x * (c * b) + Wn (c * b + c * y) xs (ys.map (c * ·)) = c * (x * b + Wn (b + y) xs ys)
      rw [← Int.mul_add, ih]
      grind
theorem Wn_scale_l (c b : Int) (xs ys : List Int) : Wn b (xs.map (c * ·)) ys = c * Wn b xs ys := by
  induction xs generalizing ys b with
  | nil => simp [Wn]
  | cons x xs ih => cases ys with
    | nil => simp [Wn]
    | cons y ys =>
      show c * x * b + Wn (b + y) (xs.map (c * ·)) ys = c * (x * b + Wn (b + y) xs ys)
      rw [ih]
      grind
theorem Wn_scale0 (c : Int) (xs ys : List Int) : Wn 0 xs (ys.map (c * ·)) = c * Wn 0 xs ys := by
  have := Wn_scale_r c 0 xs ys
  rwa [Int.mul_zero] at this
theorem divisor_int {a x : Int} (ha : 0 ≤ a) (hx : 0 ≤ x) (hb : Bd x 1900) : F_law_divisor [.sh (.int a), .sh (.int x)] = .ok (.sh (.int ((Nat.gcd a.natAbs x.natAbs : Nat) : Int)), [.un, .un]) := by
  obtain ⟨m, rfl⟩ := Int.eq_ofNat_of_zero_le ha
  obtain ⟨n, rfl⟩ := Int.eq_ofNat_of_zero_le hx
  exact divisor_eq m n hb
abbrev cmBody : FS := (sSeq (sSet 8 (eVal (cCall F_law_divisor 2 (arV (eVar 8) (arV (eVar 9) (arNil)))))) (sNil))
theorem cm_loop (s0 s1 s2 s3 s4 s5 s6 s7 s10 : Sl) : ∀ (xs : List Int) (a : Int) (s9 : Sl), 0 ≤ a → (∀ x ∈ xs, 0 ≤ x ∧ Bd x 1900) → ∃ t, sLoop (hName 9) cmBody (iv xs) [s0, s1, s2, s3, s4, s5, s6, s7, .sh (.int a), s9, s10] = .ok (.nx [s0, s1, s2, s3, s4, s5, s6, s7, .sh (.int (cdiv a xs)), t, s10])
  | [], a, s9, _, _ => ⟨s9, rfl⟩
  | x :: xs, a, s9, ha, h => by
    obtain ⟨h1, h2⟩ := h x List.mem_cons_self
    obtain ⟨t, q⟩ := cm_loop s0 s1 s2 s3 s4 s5 s6 s7 s10 xs _ (.sh (.int x)) (Int.natCast_nonneg (Nat.gcd a.natAbs x.natAbs)) fun y hy => h y (List.mem_cons_of_mem _ hy)
    refine ⟨t, ?_⟩
    have e := divisor_int ha h1 h2
    simp only [iv, List.map_cons, sLoop]
    simp [e] at q ⊢
    exact q
theorem like_holds {d e : D} {xs ys : List Int} (hd : Row d xs) (he : Row e ys) (hx : Gs xs) (hy : Gs ys) (hl : xs.length = ys.length) (ns : List Int) : ∃ ns' : List Int, F_law_like_holds [.ow (iv ns), .sh d, .sh e] = .ok (.sh (.bl true), [.ow (iv ns'), .un, .un]) := by
  obtain ⟨b, ns1, t1, u1⟩ := take_eq ns 5 (by omega)
  obtain ⟨c, ns2, t2, u2⟩ := take_eq ns1 4 (by omega)
  generalize hB : 1 + (b : Int) = B
  generalize hC : 1 + (c : Int) = C
  have gx := scale_gd hx (c := B) (by omega) (by omega)
  have gy := scale_gd hy (c := C) (by omega) (by omega)
  have bB : Bd B 7 := by unfold Bd; have : (2 : Nat) ^ 7 = 128 := rfl; omega
  have bC : Bd C 7 := by unfold Bd; have : (2 : Nat) ^ 7 = 128 := rfl; omega
  have q1 := fc_map (α := Int) (g := gSeq (eVar 1)) (h := hName 9) (f := eBin dMul (eVar 3) (eVar 9)) (vs := [9]) D.int (fun x => D.int (B * x)) (ρ := [.ow (iv ns2), .sh d, .sh e, .sh (.int B), .sh (.int C), .un, .un, .un, .un, .un, .un]) (ρ0 := [.ow (iv ns2), .sh d, .sh e, .sh (.int B), .sh (.int C), .un, .un, .un, .un, .un, .un]) xs
    (by simp [hd.items]) (by have := hx.len; omega) rfl (fun x hx' => by
      refine ⟨[.ow (iv ns2), .sh d, .sh e, .sh (.int B), .sh (.int C), .un, .un, .un, .un, .sh (.int x), .un], rfl, ?_, rfl⟩
      have := dMul_bd bB (hx.gd.mem x hx') (by omega) (by omega)
      simp [this])
  rw [show xs.map (fun x => D.int (B * x)) = iv (xs.map (B * ·)) by rw [iv, List.map_map]; rfl] at q1
  have q2 := fc_map (α := Int) (g := gSeq (eVar 2)) (h := hName 9) (f := eBin dMul (eVar 4) (eVar 9)) (vs := [9]) D.int (fun x => D.int (C * x)) (ρ := [.ow (iv ns2), .sh d, .sh e, .sh (.int B), .sh (.int C), .ow (iv (xs.map (B * ·))), .un, .un, .un, .un, .un]) (ρ0 := [.ow (iv ns2), .sh d, .sh e, .sh (.int B), .sh (.int C), .ow (iv (xs.map (B * ·))), .un, .un, .un, .un, .un]) ys
    (by simp [he.items]) (by have := hy.len; omega) rfl (fun x hx' => by
      refine ⟨[.ow (iv ns2), .sh d, .sh e, .sh (.int B), .sh (.int C), .ow (iv (xs.map (B * ·))), .un, .un, .un, .sh (.int x), .un], rfl, ?_, rfl⟩
      have := dMul_bd bC (hy.gd.mem x hx') (by omega) (by omega)
      simp [this])
  rw [show ys.map (fun x => D.int (C * x)) = iv (ys.map (C * ·)) by rw [iv, List.map_map]; rfl] at q2
  have e1 := is_like_eq hd he hx.gd hy.gd hl
  have e2 := law_like_eq hd he hx.gd hy.gd
  have e3 := is_like_eq (Row.lst (xs.map (B * ·))) hd gx hx.gd (by rw [List.length_map])
  have c3 : decide ((xs.map (B * ·)).map (xs.sum * ·) = xs.map ((xs.map (B * ·)).sum * ·)) = true := decide_eq_true (by
    rw [map_mul_mul, sum_map_mul]
    apply List.map_congr_left
    intro x _
    grind)
  rw [c3] at e3
  have e4 := lead_good hd (Row.lst (xs.map (B * ·))) hx.gd gx (by rw [List.length_map])
  rw [show Wn 0 xs (xs.map (B * ·)) - Wn 0 (xs.map (B * ·)) xs = 0 by rw [Wn_scale0, Wn_scale_l]; omega] at e4
  have e5 := lead_good (Row.lst (xs.map (B * ·))) (Row.lst (ys.map (C * ·))) gx gy (by rw [List.length_map, List.length_map, hl])
  rw [show Wn 0 (xs.map (B * ·)) (ys.map (C * ·)) - Wn 0 (ys.map (C * ·)) (xs.map (B * ·)) = B * C * (Wn 0 xs ys - Wn 0 ys xs) by rw [Wn_scale0, Wn_scale_l, Wn_scale0, Wn_scale_l]; grind] at e5
  have e6 := lead_good hd he hx.gd hy.gd hl
  have e7 := short_die_eq (Row.lst (xs.map (B * ·))) gx
  have sm := shorten_mul gx.toDie
  have cp := cdiv_pos gx.toDie
  have bcd : Bd (cdiv 0 (xs.map (B * ·))) 400 := gx.bd.le (by omega) cp.2
  have hsh : ∀ x ∈ shorten (xs.map (B * ·)), Bd x 1000 := fun x hx' => by
    have hm := List.mem_map_of_mem (f := (cdiv 0 (xs.map (B * ·)) * ·)) hx'
    rw [sm] at hm
    have k := gx.mem _ hm
    refine k.of_le ?_
    rw [Int.natAbs_mul]
    exact Nat.le_mul_of_pos_left _ (by omega)
  have hll : (shorten (xs.map (B * ·))).length = xs.length := by
    have := congrArg List.length sm
    rw [List.length_map, List.length_map] at this
    exact this
  have mBC := dMul_bd bB bC (by omega) (by omega)
  have bLd : Bd (Wn 0 xs ys - Wn 0 ys xs) 1000 := by
    have p := pairs xs ys hl
    have nW : 0 ≤ Wn 0 xs ys := Wn_nn (Int.le_refl _) hx.nn hy.nn
    have nL : 0 ≤ Wn 0 ys xs := Wn_nn (Int.le_refl _) hy.nn hx.nn
    have nT : 0 ≤ dot xs ys := dot_nn hx.nn hy.nn
    obtain ⟨_, bN⟩ := sum_pos_bd hx.gd hy.gd
    have b1 : Bd (Wn 0 xs ys) 800 := bN.le nW (by omega)
    have b2 : Bd (Wn 0 ys xs) 800 := bN.le nL (by omega)
    exact (b1.sub b2).mono (by omega)
  have mL := dMul_bd (bB.mul bC) bLd (by omega) (by omega)
  obtain ⟨t9, k⟩ := cm_loop (.ow (iv ns2)) (.sh d) (.sh e) (.sh (.int B)) (.sh (.int C)) (.sh (.lst (iv (xs.map (B * ·))))) (.sh (.lst (iv (ys.map (C * ·))))) (.sh (.bl (decide (xs.map (ys.sum * ·) = ys.map (xs.sum * ·))))) .un (xs.map (B * ·)) 0 .un (Int.le_refl _) fun x hx' => ⟨gx.nn x hx', (gx.mem x hx').mono (by omega)⟩
  have q3 := fc_map' (α := Int) (g := gSeq (eVar 10)) (h := hName 9) (f := eBin dMul (eVar 8) (eVar 9)) (vs := [9]) D.int (fun x => D.int (cdiv 0 (xs.map (B * ·)) * x)) (ρ := [.ow (iv ns2), .sh d, .sh e, .sh (.int B), .sh (.int C), .sh (.lst (iv (xs.map (B * ·)))), .sh (.lst (iv (ys.map (C * ·)))), .sh (.bl (decide (xs.map (ys.sum * ·) = ys.map (xs.sum * ·)))), .sh (.int (cdiv 0 (xs.map (B * ·)))), t9, .sh (.tup (iv (shorten (xs.map (B * ·)))))]) (ρg := [.ow (iv ns2), .sh d, .sh e, .sh (.int B), .sh (.int C), .sh (.lst (iv (xs.map (B * ·)))), .sh (.lst (iv (ys.map (C * ·)))), .sh (.bl (decide (xs.map (ys.sum * ·) = ys.map (xs.sum * ·)))), .sh (.int (cdiv 0 (xs.map (B * ·)))), t9, .sh (.tup (iv (shorten (xs.map (B * ·)))))]) (ρ0 := [.ow (iv ns2), .sh d, .sh e, .sh (.int B), .sh (.int C), .sh (.lst (iv (xs.map (B * ·)))), .sh (.lst (iv (ys.map (C * ·)))), .sh (.bl (decide (xs.map (ys.sum * ·) = ys.map (xs.sum * ·)))), .sh (.int (cdiv 0 (xs.map (B * ·)))), .un, .sh (.tup (iv (shorten (xs.map (B * ·)))))]) (shorten (xs.map (B * ·)))
    rfl (by have := hx.len; omega) rfl rfl (fun x hx' => by
      refine ⟨[.ow (iv ns2), .sh d, .sh e, .sh (.int B), .sh (.int C), .sh (.lst (iv (xs.map (B * ·)))), .sh (.lst (iv (ys.map (C * ·)))), .sh (.bl (decide (xs.map (ys.sum * ·) = ys.map (xs.sum * ·)))), .sh (.int (cdiv 0 (xs.map (B * ·)))), .sh (.int x), .sh (.tup (iv (shorten (xs.map (B * ·)))))], rfl, ?_, rfl⟩
      have := dMul_bd bcd (hsh x hx') (by omega) (by omega)
      simp [this])
  refine ⟨ns2, ?_⟩
  rw [show (shorten (xs.map (B * ·))).map (fun x => D.int (cdiv 0 (xs.map (B * ·)) * x)) = iv (xs.map (B * ·)) by
    conv => rhs; rw [← sm]
    rw [iv, List.map_map]
    rfl] at q3
  have n1 := dEq_l (xs.map (B * ·)) (xs.map (B * ·))
  have dI : dIsi [.tup (iv (shorten (xs.map (B * ·)))), .ty "tuple"] = some (.bl true) := rfl
  have dB : dIsi [.bl (decide (xs.map (ys.sum * ·) = ys.map (xs.sum * ·))), .ty "bool"] = some (.bl true) := rfl
  have it : itemsOf (.lst (iv (xs.map (B * ·)))) = some (iv (xs.map (B * ·))) := rfl
  unfold cmBody at k
  clear sm hll hsh cp bcd c3 gx gy
  generalize decide (xs.map (ys.sum * ·) = ys.map (xs.sum * ·)) = LK at *
  generalize cdiv 0 (xs.map (B * ·)) = CD at *
  generalize iv (shorten (xs.map (B * ·))) = SH at *
  simp only [decide_true] at n1
  generalize iv (xs.map (B * ·)) = G at *
  generalize iv (ys.map (C * ·)) = W at *
  generalize Wn 0 xs ys - Wn 0 ys xs = LD at *
  simp [F_law_like_holds, b_law_like_holds, t1, t2, hB, hC, q1, q2, e1, e2, e3, e4, e5, e6, mBC, mL, dEq_bl, dNe_bl, dI, dB, k, e7, q3, n1]
end KV
set_option Elab.async false
set_option linter.all false
set_option autoImplicit false
set_option maxRecDepth 100000
set_option maxHeartbeats 4000000
set_option exponentiation.threshold 100
namespace KV
open PySem PySem.Spec PyProof.Rows L2
theorem mix_wn_r (a b c : Int) : ∀ (us xs ys zs : List Int) (p q r : Int), us.length = xs.length → us.length = ys.length → us.length = zs.length → Wn (a * p + (b * q + c * r)) us (mix3 a b c xs ys zs) = a * Wn p us xs + (b * Wn q us ys + c * Wn r us zs)
  | [], [], [], [], p, q, r, _, _, _ => by simp [mix3, Wn]
  | u :: us, x :: xs, y :: ys, z :: zs, p, q, r, h1, h2, h3 => by
    have e := mix_wn_r a b c us xs ys zs (p + x) (q + y) (r + z) (by simpa using h1) (by simpa using h2) (by simpa using h3)
    simp only [mix3, Wn]
    rw [show a * p + (b * q + c * r) + (a * x + (b * y + c * z)) = a * (p + x) + (b * (q + y) + c * (r + z)) by grind, e]
    grind
  | [], _ :: _, _, _, _, _, _, h1, _, _ => by cases h1
  | [], [], _ :: _, _, _, _, _, _, h2, _ => by cases h2
  | [], [], [], _ :: _, _, _, _, _, _, h3 => by cases h3
  | _ :: _, [], _, _, _, _, _, h1, _, _ => by cases h1
  | _ :: _, _ :: _, [], _, _, _, _, _, h2, _ => by cases h2
  | _ :: _, _ :: _, _ :: _, [], _, _, _, _, _, h3 => by cases h3
theorem mix_wn_l (a b c : Int) : ∀ (us xs ys zs : List Int) (p : Int), us.length = xs.length → us.length = ys.length → us.length = zs.length → Wn p (mix3 a b c xs ys zs) us = a * Wn p xs us + (b * Wn p ys us + c * Wn p zs us)
  | [], [], [], [], p, _, _, _ => by simp [mix3, Wn]
  | u :: us, x :: xs, y :: ys, z :: zs, p, h1, h2, h3 => by
    have e := mix_wn_l a b c us xs ys zs (p + u) (by simpa using h1) (by simpa using h2) (by simpa using h3)
    simp only [mix3, Wn]
    rw [e]
    grind
  | [], _ :: _, _, _, _, h1, _, _ => by cases h1
  | [], [], _ :: _, _, _, _, h2, _ => by cases h2
  | [], [], [], _ :: _, _, _, _, h3 => by cases h3
  | _ :: _, [], _, _, _, h1, _, _ => by cases h1
  | _ :: _, _ :: _, [], _, _, _, h2, _ => by cases h2
  | _ :: _, _ :: _, _ :: _, [], _, _, _, h3 => by cases h3
theorem mix_sum (a b c : Int) : ∀ (xs ys zs : List Int), xs.length = ys.length → xs.length = zs.length → (mix3 a b c xs ys zs).sum = a * xs.sum + (b * ys.sum + c * zs.sum)
  | [], [], [], _, _ => by simp [mix3]
  | x :: xs, y :: ys, z :: zs, h1, h2 => by
    have e := mix_sum a b c xs ys zs (by simpa using h1) (by simpa using h2)
    simp only [mix3, List.sum_cons]
    rw [e]
    grind
  | [], _ :: _, _, h1, _ => by cases h1
  | [], [], _ :: _, _, h2 => by cases h2
  | _ :: _, [], _, h1, _ => by cases h1
  | _ :: _, _ :: _, [], _, h2 => by cases h2
theorem mix_nn {a b c : Int} (ha : 0 ≤ a) (hb : 0 ≤ b) (hc : 0 ≤ c) : ∀ (xs ys zs : List Int), (∀ x ∈ xs, 0 ≤ x) → (∀ x ∈ ys, 0 ≤ x) → (∀ x ∈ zs, 0 ≤ x) → ∀ m ∈ mix3 a b c xs ys zs, 0 ≤ m
  | x :: xs, y :: ys, z :: zs, h1, h2, h3, m, hm => by
    rcases List.mem_cons.mp (show m ∈ (a * x + (b * y + c * z)) :: mix3 a b c xs ys zs from hm) with rfl | k
    · have := Int.mul_nonneg ha (h1 x List.mem_cons_self)
      have := Int.mul_nonneg hb (h2 y List.mem_cons_self)
      have := Int.mul_nonneg hc (h3 z List.mem_cons_self)
      omega
    · exact mix_nn ha hb hc xs ys zs (fun u hu => h1 u (List.mem_cons_of_mem _ hu)) (fun u hu => h2 u (List.mem_cons_of_mem _ hu)) (fun u hu => h3 u (List.mem_cons_of_mem _ hu)) m k
  | [], _, _, _, _, _, m, hm => by simp [mix3] at hm
  | _ :: _, [], _, _, _, _, m, hm => by simp [mix3] at hm
  | _ :: _, _ :: _, [], _, _, _, m, hm => by simp [mix3] at hm
theorem mix_at (a b c : Int) : ∀ (xs ys zs : List Int) (i : Nat), xs.length = ys.length → xs.length = zs.length → i < xs.length → at0 (mix3 a b c xs ys zs) i = a * at0 xs i + (b * at0 ys i + c * at0 zs i)
  | x :: xs, y :: ys, z :: zs, i, h1, h2, h => by
    cases i with
    | zero => simp [mix3, at0]
    | succ i => exact mix_at a b c xs ys zs i (by simpa using h1) (by simpa using h2) (by simpa using h)
  | [], _, _, i, _, _, h => by simp at h
  | _ :: _, [], _, _, h1, _, _ => by cases h1
  | _ :: _, _ :: _, [], _, _, h2, _ => by cases h2
theorem mix_gd {a b c : Int} {xs ys zs : List Int} (hx : Gs xs) (hy : Gs ys) (hz : Gs zs) (l1 : xs.length = ys.length) (l2 : xs.length = zs.length) (ha : 0 ≤ a ∧ a ≤ 9) (hb : 0 ≤ b ∧ b ≤ 9) (hc : 0 ≤ c ∧ c ≤ 9) (hp : a + b + c ≠ 0) : Gd (mix3 a b c xs ys zs) := by
  have bd9 : ∀ {i : Int}, 0 ≤ i ∧ i ≤ 9 → Bd i 4 := fun {i} hi => by unfold Bd; have : (2 : Nat) ^ 4 = 16 := rfl; omega
  have hs := mix_sum a b c xs ys zs l1 l2
  have hl := mix3_len a b c l1 l2
  have p1 := Int.mul_nonneg ha.1 (Int.le_of_lt hx.pos)
  have p2 := Int.mul_nonneg hb.1 (Int.le_of_lt hy.pos)
  have p3 := Int.mul_nonneg hc.1 (Int.le_of_lt hz.pos)
  have hpos : 0 < (mix3 a b c xs ys zs).sum := by
    rw [hs]
    have h3 : 0 < a ∨ 0 < b ∨ 0 < c := by omega
    rcases h3 with h | h | h
    · have := Int.mul_pos h hx.pos
      omega
    · have := Int.mul_pos h hy.pos
      omega
    · have := Int.mul_pos h hz.pos
      omega
  refine ⟨⟨fun e => ?_, mix_nn ha.1 hb.1 hc.1 _ _ _ hx.nn hy.nn hz.nn, hpos⟩, ?_, by rw [hl]; have := hx.len; omega⟩
  · rw [e] at hpos
    simp at hpos
  · rw [hs]
    exact ((((bd9 ha).mul hx.bd).mono (show 4 + 200 ≤ 300 by omega)).add ((((bd9 hb).mul hy.bd).add ((bd9 hc).mul hz.bd)).mono (by omega))).mono (by omega)
end KV
set_option Elab.async false
set_option linter.all false
set_option autoImplicit false
set_option maxRecDepth 100000
set_option maxHeartbeats 4000000
set_option exponentiation.threshold 100
namespace KV
open PySem PySem.Spec PyProof.Rows L2
theorem lead_bd {xs ys : List Int} (hx : Gd xs) (hy : Gd ys) (hl : xs.length = ys.length) : Bd (Wn 0 xs ys - Wn 0 ys xs) 1000 := by
  have p := pairs xs ys hl
  have nW : 0 ≤ Wn 0 xs ys := Wn_nn (Int.le_refl _) hx.nn hy.nn
  have nL : 0 ≤ Wn 0 ys xs := Wn_nn (Int.le_refl _) hy.nn hx.nn
  have nT : 0 ≤ dot xs ys := dot_nn hx.nn hy.nn
  obtain ⟨_, bN⟩ := sum_pos_bd hx hy
  have b1 : Bd (Wn 0 xs ys) 800 := bN.le nW (by omega)
  have b2 : Bd (Wn 0 ys xs) 800 := bN.le nL (by omega)
  exact (b1.sub b2).mono (by omega)
theorem bd9 {i : Int} (hi : 0 ≤ i ∧ i ≤ 9) : Bd i 4 := by unfold Bd; have : (2 : Nat) ^ 4 = 16 := rfl; omega
abbrev mxB1 : FS := (sSeq (sIf (tOr2 (tNot2 (tVal (eVal (cCall F_law_int 1 (arV (eIxVar 4 (eVar 5)) (arNil)))))) (tVal (eBin dNe (eIxVar 4 (eVar 5)) (eCB dSum (aCons (eFrz (fComp (gRng1 (aCons (eC (.int 3)) (aNil))) (hName 7) (tYes2) (eBin dMul (eIxVar 2 (eVar 7)) (eBin dIx (eIxVar 1 (eVar 7)) (eVar 5))) [7])) (aNil)))))) (sSeq (sRet (eC (.bl false))) (sNil)) (sNil)) (sNil))
abbrev mxB2 : FS := (sSeq (sIf (tVal (eBin dNe (eVal (cCall F_lead 2 (arV (eVar 6) (arV (eVar 4) (arNil))))) (eCB dSum (aCons (eFrz (fComp (gRng1 (aCons (eC (.int 3)) (aNil))) (hName 7) (tYes2) (eBin dMul (eIxVar 2 (eVar 7)) (eVal (cCall F_lead 2 (arV (eVar 6) (arV (eIxVar 1 (eVar 7)) (arNil)))))) [7])) (aNil))))) (sSeq (sRet (eC (.bl false))) (sNil)) (sNil)) (sNil))
section
variable {a b c : Int} {xs ys zs : List Int} (hx : Gs xs) (hy : Gs ys) (hz : Gs zs) (l1 : xs.length = ys.length) (l2 : xs.length = zs.length) (ha : 0 ≤ a ∧ a ≤ 9) (hb : 0 ≤ b ∧ b ≤ 9) (hc : 0 ≤ c ∧ c ≤ 9)
include hx hy hz l1 l2 ha hb hc
theorem mx1_step (s0 s3 s6 : Sl) (j : Nat) (hj : j < xs.length) : mxB1 [s0, .sh (.lst [.lst (iv xs), .lst (iv ys), .lst (iv zs)]), .sh (.lst [.int a, .int b, .int c]), s3, .sh (.tup (iv (mix3 a b c xs ys zs))), .sh (.int j), s6, .un] = .ok (.nx [s0, .sh (.lst [.lst (iv xs), .lst (iv ys), .lst (iv zs)]), .sh (.lst [.int a, .int b, .int c]), s3, .sh (.tup (iv (mix3 a b c xs ys zs))), .sh (.int j), s6, .un]) := by
  have i0 := ix_row (Row.tup (mix3 a b c xs ys zs)) (i := j) (by rw [mix3_len a b c l1 l2]; exact hj)
  rw [mix_at a b c xs ys zs j l1 l2 hj] at i0
  have i1 := ix_row (Row.lst xs) (i := j) hj
  have i2 := ix_row (Row.lst ys) (i := j) (by omega)
  have i3 := ix_row (Row.lst zs) (i := j) (by omega)
  have m1 := dMul_bd (bd9 ha) (hx.gd.mem _ (at0_mem hj).1) (by omega) (by omega)
  have m2 := dMul_bd (bd9 hb) (hy.gd.mem _ (at0_mem (i := j) (xs := ys) (by omega)).1) (by omega) (by omega)
  have m3 := dMul_bd (bd9 hc) (hz.gd.mem _ (at0_mem (i := j) (xs := zs) (by omega)).1) (by omega) (by omega)
  have s := dSum_l [a * at0 xs j, b * at0 ys j, c * at0 zs j]
  have r3 : rangeD 0 3 = [.int 0, .int 1, .int 2] := rfl
  simp at s
  generalize iv (mix3 a b c xs ys zs) = M at *
  generalize iv xs = X at *
  generalize iv ys = Y at *
  generalize iv zs = Z at *
  simp [mxB1, i0, fComp, cLoop, noEr, tYes2, r3, i1, i2, i3, m1, m2, m3, s]
theorem mx1_loop (s0 s3 s6 : Sl) : ∀ (js : List Nat) (s5 : Sl), (∀ j ∈ js, j < xs.length) → ∃ t5, sLoop (hName 5) mxB1 (js.map fun i => D.int (i : Nat)) [s0, .sh (.lst [.lst (iv xs), .lst (iv ys), .lst (iv zs)]), .sh (.lst [.int a, .int b, .int c]), s3, .sh (.tup (iv (mix3 a b c xs ys zs))), s5, s6, .un] = .ok (.nx [s0, .sh (.lst [.lst (iv xs), .lst (iv ys), .lst (iv zs)]), .sh (.lst [.int a, .int b, .int c]), s3, .sh (.tup (iv (mix3 a b c xs ys zs))), t5, s6, .un])
  | [], s5, _ => ⟨s5, rfl⟩
  | j :: js, s5, h => by
    have q := mx1_step hx hy hz l1 l2 ha hb hc s0 s3 s6 j (h j List.mem_cons_self)
    obtain ⟨t5, k⟩ := mx1_loop s0 s3 s6 js (.sh (.int j)) fun i hi => h i (List.mem_cons_of_mem _ hi)
    refine ⟨t5, ?_⟩
    have e0 : hName 5 (D.int j) [s0, .sh (.lst [.lst (iv xs), .lst (iv ys), .lst (iv zs)]), .sh (.lst [.int a, .int b, .int c]), s3, .sh (.tup (iv (mix3 a b c xs ys zs))), s5, s6, .un] = some [s0, .sh (.lst [.lst (iv xs), .lst (iv ys), .lst (iv zs)]), .sh (.lst [.int a, .int b, .int c]), s3, .sh (.tup (iv (mix3 a b c xs ys zs))), .sh (.int j), s6, .un] := rfl
    simp only [List.map_cons, sLoop, e0, q, bind_ok, k]
theorem mx2_step (hp : a + b + c ≠ 0) (s0 s3 s5 : Sl) {us : List Int} (hu : Gs us) (h1 : us.length = xs.length) : mxB2 [s0, .sh (.lst [.lst (iv xs), .lst (iv ys), .lst (iv zs)]), .sh (.lst [.int a, .int b, .int c]), s3, .sh (.tup (iv (mix3 a b c xs ys zs))), s5, .sh (.lst (iv us)), .un] = .ok (.nx [s0, .sh (.lst [.lst (iv xs), .lst (iv ys), .lst (iv zs)]), .sh (.lst [.int a, .int b, .int c]), s3, .sh (.tup (iv (mix3 a b c xs ys zs))), s5, .sh (.lst (iv us)), .un]) := by
  have L0 := lead_good (Row.lst us) (Row.tup (mix3 a b c xs ys zs)) hu.gd (mix_gd hx hy hz l1 l2 ha hb hc hp) (by rw [mix3_len a b c l1 l2, h1])
  have L1 := lead_good (Row.lst us) (Row.lst xs) hu.gd hx.gd h1
  have L2 := lead_good (Row.lst us) (Row.lst ys) hu.gd hy.gd (by omega)
  have L3 := lead_good (Row.lst us) (Row.lst zs) hu.gd hz.gd (by omega)
  have b1 := lead_bd hu.gd hx.gd h1
  have b2 := lead_bd (ys := ys) hu.gd hy.gd (by omega)
  have b3 := lead_bd (ys := zs) hu.gd hz.gd (by omega)
  have w1 := mix_wn_r a b c us xs ys zs 0 0 0 h1 (by omega) (by omega)
  have w2 := mix_wn_l a b c us xs ys zs 0 h1 (by omega) (by omega)
  rw [Int.mul_zero, Int.mul_zero, Int.mul_zero, Int.add_zero, Int.add_zero] at w1
  rw [w1, w2, show a * Wn 0 us xs + (b * Wn 0 us ys + c * Wn 0 us zs) - (a * Wn 0 xs us + (b * Wn 0 ys us + c * Wn 0 zs us)) = a * (Wn 0 us xs - Wn 0 xs us) + (b * (Wn 0 us ys - Wn 0 ys us) + c * (Wn 0 us zs - Wn 0 zs us)) by grind] at L0
  generalize Wn 0 us xs - Wn 0 xs us = P at *
  generalize Wn 0 us ys - Wn 0 ys us = Q at *
  generalize Wn 0 us zs - Wn 0 zs us = R at *
  have m1 := dMul_bd (bd9 ha) b1 (by omega) (by omega)
  have m2 := dMul_bd (bd9 hb) b2 (by omega) (by omega)
  have m3 := dMul_bd (bd9 hc) b3 (by omega) (by omega)
  have s := dSum_l [a * P, b * Q, c * R]
  have r3 : rangeD 0 3 = [.int 0, .int 1, .int 2] := rfl
  simp at s
  generalize iv (mix3 a b c xs ys zs) = M at *
  generalize iv xs = X at *
  generalize iv ys = Y at *
  generalize iv zs = Z at *
  generalize iv us = U at *
  simp [mxB2, L0, fComp, cLoop, noEr, tYes2, r3, L1, L2, L3, m1, m2, m3, s]
end
end KV
set_option Elab.async false
set_option linter.all false
set_option autoImplicit false
set_option maxRecDepth 100000
set_option maxHeartbeats 4000000
set_option exponentiation.threshold 100
namespace KV
open PySem PySem.Spec PyProof.Rows L2
abbrev CL9 : List (Str × List El) := [("BadDie", [.st "die", .fl "place", .isc "OtherSize"]), ("BadNumber", [.st "number", .fl "name"]), ("BadWeights", [.st "weights", .fl "place"]), ("OtherSize", [.st "size", .fl "first", .fl "second"]), ("DiceError", [.st "other"])]
abbrev CL2 : List (Str × List El) := [("BadNumber", [.st "number", .fl "name"]), ("DiceError", [.st "other"])]
/-- what is told of an error -/
def Tells (cl : List (Str × List El)) (er : Er) (ds : List D) : Prop := xsE.contains er.cls = true ∧ ∃ els, pickC sbE er cl = some els ∧ elDs sbE er els = some ds ∧ ds.length ≤ 100
theorem tells_die (d : D) : Tells CL9 ⟨"BadDie", [("place", d)]⟩ [.str "die", d, .bl false] := ⟨(by show xsE.contains ("BadDie" : Str) = true; decide +kernel), _, rfl, rfl, by simp⟩
theorem tells_num (s : Str) : Tells CL9 ⟨"BadNumber", [("name", .str s)]⟩ [.str "number", .str s] := ⟨(by show xsE.contains ("BadNumber" : Str) = true; decide +kernel), _, rfl, rfl, by simp⟩
theorem tells_wts (d : D) : Tells CL9 ⟨"BadWeights", [("place", d)]⟩ [.str "weights", d] := ⟨(by show xsE.contains ("BadWeights" : Str) = true; decide +kernel), _, rfl, rfl, by simp⟩
theorem tells_size (c d : D) : Tells CL9 ⟨"OtherSize", [("second", d), ("first", c)]⟩ [.str "size", c, d] := ⟨(by show xsE.contains ("OtherSize" : Str) = true; decide +kernel), _, rfl, rfl, by simp⟩
theorem tells_num2 (s : Str) : Tells CL2 ⟨"BadNumber", [("name", .str s)]⟩ [.str "number", .str s] := ⟨(by show xsE.contains ("BadNumber" : Str) = true; decide +kernel), _, rfl, rfl, by simp⟩
theorem try_tells {cl : List (Str × List El)} {er : Er} {ds : List D} (T : Tells cl er ds) {body : FS} {ρ ρ' : Env} {i j : Nat} (h : body ρ = .er er ρ') (hi : ρ'[i]? = some .un) (hj : j < ρ'.length) : sTry xsE sbE body i j cl ρ = .ok (.nx (ρ'.set j (.ow ds))) := by
  obtain ⟨c1, els, c2, c3, c4⟩ := T
  have hl : i < ρ'.length := by
    by_cases k : i < ρ'.length
    · exact k
    · rw [List.getElem?_eq_none (by omega)] at hi
      cases hi
  unfold sTry
  rw [h]
  show (if (xsE.contains er.cls && decide (i < ρ'.length)) = true then _ else _) = _
  rw [c1, decide_eq_true hl, Bool.and_true, if_pos rfl, c2]
  simp only [hi, c3]
  show (if decide (j < ρ'.length) && decide (ds.length ≤ 100) then Out.ok (Fl.nx (ρ'.set j (.ow ds))) else .st) = _
  rw [decide_eq_true hj, decide_eq_true c4]
  rfl
def told_body (SF : Fn) : FS := (sSeq (sIf (tVal (eBin dEq (eVar 0) (eC (.int 0)))) (sSeq (sDrop (eVal (cCall F_below 2 (arV (eVar 1) (arV (eVar 2) (arNil))))))
      (sNil)) (sNil))
      (sSeq (sIf (tVal (eBin dEq (eVar 0) (eC (.int 1)))) (sSeq (sDrop (eVal (cCall F_one_faced 3 (arV (eVar 1) (arV (eVar 2) (arV (eVar 3) (arNil)))))))
      (sNil)) (sNil))
      (sSeq (sIf (tVal (eBin dEq (eVar 0) (eC (.int 2)))) (sSeq (sDrop (eVal (cCall SF 3 (arV (eVar 1) (arV (eVar 2) (arV (eVar 3) (arNil)))))))
      (sNil)) (sNil))
      (sSeq (sIf (tVal (eBin dEq (eVar 0) (eC (.int 3)))) (sSeq (sDrop (eVal (cCall F_areas 2 (arV (eVar 1) (arV (eVar 2) (arNil))))))
      (sNil)) (sNil))
      (sSeq (sIf (tVal (eBin dEq (eVar 0) (eC (.int 4)))) (sSeq (sDrop (eVal (cCall F_lead 2 (arV (eVar 1) (arV (eVar 2) (arNil))))))
      (sNil)) (sNil))
      (sSeq (sIf (tVal (eBin dEq (eVar 0) (eC (.int 5)))) (sSeq (sDrop (eVal (cCall F_is_like 2 (arV (eVar 1) (arV (eVar 2) (arNil))))))
      (sNil)) (sNil))
      (sSeq (sIf (tVal (eBin dEq (eVar 0) (eC (.int 6)))) (sSeq (sDrop (eVal (cCall F_belows 1 (arV (eVar 1) (arNil)))))
      (sNil)) (sNil))
      (sSeq (sIf (tVal (eBin dEq (eVar 0) (eC (.int 7)))) (sSeq (sDrop (eVal (cCall F_short_die 1 (arV (eVar 1) (arNil)))))
      (sNil)) (sNil))
      (sSeq (sIf (tVal (eBin dEq (eVar 0) (eC (.int 8)))) (sSeq (sDrop (eVal (cCall F_half_chance 2 (arV (eVar 1) (arV (eVar 2) (arNil))))))
      (sNil)) (sNil))
      (sNil))))))))))
theorem told_eq : b_law_told = sSeq (sSetF 4 (fLst (aCons (eC (.str "none")) (aNil)))) (sSeq (sTry xsE sbE (told_body (starFn F_mixed_die)) 5 4 CL9) (sSeq (sRetVar 4) sNil)) := rfl
section
variable {d e f : D} {er : Er} {ds : List D}
theorem told0 (h : ∃ ρ, F_below [.sh d, .sh e] = .er er ρ) (T : Tells CL9 er ds) : F_law_told [.sh (.int 0), .sh d, .sh e, .sh f] = .ok (.ow ds, [.un, .un, .un, .un]) := by
  obtain ⟨ρ, h⟩ := h
  have t := fun b k => try_tells T (body := b) (ρ := [.sh (.int 0), .sh d, .sh e, .sh f, .ow [.str "none"], .un]) (ρ' := [.sh (.int 0), .sh d, .sh e, .sh f, .ow [.str "none"], .un]) (i := 5) (j := 4) k rfl (by simp)
  have k := t (told_body (starFn F_mixed_die)) (by
    unfold told_body
    generalize starFn F_mixed_die = SF at *
    simp [h])
  simp at k
  simp [F_law_told, told_eq, k]
theorem told1 (h : ∃ ρ, F_one_faced [.sh d, .sh e, .sh f] = .er er ρ) (T : Tells CL9 er ds) : F_law_told [.sh (.int 1), .sh d, .sh e, .sh f] = .ok (.ow ds, [.un, .un, .un, .un]) := by
  obtain ⟨ρ, h⟩ := h
  have t := fun b k => try_tells T (body := b) (ρ := [.sh (.int 1), .sh d, .sh e, .sh f, .ow [.str "none"], .un]) (ρ' := [.sh (.int 1), .sh d, .sh e, .sh f, .ow [.str "none"], .un]) (i := 5) (j := 4) k rfl (by simp)
  have k := t (told_body (starFn F_mixed_die)) (by
    unfold told_body
    generalize starFn F_mixed_die = SF at *
    simp [h])
  simp at k
  simp [F_law_told, told_eq, k]
theorem told2 (h : ∃ ρ, (starFn F_mixed_die) [.sh d, .sh e, .sh f] = .er er ρ) (T : Tells CL9 er ds) : F_law_told [.sh (.int 2), .sh d, .sh e, .sh f] = .ok (.ow ds, [.un, .un, .un, .un]) := by
  obtain ⟨ρ, h⟩ := h
  have t := fun b k => try_tells T (body := b) (ρ := [.sh (.int 2), .sh d, .sh e, .sh f, .ow [.str "none"], .un]) (ρ' := [.sh (.int 2), .sh d, .sh e, .sh f, .ow [.str "none"], .un]) (i := 5) (j := 4) k rfl (by simp)
  have k := t (told_body (starFn F_mixed_die)) (by
    unfold told_body
    generalize starFn F_mixed_die = SF at *
    simp [h])
  simp at k
  simp [F_law_told, told_eq, k]
theorem told3 (h : ∃ ρ, F_areas [.sh d, .sh e] = .er er ρ) (T : Tells CL9 er ds) : F_law_told [.sh (.int 3), .sh d, .sh e, .sh f] = .ok (.ow ds, [.un, .un, .un, .un]) := by
  obtain ⟨ρ, h⟩ := h
  have t := fun b k => try_tells T (body := b) (ρ := [.sh (.int 3), .sh d, .sh e, .sh f, .ow [.str "none"], .un]) (ρ' := [.sh (.int 3), .sh d, .sh e, .sh f, .ow [.str "none"], .un]) (i := 5) (j := 4) k rfl (by simp)
  have k := t (told_body (starFn F_mixed_die)) (by
    unfold told_body
    generalize starFn F_mixed_die = SF at *
    simp [h])
  simp at k
  simp [F_law_told, told_eq, k]
theorem told4 (h : ∃ ρ, F_lead [.sh d, .sh e] = .er er ρ) (T : Tells CL9 er ds) : F_law_told [.sh (.int 4), .sh d, .sh e, .sh f] = .ok (.ow ds, [.un, .un, .un, .un]) := by
  obtain ⟨ρ, h⟩ := h
  have t := fun b k => try_tells T (body := b) (ρ := [.sh (.int 4), .sh d, .sh e, .sh f, .ow [.str "none"], .un]) (ρ' := [.sh (.int 4), .sh d, .sh e, .sh f, .ow [.str "none"], .un]) (i := 5) (j := 4) k rfl (by simp)
  have k := t (told_body (starFn F_mixed_die)) (by
    unfold told_body
    generalize starFn F_mixed_die = SF at *
    simp [h])
  simp at k
  simp [F_law_told, told_eq, k]
theorem told5 (h : ∃ ρ, F_is_like [.sh d, .sh e] = .er er ρ) (T : Tells CL9 er ds) : F_law_told [.sh (.int 5), .sh d, .sh e, .sh f] = .ok (.ow ds, [.un, .un, .un, .un]) := by
  obtain ⟨ρ, h⟩ := h
  have t := fun b k => try_tells T (body := b) (ρ := [.sh (.int 5), .sh d, .sh e, .sh f, .ow [.str "none"], .un]) (ρ' := [.sh (.int 5), .sh d, .sh e, .sh f, .ow [.str "none"], .un]) (i := 5) (j := 4) k rfl (by simp)
  have k := t (told_body (starFn F_mixed_die)) (by
    unfold told_body
    generalize starFn F_mixed_die = SF at *
    simp [h])
  simp at k
  simp [F_law_told, told_eq, k]
theorem told6 (h : ∃ ρ, F_belows [.sh d] = .er er ρ) (T : Tells CL9 er ds) : F_law_told [.sh (.int 6), .sh d, .sh e, .sh f] = .ok (.ow ds, [.un, .un, .un, .un]) := by
  obtain ⟨ρ, h⟩ := h
  have t := fun b k => try_tells T (body := b) (ρ := [.sh (.int 6), .sh d, .sh e, .sh f, .ow [.str "none"], .un]) (ρ' := [.sh (.int 6), .sh d, .sh e, .sh f, .ow [.str "none"], .un]) (i := 5) (j := 4) k rfl (by simp)
  have k := t (told_body (starFn F_mixed_die)) (by
    unfold told_body
    generalize starFn F_mixed_die = SF at *
    simp [h])
  simp at k
  simp [F_law_told, told_eq, k]
theorem told7 (h : ∃ ρ, F_short_die [.sh d] = .er er ρ) (T : Tells CL9 er ds) : F_law_told [.sh (.int 7), .sh d, .sh e, .sh f] = .ok (.ow ds, [.un, .un, .un, .un]) := by
  obtain ⟨ρ, h⟩ := h
  have t := fun b k => try_tells T (body := b) (ρ := [.sh (.int 7), .sh d, .sh e, .sh f, .ow [.str "none"], .un]) (ρ' := [.sh (.int 7), .sh d, .sh e, .sh f, .ow [.str "none"], .un]) (i := 5) (j := 4) k rfl (by simp)
  have k := t (told_body (starFn F_mixed_die)) (by
    unfold told_body
    generalize starFn F_mixed_die = SF at *
    simp [h])
  simp at k
  simp [F_law_told, told_eq, k]
theorem told8 (h : ∃ ρ, F_half_chance [.sh d, .sh e] = .er er ρ) (T : Tells CL9 er ds) : F_law_told [.sh (.int 8), .sh d, .sh e, .sh f] = .ok (.ow ds, [.un, .un, .un, .un]) := by
  obtain ⟨ρ, h⟩ := h
  have t := fun b k => try_tells T (body := b) (ρ := [.sh (.int 8), .sh d, .sh e, .sh f, .ow [.str "none"], .un]) (ρ' := [.sh (.int 8), .sh d, .sh e, .sh f, .ow [.str "none"], .un]) (i := 5) (j := 4) k rfl (by simp)
  have k := t (told_body (starFn F_mixed_die)) (by
    unfold told_body
    generalize starFn F_mixed_die = SF at *
    simp [h])
  simp at k
  simp [F_law_told, told_eq, k]
end
end KV
set_option Elab.async false
set_option linter.all false
set_option autoImplicit false
set_option maxRecDepth 100000
set_option maxHeartbeats 4000000
set_option exponentiation.threshold 100
namespace KV
open PySem PySem.Spec PyProof.Rows L2
def two_body : FS := (sSeq (sIf (tVal (eBin dEq (eVar 0) (eC (.int 0)))) (sSeq (sDrop (eVal (cCall F_added 2 (arV (eVar 1) (arV (eVar 2) (arNil))))))
      (sNil)) (sNil))
      (sSeq (sIf (tVal (eBin dEq (eVar 0) (eC (.int 1)))) (sSeq (sDrop (eVal (cCall F_taken_off 2 (arV (eVar 1) (arV (eVar 2) (arNil))))))
      (sNil)) (sNil))
      (sSeq (sIf (tVal (eBin dEq (eVar 0) (eC (.int 2)))) (sSeq (sDrop (eVal (cCall F_multiplied 2 (arV (eVar 1) (arV (eVar 2) (arNil))))))
      (sNil)) (sNil))
      (sSeq (sIf (tVal (eBin dEq (eVar 0) (eC (.int 3)))) (sSeq (sDrop (eVal (cCall F_divided 2 (arV (eVar 1) (arV (eVar 2) (arNil))))))
      (sNil)) (sNil))
      (sSeq (sIf (tVal (eBin dEq (eVar 0) (eC (.int 4)))) (sSeq (sDrop (eVal (cCall F_is_less 2 (arV (eVar 1) (arV (eVar 2) (arNil))))))
      (sNil)) (sNil))
      (sSeq (sIf (tVal (eBin dEq (eVar 0) (eC (.int 5)))) (sSeq (sDrop (eVal (cCall F_is_equal 2 (arV (eVar 1) (arV (eVar 2) (arNil))))))
      (sNil)) (sNil))
      (sNil)))))))
theorem two_eq : b_law_told_of_two = sSeq (sSetF 3 (fLst (aCons (eC (.str "none")) (aNil)))) (sSeq (sTry xsE sbE two_body 4 3 CL2) (sSeq (sRetVar 3) sNil)) := rfl
section
variable {d e : D} {er : Er} {ds : List D}
theorem two0 (h : ∃ ρ, F_added [.sh d, .sh e] = .er er ρ) (T : Tells CL2 er ds) : F_law_told_of_two [.sh (.int 0), .sh d, .sh e] = .ok (.ow ds, [.un, .un, .un]) := by
  obtain ⟨ρ, h⟩ := h
  have t := fun b k => try_tells T (body := b) (ρ := [.sh (.int 0), .sh d, .sh e, .ow [.str "none"], .un]) (ρ' := [.sh (.int 0), .sh d, .sh e, .ow [.str "none"], .un]) (i := 4) (j := 3) k rfl (by simp)
  have k := t two_body (by
    unfold two_body
    simp [h])
  simp at k
  simp [F_law_told_of_two, two_eq, k]
theorem two1 (h : ∃ ρ, F_taken_off [.sh d, .sh e] = .er er ρ) (T : Tells CL2 er ds) : F_law_told_of_two [.sh (.int 1), .sh d, .sh e] = .ok (.ow ds, [.un, .un, .un]) := by
  obtain ⟨ρ, h⟩ := h
  have t := fun b k => try_tells T (body := b) (ρ := [.sh (.int 1), .sh d, .sh e, .ow [.str "none"], .un]) (ρ' := [.sh (.int 1), .sh d, .sh e, .ow [.str "none"], .un]) (i := 4) (j := 3) k rfl (by simp)
  have k := t two_body (by
    unfold two_body
    simp [h])
  simp at k
  simp [F_law_told_of_two, two_eq, k]
theorem two2 (h : ∃ ρ, F_multiplied [.sh d, .sh e] = .er er ρ) (T : Tells CL2 er ds) : F_law_told_of_two [.sh (.int 2), .sh d, .sh e] = .ok (.ow ds, [.un, .un, .un]) := by
  obtain ⟨ρ, h⟩ := h
  have t := fun b k => try_tells T (body := b) (ρ := [.sh (.int 2), .sh d, .sh e, .ow [.str "none"], .un]) (ρ' := [.sh (.int 2), .sh d, .sh e, .ow [.str "none"], .un]) (i := 4) (j := 3) k rfl (by simp)
  have k := t two_body (by
    unfold two_body
    simp [h])
  simp at k
  simp [F_law_told_of_two, two_eq, k]
theorem two3 (h : ∃ ρ, F_divided [.sh d, .sh e] = .er er ρ) (T : Tells CL2 er ds) : F_law_told_of_two [.sh (.int 3), .sh d, .sh e] = .ok (.ow ds, [.un, .un, .un]) := by
  obtain ⟨ρ, h⟩ := h
  have t := fun b k => try_tells T (body := b) (ρ := [.sh (.int 3), .sh d, .sh e, .ow [.str "none"], .un]) (ρ' := [.sh (.int 3), .sh d, .sh e, .ow [.str "none"], .un]) (i := 4) (j := 3) k rfl (by simp)
  have k := t two_body (by
    unfold two_body
    simp [h])
  simp at k
  simp [F_law_told_of_two, two_eq, k]
theorem two4 (h : ∃ ρ, F_is_less [.sh d, .sh e] = .er er ρ) (T : Tells CL2 er ds) : F_law_told_of_two [.sh (.int 4), .sh d, .sh e] = .ok (.ow ds, [.un, .un, .un]) := by
  obtain ⟨ρ, h⟩ := h
  have t := fun b k => try_tells T (body := b) (ρ := [.sh (.int 4), .sh d, .sh e, .ow [.str "none"], .un]) (ρ' := [.sh (.int 4), .sh d, .sh e, .ow [.str "none"], .un]) (i := 4) (j := 3) k rfl (by simp)
  have k := t two_body (by
    unfold two_body
    simp [h])
  simp at k
  simp [F_law_told_of_two, two_eq, k]
theorem two5 (h : ∃ ρ, F_is_equal [.sh d, .sh e] = .er er ρ) (T : Tells CL2 er ds) : F_law_told_of_two [.sh (.int 5), .sh d, .sh e] = .ok (.ow ds, [.un, .un, .un]) := by
  obtain ⟨ρ, h⟩ := h
  have t := fun b k => try_tells T (body := b) (ρ := [.sh (.int 5), .sh d, .sh e, .ow [.str "none"], .un]) (ρ' := [.sh (.int 5), .sh d, .sh e, .ow [.str "none"], .un]) (i := 4) (j := 3) k rfl (by simp)
  have k := t two_body (by
    unfold two_body
    simp [h])
  simp at k
  simp [F_law_told_of_two, two_eq, k]
end
theorem rowOk (xss : List (List Int)) : eqOk (.lst (xss.map fun xs => .lst (iv xs))) = true := by
  have h1 : noScrL (xss.map fun xs => .lst (iv xs)) = true := by
    induction xss with
    | nil => rfl
    | cons x xs ih => show (noScrL (iv x) && noScrL _) = true; rw [noScr_iv, ih]; rfl
  have h2 : PyData.canLayAll0 (toPL (xss.map fun xs => .lst (iv xs))) = true := by
    induction xss with
    | nil => rfl
    | cons x xs ih => show (PyData.canLayAll0 (toPL (iv x)) && PyData.canLayAll0 (toPL _)) = true; rw [lay_iv, ih (by
        have h : (noScrL (iv x) && noScrL (xs.map fun xs => .lst (iv xs))) = true := h1
        exact (Bool.and_eq_true_iff.mp h).2)]; rfl
  have h3 : PyData.depthAll (toPL (xss.map fun xs => .lst (iv xs))) ≤ 1 := by
    clear h1 h2
    induction xss with
    | nil => exact Nat.zero_le _
    | cons x xs ih =>
      show max (PyData.depthAll (toPL (iv x)) + 1) (PyData.depthAll (toPL _)) ≤ 1
      rw [depth_iv]
      exact Nat.max_le.mpr ⟨Nat.le_refl _, ih⟩
  show (noScrL _ && (PyData.canLayAll0 _ && decide (PyData.depthAll _ + 1 ≤ 64))) = true
  rw [h1, h2, Bool.true_and, Bool.true_and]
  exact decide_eq_true (by omega)
theorem dNe_self {d : D} (h : eqOk d = true) : dNe d d = some (.bl false) := by
  have c : (toP d).canLay0 = true := by
    have h2 := h
    unfold eqOk at h2
    have h3 := (Bool.and_eq_true_iff.mp h2).2
    unfold SeqAt.shaped at h3
    simp only [Bool.and_eq_true] at h3
    first | exact h3.1 | exact h3.1.1
  unfold dNe
  rw [h, if_pos (by rfl)]
  unfold eqD
  rw [PySem.SeqAt.eqv_refl _ c]
  rfl
theorem dEq_self {d : D} (h : eqOk d = true) : dEq d d = some (.bl true) := by
  have c : (toP d).canLay0 = true := by
    have h2 := h
    unfold eqOk at h2
    have h3 := (Bool.and_eq_true_iff.mp h2).2
    unfold SeqAt.shaped at h3
    simp only [Bool.and_eq_true] at h3
    first | exact h3.1 | exact h3.1.1
  unfold dEq
  rw [h, if_pos (by rfl)]
  unfold eqD
  rw [PySem.SeqAt.eqv_refl _ c]
theorem so_die : PyData.strOk ("die" : Str) = true := by decide +kernel
theorem so_size : PyData.strOk ("size" : Str) = true := by decide +kernel
theorem so_wts : PyData.strOk ("weights" : Str) = true := by decide +kernel
theorem ok_die (p : Int) : eqOk (.lst [.str "die", .int p, .bl false]) = true := by
  simp [eqOk, noScr, noScrL, SeqAt.shaped, toP, toPL, PyData.canLay0, PyData.canLayAll0, PyData.depth, PyData.depthAll, so_die]
theorem ok_size (p q : Int) : eqOk (.lst [.str "size", .int p, .int q]) = true := by
  simp [eqOk, noScr, noScrL, SeqAt.shaped, toP, toPL, PyData.canLay0, PyData.canLayAll0, PyData.depth, PyData.depthAll, so_size]
theorem ok_wts (p : Int) : eqOk (.lst [.str "weights", .int p]) = true := by
  simp [eqOk, noScr, noScrL, SeqAt.shaped, toP, toPL, PyData.canLay0, PyData.canLayAll0, PyData.depth, PyData.depthAll, so_wts]
@[simp] theorem ne_num (s t : Str) (hs : PyData.strOk s = true) (ht : PyData.strOk t = true) : dNe (.lst [.str s, .str t]) (.lst [.str s, .str t]) = some (.bl false) := dNe_self (by
  simp [eqOk, noScr, noScrL, SeqAt.shaped, toP, toPL, PyData.canLay0, PyData.canLayAll0, PyData.depth, PyData.depthAll, hs, ht])
@[simp] theorem ne_die (p : Int) : dNe (.lst [.str "die", .int p, .bl false]) (.lst [.str "die", .int p, .bl false]) = some (.bl false) := dNe_self (ok_die p)
@[simp] theorem ne_size (p q : Int) : dNe (.lst [.str "size", .int p, .int q]) (.lst [.str "size", .int p, .int q]) = some (.bl false) := dNe_self (ok_size p q)
@[simp] theorem eq_size (p q : Int) : dEq (.lst [.str "size", .int p, .int q]) (.lst [.str "size", .int p, .int q]) = some (.bl true) := dEq_self (ok_size p q)
@[simp] theorem ne_wts (p : Int) : dNe (.lst [.str "weights", .int p]) (.lst [.str "weights", .int p]) = some (.bl false) := dNe_self (ok_wts p)
end KV
set_option Elab.async false
set_option linter.all false
set_option autoImplicit false
set_option maxRecDepth 100000
set_option maxHeartbeats 4000000
set_option exponentiation.threshold 100
namespace KV
open PySem PySem.Spec PyProof.Rows L2
local instance kk26 : KK := ⟨([] : PySem.W.Frag)⟩
theorem wrong_spoilt (pr : List Int) (b : D) (ds : List D) (hp : ∀ x ∈ pr, 0 ≤ x) (hv : val b = true) (hb : ∀ i, b = .int i → i < 0) : F_wrong_place [.sh (.lst (iv pr ++ b :: ds))] = .ok (.sh (.int pr.length), [.un]) := by
  obtain ⟨ρ, e⟩ := wp_bad pr 0 (.lst (iv pr ++ b :: ds)) b ds .un .un hp hv hb
  unfold wpBody enumD at e
  have h0 : (iv pr ++ b :: ds).isEmpty = false := by cases pr <;> rfl
  generalize hG : iv pr ++ b :: ds = G at *
  rw [Nat.zero_add] at e
  try simp at e
  simp [F_wrong_place, b_wrong_place, tTru, h0, e]
theorem die_spoilt (pr : List Int) (b : D) (ds : List D) (hp : ∀ x ∈ pr, 0 ≤ x) (hv : val b = true) (hb : ∀ i, b = .int i → i < 0) : ∃ ρ, F_die_of [.sh (.lst (iv pr ++ b :: ds))] = .er ⟨"BadDie", [("place", .int pr.length)]⟩ ρ := die_of_bad (wrong_spoilt pr b ds hp hv hb)
theorem die_nil : ∃ ρ, F_die_of [.sh (.lst [])] = .er ⟨"BadDie", [("place", .int (-1))]⟩ ρ := die_of_bad (by simp [F_wrong_place, b_wrong_place, tTru])
theorem die_non : ∃ ρ, F_die_of [.sh .non] = .er ⟨"BadDie", [("place", .int (-1))]⟩ ρ := die_of_bad (by simp [F_wrong_place, b_wrong_place, tTru])
theorem die_int (i : Int) : ∃ ρ, F_die_of [.sh (.int i)] = .er ⟨"BadDie", [("place", .int (-1))]⟩ ρ := die_of_bad (by simp [F_wrong_place, b_wrong_place, tTru])
theorem die_str (s : Str) : ∃ ρ, F_die_of [.sh (.str s)] = .er ⟨"BadDie", [("place", .int (-1))]⟩ ρ := die_of_bad (by simp [F_wrong_place, b_wrong_place, tTru])
theorem die_zeros (n : Nat) (hn : 0 < n) : ∃ ρ, F_die_of [.sh (.lst (iv (List.replicate n 0)))] = .er ⟨"BadDie", [("place", .int (-1))]⟩ ρ := die_of_bad (by
  obtain ⟨t1, t2, e⟩ := wp_good (List.replicate n 0) 0 (.lst (iv (List.replicate n 0))) .un .un (fun x hx => by rw [(List.mem_replicate.mp hx).2]; exact Int.le_refl _)
  have hm := dMax_l (List.replicate n 0) (by rw [List.length_replicate]; exact hn)
  have h0 : maxI (List.replicate n 0) = 0 := by
    have := (maxI_spec (ns := List.replicate n 0) (by rw [List.length_replicate]; exact hn)).1
    exact (List.mem_replicate.mp this).2
  rw [h0] at hm
  unfold wpBody enumD at e
  have hE : (iv (List.replicate n 0)).isEmpty = false := iv_ne (by intro k; have := congrArg List.length k; rw [List.length_replicate] at this; simp at this; omega)
  generalize hG : iv (List.replicate n 0) = G at *
  try simp at e
  simp [F_wrong_place, b_wrong_place, tTru, hE, e, hm])

theorem bad_die_eq {xs : List Int} (hx : Gd xs) (ns : List Int) : ∃ (s : D) (p : Int) (ns' : List Int), F_law_bad_die [.ow (iv ns), .sh (.lst (iv xs))] = .ok (.ow [s, .int p], [.ow (iv ns'), .un]) ∧ ∃ ρ, F_die_of [.sh s] = .er ⟨"BadDie", [("place", .int p)]⟩ ρ := by
  have hne := List.length_pos_iff.mpr hx.ne
  have hle := hx.len
  obtain ⟨at_, ns1, t1, u1⟩ := take_eq ns xs.length (by omega)
  obtain ⟨w, ns2, t2, u2⟩ := take_eq ns1 11 (by omega)
  obtain ⟨c, ns3, t3, u3⟩ := take_eq ns2 2 (by omega)
  have hat : at_ < xs.length := by omega
  by_cases hw : w < 5
  · have hw' : (w : Int) < 5 := by omega
    have q := fc_map (α := Int) (g := gSeq (eVar 1)) (h := hName 6) (f := eC (.int 0)) (vs := [6]) D.int (fun x => D.int 0) (ρ := [.ow (iv ns2), .sh (.lst (iv xs)), .sh (.int at_), .sh (.int w), .un, .un, .un]) (ρ0 := [.ow (iv ns2), .sh (.lst (iv xs)), .sh (.int at_), .sh (.int w), .un, .un, .un]) xs
      (by simp) (by omega) rfl (fun x hx' => ⟨[.ow (iv ns2), .sh (.lst (iv xs)), .sh (.int at_), .sh (.int w), .un, .un, .sh (.int x)], rfl, rfl, rfl⟩)
    rw [show xs.map (fun _ => D.int 0) = iv (List.replicate xs.length 0) by rw [List.map_const', iv, List.map_replicate]] at q
    have key : ∀ s, dIx (.lst [.lst [], .lst (iv (List.replicate xs.length 0)), .non, .int 7, .str "12"]) (.int w) = some s → F_law_bad_die [.ow (iv ns), .sh (.lst (iv xs))] = .ok (.ow [s, .int (-1)], [.ow (iv ns2), .un]) := by
      intro s hs
      generalize iv (List.replicate xs.length 0) = Z at *
      generalize hG : iv xs = X at *
      have lX : dLen [.lst X] = some (.int xs.length) := by rw [← hG]; simp
      generalize xs.length = L at *
      simp [F_law_bad_die, b_law_bad_die, lX, t1, t2, hw', q, hs]
    have hw5 : w = 0 ∨ w = 1 ∨ w = 2 ∨ w = 3 ∨ w = 4 := by omega
    rcases hw5 with rfl | rfl | rfl | rfl | rfl
    · exact ⟨_, _, _, key _ rfl, die_nil⟩
    · exact ⟨_, _, _, key _ rfl, die_zeros _ hne⟩
    · exact ⟨_, _, _, key _ rfl, die_non⟩
    · exact ⟨_, _, _, key _ rfl, die_int _⟩
    · exact ⟨_, _, _, key _ rfl, die_str _⟩
  · have hw' : ¬ (w : Int) < 5 := by omega
    have hb : ∃ b, dIx (.lst [.int (-1), .bl true, .non, .tup [.int 1, .int 2], .str "1", .lst [.int 0]]) (.int ((w : Int) - 5)) = some b ∧ val b = true ∧ ∀ i, b = .int i → i < 0 := by
      have h6 : w = 5 ∨ w = 6 ∨ w = 7 ∨ w = 8 ∨ w = 9 ∨ w = 10 := by omega
      rcases h6 with rfl | rfl | rfl | rfl | rfl | rfl
      · exact ⟨.int (-1), rfl, rfl, fun i h => by cases h; decide⟩
      · exact ⟨_, rfl, rfl, fun i h => by cases h⟩
      · exact ⟨_, rfl, rfl, fun i h => by cases h⟩
      · exact ⟨_, rfl, rfl, fun i h => by cases h⟩
      · exact ⟨_, rfl, rfl, fun i h => by cases h⟩
      · exact ⟨_, rfl, rfl, fun i h => by cases h⟩
    obtain ⟨b, hb1, hb2, hb3⟩ := hb
    have htk : (xs.take at_).length = at_ := by rw [List.length_take]; omega
    have c1 : cutD (iv xs) none (some (at_ : Int)) = iv (xs.take at_) := by rw [cutD_take, iv_take]
    have c2 : cutD (iv xs) (some ((at_ : Int) + 1)) none = iv (xs.drop (at_ + 1)) := by
      have := cutD_drop (iv xs) (at_ + 1)
      rw [iv_drop] at this
      exact this
    have nn : ∀ x ∈ xs.take at_, 0 ≤ x := fun x h => hx.nn x (List.mem_of_mem_take h)
    have l1 : (iv (xs.take at_)).length = at_ := by rw [iv_len, htk]
    have l2 : (iv (xs.drop (at_ + 1))).length = xs.length - (at_ + 1) := by rw [iv_len, List.length_drop]
    have lX : dLen [.lst (iv xs)] = some (.int xs.length) := by simp
    have D0 := die_spoilt (xs.take at_) b (iv (xs.drop (at_ + 1))) nn hb2 hb3
    rw [htk] at D0
    have g1 : at_ + 1 ≤ 100000 := by omega
    have g2 : at_ + 1 + (xs.length - (at_ + 1)) ≤ 100000 := by omega
    by_cases hc : at_ + 1 < xs.length ∧ c = 1
    · obtain ⟨hc1, rfl⟩ := hc
      have hc1' : (at_ : Int) + 1 < xs.length := by omega
      have ix : ixN (at_ + (xs.length - (at_ + 1) + 1)) ((at_ : Int) + 1) = some (at_ + 1) := by
        unfold ixN
        rw [if_pos (by omega), if_pos (by omega)]
        rfl
      have D1 := die_spoilt (xs.take at_) b ((iv (xs.drop (at_ + 1))).set 0 (.int (-2))) nn hb2 hb3
      rw [htk] at D1
      have st : (iv (xs.take at_) ++ b :: iv (xs.drop (at_ + 1))).set (at_ + 1) (.int (-2)) = iv (xs.take at_) ++ b :: (iv (xs.drop (at_ + 1))).set 0 (.int (-2)) := by
        rw [List.set_append_right _ _ (by rw [l1]; omega), l1, show at_ + 1 - at_ = 1 by omega, List.set_cons_succ]
      refine ⟨_, _, ns3, ?_, D1⟩
      rw [← st]
      generalize iv (xs.take at_) = A at *
      generalize iv (xs.drop (at_ + 1)) = B at *
      generalize iv xs = X at *
      simp [F_law_bad_die, b_law_bad_die, lX, t1, t2, t3, hw', hb1, c1, c2, l1, l2, g1, g2, hc1', ix]
    · by_cases hc1 : at_ + 1 < xs.length
      · have hc1' : (at_ : Int) + 1 < xs.length := by omega
        have hc2 : ¬ (c : Int) = 1 := by omega
        refine ⟨_, _, ns3, ?_, D0⟩
        generalize iv (xs.take at_) = A at *
        generalize iv (xs.drop (at_ + 1)) = B at *
        generalize iv xs = X at *
        simp [F_law_bad_die, b_law_bad_die, lX, t1, t2, t3, hw', hb1, c1, c2, l1, l2, g1, g2, hc1', hc2]
      · have hc1' : ¬ (at_ : Int) + 1 < xs.length := by omega
        refine ⟨_, _, ns2, ?_, D0⟩
        generalize iv (xs.take at_) = A at *
        generalize iv (xs.drop (at_ + 1)) = B at *
        generalize iv xs = X at *
        simp [F_law_bad_die, b_law_bad_die, lX, t1, t2, t3, hw', hb1, c1, c2, l1, l2, g1, g2, hc1']
end KV
set_option Elab.async false
set_option linter.all false
set_option autoImplicit false
set_option maxRecDepth 100000
set_option maxHeartbeats 4000000
set_option exponentiation.threshold 100
namespace KV
open PySem PySem.Spec PyProof.Rows L2
local instance kk27 : KK := ⟨([] : PySem.W.Frag)⟩
theorem mixed_bad_die {s e : D} {er : Er} (h : ∃ ρ, F_die_of [.sh s] = .er er ρ) : ∃ ρ, (starFn F_mixed_die) [.sh (.lst [.int 1, .int 2]), .sh s, .sh e] = .er er ρ := by
  obtain ⟨ρ, h⟩ := h
  have w1 := weights_good (d := .lst [.int 1, .int 2]) (ws := [1, 2]) (n := 2) (.inl rfl) (by simp) rfl (by simp)
  have em := dMax_row (Row.tup [1, 2]) (by simp)
  have hm : maxI [1, 2] = 2 := by decide
  rw [hm] at em
  simp at w1 em
  simp [starFn, shs, F_mixed_die, b_mixed_die, w1, em, fCompX, cLoopX, h]
theorem mixed_size {d e : D} {xs ys : List Int} (hd : Row d xs) (he : Row e ys) (hx : Die xs) (hy : Die ys) (hl : xs.length ≠ ys.length) : ∃ ρ, (starFn F_mixed_die) [.sh (.lst [.int 1, .int 0]), .sh d, .sh e] = .er ⟨"OtherSize", [("second", .int ys.length), ("first", .int xs.length)]⟩ ρ := by
  have w1 := weights_good (d := .lst [.int 1, .int 0]) (ws := [1, 0]) (n := 2) (.inl rfl) (by simp) rfl (by simp)
  have em := dMax_row (Row.tup [1, 0]) (by simp)
  have hm : maxI [1, 0] = 1 := by decide
  have k1 := die_of_good hd hx
  have k2 := die_of_good he hy
  have hl2 : ¬ ((ys.length : Int) = xs.length) := by omega
  rw [hm] at em
  simp at w1 em
  simp [starFn, shs, F_mixed_die, b_mixed_die, w1, em, fCompX, cLoopX, k1, k2, sLoop, hl2]
theorem longer_gd {ys : List Int} (h : Gd ys) : Die (ys ++ [1]) := by
  refine ⟨by simp, fun x hx => ?_, ?_⟩
  · rcases List.mem_append.mp hx with k | k
    · exact h.nn x k
    · rw [List.mem_singleton.mp k]; decide
  · rw [List.sum_append]
    have := h.pos
    simp
    omega
theorem refuses_dice {xs ys : List Int} (hx : Gd xs) (hy : Gd ys) (hl : xs.length = ys.length) (ns : List Int) : ∃ ns' : List Int, F_law_refuses_dice [.ow (iv ns), .sh (.lst (iv xs)), .sh (.lst (iv ys))] = .ok (.sh (.bl true), [.ow (iv ns'), .un, .un]) := by
  obtain ⟨s, p, ns1, b1, e1⟩ := bad_die_eq hx ns
  obtain ⟨s', p', ns2, b2, e2⟩ := bad_die_eq hy ns1
  have hL := longer_gd hy
  have hlen : xs.length ≠ (ys ++ [1]).length := by rw [List.length_append]; simp; omega
  have A1 := two_dice_bad1 (e := .lst (iv (ys ++ [1]))) e1
  have A2 := two_dice_bad1 (e := s') e1
  have A3 := two_dice_bad2 (Row.lst xs) hx.toDie e2
  have A4 := two_dice_size (Row.lst xs) (Row.lst (ys ++ [1])) hx.toDie hL hlen
  have T1 := tells_die (.int p)
  have T2 := tells_die (.int p')
  have T4 := tells_size (.int xs.length) (.int (ys ++ [1]).length)
  have a31 := told3 (f := .int 0) (areas_bad A1) T1
  have a32 := told3 (f := .int 0) (areas_bad A2) T1
  have a33 := told3 (f := .int 0) (areas_bad A3) T2
  have a34 := told3 (f := .int 0) (areas_bad A4) T4
  have a41 := told4 (f := .int 0) (lead_bad A1) T1
  have a42 := told4 (f := .int 0) (lead_bad A2) T1
  have a43 := told4 (f := .int 0) (lead_bad A3) T2
  have a44 := told4 (f := .int 0) (lead_bad A4) T4
  have a51 := told5 (f := .int 0) (is_like_bad A1) T1
  have a52 := told5 (f := .int 0) (is_like_bad A2) T1
  have a53 := told5 (f := .int 0) (is_like_bad A3) T2
  have a54 := told5 (f := .int 0) (is_like_bad A4) T4
  have a81 := told8 (f := .int 0) (half_chance_bad A1) T1
  have a82 := told8 (f := .int 0) (half_chance_bad A2) T1
  have a83 := told8 (f := .int 0) (half_chance_bad A3) T2
  have a84 := told8 (f := .int 0) (half_chance_bad A4) T4
  have a0 := told0 (f := .int 0) (below_bad1 (b := .int (-1)) e1) T1
  have a6 := told6 (e := .int 0) (f := .int 0) (belows_bad e1) T1
  have a7 := told7 (e := .int 0) (f := .int 0) (short_die_bad e1) T1
  have a2 := told2 (mixed_bad_die (e := .lst (iv (ys ++ [1]))) e1) T1
  have a2' := told2 (mixed_size (Row.lst xs) (Row.lst (ys ++ [1])) hx.toDie hL hlen) T4
  have c1 : iv ys ++ [.int 1] = iv (ys ++ [1]) := by simp [iv]
  have dl : dList [.lst (iv ys)] = some (iv ys) := rfl
  have g1 : (iv ys).length + 1 ≤ 100000 := by rw [iv_len]; have := hy.len; omega
  have lX : dLen [.lst (iv xs)] = some (.int xs.length) := by simp
  have lL : dLen [.lst (iv (ys ++ [1]))] = some (.int (ys ++ [1]).length) := by simp
  have n1 := ne_die p
  have n2 := ne_die p'
  have n3 := ne_size xs.length (ys ++ [1]).length
  have n4 := eq_size xs.length (ys ++ [1]).length
  refine ⟨ns2, ?_⟩
  clear A1 A2 A3 A4 T1 T2 T4 hL hlen
  generalize (ys ++ [1]).length = L at *
  generalize iv (ys ++ [1]) = G at *
  generalize iv xs = X at *
  generalize iv ys = Y at *
  simp [F_law_refuses_dice, b_law_refuses_dice, b1, b2, dl, g1, c1, lX, lL, sLoop, a31, a32, a33, a34, a41, a42, a43, a44, a51, a52, a53, a54, a81, a82, a83, a84, a0, a6, a7, a2, a2', n1, n2, n3, n4]
end KV
set_option Elab.async false
set_option linter.all false
set_option autoImplicit false
set_option maxRecDepth 100000
set_option maxHeartbeats 4000000
set_option exponentiation.threshold 100
namespace KV
open PySem PySem.Spec PyProof.Rows L2
local instance kk28 : KK := ⟨([] : PySem.W.Frag)⟩
theorem mixed_wts {w a b : D} {er : Er} (h : ∃ ρ, F_weights_of [.sh w, .sh (.int 2), .sh (.int 0)] = .er er ρ) : ∃ ρ, (starFn F_mixed_die) [.sh w, .sh a, .sh b] = .er er ρ := by
  obtain ⟨ρ, h⟩ := h
  simp [starFn, shs, F_mixed_die, b_mixed_die, h]
theorem mixed_zero {a b : D} : ∃ ρ, (starFn F_mixed_die) [.sh (.lst [.int 0, .int 0]), .sh a, .sh b] = .er ⟨"BadWeights", [("place", .int (-1))]⟩ ρ := by
  have w1 := weights_good (d := .lst [.int 0, .int 0]) (ws := [0, 0]) (n := 2) (.inl rfl) (by simp) rfl (by simp)
  have em := dMax_row (Row.tup [0, 0]) (by simp)
  have hm : maxI [0, 0] = 0 := by decide
  rw [hm] at em
  simp at w1 em
  simp [starFn, shs, F_mixed_die, b_mixed_die, w1, em]
abbrev WtBad (w : D) (p : Int) : Prop := ∃ ρ, F_weights_of [.sh w, .sh (.int 2), .sh (.int 0)] = .er ⟨"BadWeights", [("place", .int p)]⟩ ρ
theorem wb0 : WtBad (.lst [.int 1]) (-1) := by simp [WtBad, F_weights_of, b_weights_of, tTru]
theorem wb2 : WtBad .non (-1) := by simp [WtBad, F_weights_of, b_weights_of, tTru]
theorem wb3 : WtBad (.lst []) (-1) := by simp [WtBad, F_weights_of, b_weights_of, tTru]
theorem wb4 : WtBad (.lst [.int 1, .int 1, .int 1]) (-1) := by simp [WtBad, F_weights_of, b_weights_of, tTru]
theorem wb5 : WtBad (.lst [.int (-1), .bl true]) 0 := by simp [WtBad, F_weights_of, b_weights_of, tTru, sLoop]
theorem wb6 : WtBad (.lst [.int 0, .int (-1)]) 1 := by simp [WtBad, F_weights_of, b_weights_of, tTru, sLoop]
theorem wb7 : WtBad (.lst [.int 2, .bl true]) 1 := by simp [WtBad, F_weights_of, b_weights_of, tTru, sLoop]
theorem wb8 : WtBad (.lst [.bl true, .int 1]) 0 := by simp [WtBad, F_weights_of, b_weights_of, tTru, sLoop]
theorem wb9 : WtBad (.lst [.int 3, .tup [.int 1]]) 1 := by simp [WtBad, F_weights_of, b_weights_of, tTru, sLoop]
theorem bf0 : BadFr (.tup [.int 1, .int 0]) := fun s => by simp [F_fraction, b_fraction]
theorem bf1 : BadFr (.tup [.int 1, .int 2, .int 3]) := fun s => by simp [F_fraction, b_fraction]
theorem bf2 (t : Str) : BadFr (.str t) := fun s => by simp [F_fraction, b_fraction]
theorem bf3 : BadFr .non := fun s => by simp [F_fraction, b_fraction]
theorem bf4 : BadFr (.bl true) := fun s => by simp [F_fraction, b_fraction]
theorem bf5 : BadFr (.tup [.int 1, .bl true]) := fun s => by simp [F_fraction, b_fraction]
theorem bf6 : BadFr (.lst [.int 1, .int (-2)]) := fun s => by simp [F_fraction, b_fraction]
theorem bf7 : BadFr (.lst [.int 1]) := fun s => by simp [F_fraction, b_fraction]
theorem bf8 : BadFr (.lst [.non, .int 2]) := fun s => by simp [F_fraction, b_fraction]
end KV
set_option Elab.async false
set_option linter.all false
set_option autoImplicit false
set_option maxRecDepth 100000
set_option maxHeartbeats 4000000
set_option exponentiation.threshold 100
namespace KV
open PySem PySem.Spec PyProof.Rows L2
local instance kk29 : KK := ⟨([] : PySem.W.Frag)⟩
@[simp] theorem so_number : PyData.strOk ("number" : Str) = true := by decide +kernel
@[simp] theorem so_gap : PyData.strOk ("gap" : Str) = true := by decide +kernel
@[simp] theorem so_ranks : PyData.strOk ("ranks" : Str) = true := by decide +kernel
@[simp] theorem so_rank : PyData.strOk ("rank" : Str) = true := by decide +kernel
@[simp] theorem so_count : PyData.strOk ("count" : Str) = true := by decide +kernel
@[simp] theorem so_first : PyData.strOk ("first" : Str) = true := by decide +kernel
@[simp] theorem so_second : PyData.strOk ("second" : Str) = true := by decide +kernel
@[simp] theorem so_divisor : PyData.strOk ("divisor" : Str) = true := by decide +kernel
@[simp] theorem eq_num (s t : Str) (hs : PyData.strOk s = true) (ht : PyData.strOk t = true) : dEq (.lst [.str s, .str t]) (.lst [.str s, .str t]) = some (.bl true) := dEq_self (by
  simp [eqOk, noScr, noScrL, SeqAt.shaped, toP, toPL, PyData.canLay0, PyData.canLayAll0, PyData.depth, PyData.depthAll, hs, ht])
theorem refuses_numbers {xs ys : List Int} (hx : Gd xs) (hy : Gd ys) (ns : List Int) : ∃ ns' : List Int, F_law_refuses_numbers [.ow (iv ns), .sh (.lst (iv xs)), .sh (.lst (iv ys))] = .ok (.sh (.bl true), [.ow (iv ns'), .un, .un]) := by
  have hne := List.length_pos_iff.mpr hx.ne
  have hle := hx.len
  obtain ⟨r1, ns1, t1, u1⟩ := take_eq ns 6 (by omega)
  obtain ⟨r2, ns2, t2, u2⟩ := take_eq ns1 5 (by omega)
  obtain ⟨r3, ns3, t3, u3⟩ := take_eq ns2 5 (by omega)
  obtain ⟨r4, ns4, t4, u4⟩ := take_eq ns3 10 (by omega)
  obtain ⟨r5, ns5, t5, u5⟩ := take_eq ns4 9 (by omega)
  obtain ⟨r6, ns6, t6, u6⟩ := take_eq ns5 4 (by omega)
  obtain ⟨r7, ns7, t7, u7⟩ := take_eq ns6 4 (by omega)
  have h1 : ∃ b, dIx (.lst [.int (-1), .int ((xs.length : Int) + 1), .bl true, .non, .tup [.int 1], .str "1"]) (.int r1) = some b ∧ val b = true ∧ ∀ i, b = .int i → i < 0 ∨ (xs.length : Int) < i := by
    have h6 : r1 = 0 ∨ r1 = 1 ∨ r1 = 2 ∨ r1 = 3 ∨ r1 = 4 ∨ r1 = 5 := by omega
    rcases h6 with rfl | rfl | rfl | rfl | rfl | rfl
    · exact ⟨.int (-1), rfl, rfl, fun i h => by cases h; exact .inl (by decide)⟩
    · exact ⟨.int (xs.length + 1), rfl, rfl, fun i h => by cases h; exact .inr (by omega)⟩
    · exact ⟨_, rfl, rfl, fun i h => by cases h⟩
    · exact ⟨_, rfl, rfl, fun i h => by cases h⟩
    · exact ⟨_, rfl, rfl, fun i h => by cases h⟩
    · exact ⟨_, rfl, rfl, fun i h => by cases h⟩
  obtain ⟨gap, g1, g2, g3⟩ := h1
  have h2 : ∃ b, dIx (.lst [.int 0, .int (-3), .bl true, .non, .str "2"]) (.int r2) = some b ∧ val b = true ∧ ∀ i, b = .int i → i < 1 := by
    have h6 : r2 = 0 ∨ r2 = 1 ∨ r2 = 2 ∨ r2 = 3 ∨ r2 = 4 := by omega
    rcases h6 with rfl | rfl | rfl | rfl | rfl
    · exact ⟨.int 0, rfl, rfl, fun i h => by cases h; decide⟩
    · exact ⟨.int (-3), rfl, rfl, fun i h => by cases h; decide⟩
    · exact ⟨_, rfl, rfl, fun i h => by cases h⟩
    · exact ⟨_, rfl, rfl, fun i h => by cases h⟩
    · exact ⟨_, rfl, rfl, fun i h => by cases h⟩
  obtain ⟨low, l1, l2, l3⟩ := h2
  have h3 : ∃ b, dIx (.lst [.int xs.length, .int (-1), .bl false, .non, .lst [.int 0]]) (.int r3) = some b ∧ val b = true ∧ ∀ i, b = .int i → i < 0 ∨ (xs.length : Int) - 1 < i := by
    have h6 : r3 = 0 ∨ r3 = 1 ∨ r3 = 2 ∨ r3 = 3 ∨ r3 = 4 := by omega
    rcases h6 with rfl | rfl | rfl | rfl | rfl
    · exact ⟨.int xs.length, rfl, rfl, fun i h => by cases h; exact .inr (by omega)⟩
    · exact ⟨.int (-1), rfl, rfl, fun i h => by cases h; exact .inl (by decide)⟩
    · exact ⟨_, rfl, rfl, fun i h => by cases h⟩
    · exact ⟨_, rfl, rfl, fun i h => by cases h⟩
    · exact ⟨_, rfl, rfl, fun i h => by cases h⟩
  obtain ⟨bey, b1, b2, b3⟩ := h3
  have h4 : ∃ b p, dIx (.lst [.lst [.int 1], .lst [.int 0, .int 0], .non, .lst [], .lst [.int 1, .int 1, .int 1], .lst [.int (-1), .bl true], .lst [.int 0, .int (-1)], .lst [.int 2, .bl true], .lst [.bl true, .int 1], .lst [.int 3, .tup [.int 1]]]) (.int r4) = some b ∧ dIx (.lst [.int (-1), .int (-1), .int (-1), .int (-1), .int (-1), .int 0, .int 1, .int 1, .int 0, .int 1]) (.int r4) = some (.int p) ∧ ∃ ρ, (starFn F_mixed_die) [.sh b, .sh (.lst []), .sh (.lst (iv ys))] = .er ⟨"BadWeights", [("place", .int p)]⟩ ρ := by
    have h6 : r4 = 0 ∨ r4 = 1 ∨ r4 = 2 ∨ r4 = 3 ∨ r4 = 4 ∨ r4 = 5 ∨ r4 = 6 ∨ r4 = 7 ∨ r4 = 8 ∨ r4 = 9 := by omega
    rcases h6 with rfl | rfl | rfl | rfl | rfl | rfl | rfl | rfl | rfl | rfl
    · exact ⟨_, _, rfl, rfl, mixed_wts wb0⟩
    · exact ⟨_, _, rfl, rfl, mixed_zero⟩
    · exact ⟨_, _, rfl, rfl, mixed_wts wb2⟩
    · exact ⟨_, _, rfl, rfl, mixed_wts wb3⟩
    · exact ⟨_, _, rfl, rfl, mixed_wts wb4⟩
    · exact ⟨_, _, rfl, rfl, mixed_wts wb5⟩
    · exact ⟨_, _, rfl, rfl, mixed_wts wb6⟩
    · exact ⟨_, _, rfl, rfl, mixed_wts wb7⟩
    · exact ⟨_, _, rfl, rfl, mixed_wts wb8⟩
    · exact ⟨_, _, rfl, rfl, mixed_wts wb9⟩
  obtain ⟨wt, wp, w1, w2, w3⟩ := h4
  have h5 : ∃ b, dIx (.lst [.tup [.int 1, .int 0], .tup [.int 1, .int 2, .int 3], .str "1/2", .non, .bl true, .tup [.int 1, .bl true], .lst [.int 1, .int (-2)], .lst [.int 1], .lst [.non, .int 2]]) (.int r5) = some b ∧ BadFr b := by
    have h6 : r5 = 0 ∨ r5 = 1 ∨ r5 = 2 ∨ r5 = 3 ∨ r5 = 4 ∨ r5 = 5 ∨ r5 = 6 ∨ r5 = 7 ∨ r5 = 8 := by omega
    rcases h6 with rfl | rfl | rfl | rfl | rfl | rfl | rfl | rfl | rfl
    · exact ⟨_, rfl, bf0⟩
    · exact ⟨_, rfl, bf1⟩
    · exact ⟨_, rfl, bf2 _⟩
    · exact ⟨_, rfl, bf3⟩
    · exact ⟨_, rfl, bf4⟩
    · exact ⟨_, rfl, bf5⟩
    · exact ⟨_, rfl, bf6⟩
    · exact ⟨_, rfl, bf7⟩
    · exact ⟨_, rfl, bf8⟩
  obtain ⟨wr, x1, x2⟩ := h5
  have h6 : ∃ b p q, dIx (.lst [.tup [.int 2, .int 3], .int 0, .lst [.int 0, .int 5], .int (-4)]) (.int r6) = some b ∧ FrOk b p q := by
    have h6 : r6 = 0 ∨ r6 = 1 ∨ r6 = 2 ∨ r6 = 3 := by omega
    rcases h6 with rfl | rfl | rfl | rfl
    · obtain ⟨p, q, k, _⟩ := fr_pair (d := .tup [.int 2, .int 3]) (.inl rfl) (by decide) (n := 5) (by unfold Bd; decide) (by omega)
      exact ⟨_, _, _, rfl, k⟩
    · exact ⟨_, _, _, rfl, fr_int 0⟩
    · obtain ⟨p, q, k, _⟩ := fr_pair (d := .lst [.int 0, .int 5]) (.inr rfl) (by decide) (n := 5) (by unfold Bd; decide) (by omega)
      exact ⟨_, _, _, rfl, k⟩
    · exact ⟨_, _, _, rfl, fr_int (-4)⟩
  obtain ⟨go, p, q, y1, y2⟩ := h6
  obtain ⟨p0, q0, z1, z2⟩ := fr_pair (d := .lst [.int 0, .int (1 + (r7 : Int))]) (.inr rfl) (by omega) (n := 5) (by unfold Bd; have : (2 : Nat) ^ 5 = 32 := rfl; omega) (by omega)
  have hp0 : p0 = 0 := by
    have e := z2.eq
    rw [Int.zero_mul] at e
    rcases Int.mul_eq_zero.mp e.symm with h | h <;> omega
  subst hp0
  have a0 := told0 (f := .int 0) (below_bad2 (Row.lst xs) hx.toDie g2 g3) (tells_num _)
  have a1 := told1 (one_faced_bad1 low bey low l2 l3) (tells_num _)
  have a2 := told1 (one_faced_bad2 xs.length bey low hne b2 b3) (tells_num _)
  have a3 := told1 (one_faced_bad3 xs.length (xs.length - 1) low (by omega) l2 l3) (tells_num _)
  rw [show ((xs.length - 1 : Nat) : Int) = (xs.length : Int) - 1 by omega] at a3
  have a4 := told2 w3 (tells_wts _)
  have f0 := two0 (added_bad1 (e := wr) x2) (tells_num2 _)
  have f1 := two1 (taken_off_bad1 (e := wr) x2) (tells_num2 _)
  have f2 := two2 (multiplied_bad1 (e := wr) x2) (tells_num2 _)
  have f3 := two3 (divided_bad1 (e := wr) x2) (tells_num2 _)
  have f4 := two4 (is_less_bad1 (e := wr) x2) (tells_num2 _)
  have f5 := two5 (is_equal_bad1 (e := wr) x2) (tells_num2 _)
  have s0 := two0 (added_bad2 y2 x2) (tells_num2 _)
  have s1 := two1 (taken_off_bad2 y2 x2) (tells_num2 _)
  have s2 := two2 (multiplied_bad2 y2 x2) (tells_num2 _)
  have s3 := two3 (divided_bad2 y2 x2) (tells_num2 _)
  have s4 := two4 (is_less_bad2 y2 x2) (tells_num2 _)
  have s5 := two5 (is_equal_bad2 y2 x2) (tells_num2 _)
  have dz := two3 (divided_zero y2 z1) (tells_num2 _)
  have lX : dLen [.lst (iv xs)] = some (.int xs.length) := by simp
  have r6' : rangeD 0 6 = [.int 0, .int 1, .int 2, .int 3, .int 4, .int 5] := rfl
  have w1' : atI [D.lst [D.int 1], D.lst [D.int 0, D.int 0], D.non, D.lst [], D.lst [D.int 1, D.int 1, D.int 1], D.lst [D.int (-1), D.bl true], D.lst [D.int 0, D.int (-1)], D.lst [D.int 2, D.bl true], D.lst [D.bl true, D.int 1], D.lst [D.int 3, D.tup [D.int 1]]] r4 = some wt := w1
  have w2' : atI [D.int (-1), D.int (-1), D.int (-1), D.int (-1), D.int (-1), D.int 0, D.int 1, D.int 1, D.int 0, D.int 1] r4 = some (D.int wp) := w2
  refine ⟨ns7, ?_⟩
  clear w1 w2 z1 z2 w3 x2 y2
  generalize iv xs = X at *
  generalize iv ys = Y at *
  simp [F_law_refuses_numbers, b_law_refuses_numbers, t1, t2, t3, t4, t5, t6, t7, lX, g1, l1, b1, w1', w2', x1, y1, a0, a1, a2, a3, a4, sLoop, r6', f0, f1, f2, f3, f4, f5, s0, s1, s2, s3, s4, s5, dz]
end KV
set_option Elab.async false
set_option linter.all false
set_option autoImplicit false
set_option maxRecDepth 100000
set_option maxHeartbeats 4000000
set_option exponentiation.threshold 100
namespace KV
open PySem PySem.Spec PyProof.Rows L2
theorem sizes_eq (ns : List Int) : ∃ (m : Int) (R : Nat) (ns' : List Int), 1 ≤ R ∧ R ≤ 7 ∧ F_law_sizes [.ow (iv ns)] = .ok (.ow [.int m, .int R], [.ow (iv ns')]) := by
  obtain ⟨a, ns1, t1, u1⟩ := take_eq ns 10 (by omega)
  obtain ⟨b, ns2, t2, u2⟩ := take_eq ns1 10 (by omega)
  have h1 : ∃ m : Int, dIx (.lst [.int 3, .int 2, .int 3, .int 4, .int 2, .int 3, .int 5, .int 1, .int 3, .int 4]) (.int a) = some (.int m) := by
    have h6 : a = 0 ∨ a = 1 ∨ a = 2 ∨ a = 3 ∨ a = 4 ∨ a = 5 ∨ a = 6 ∨ a = 7 ∨ a = 8 ∨ a = 9 := by omega
    rcases h6 with rfl | rfl | rfl | rfl | rfl | rfl | rfl | rfl | rfl | rfl <;> exact ⟨_, rfl⟩
  have h2 : ∃ R : Nat, 1 ≤ R ∧ R ≤ 7 ∧ dIx (.lst [.int 4, .int 3, .int 5, .int 4, .int 6, .int 2, .int 5, .int 7, .int 4, .int 1]) (.int b) = some (.int R) := by
    have h6 : b = 0 ∨ b = 1 ∨ b = 2 ∨ b = 3 ∨ b = 4 ∨ b = 5 ∨ b = 6 ∨ b = 7 ∨ b = 8 ∨ b = 9 := by omega
    rcases h6 with rfl | rfl | rfl | rfl | rfl | rfl | rfl | rfl | rfl | rfl
    · exact ⟨4, by omega, by omega, rfl⟩
    · exact ⟨3, by omega, by omega, rfl⟩
    · exact ⟨5, by omega, by omega, rfl⟩
    · exact ⟨4, by omega, by omega, rfl⟩
    · exact ⟨6, by omega, by omega, rfl⟩
    · exact ⟨2, by omega, by omega, rfl⟩
    · exact ⟨5, by omega, by omega, rfl⟩
    · exact ⟨7, by omega, by omega, rfl⟩
    · exact ⟨4, by omega, by omega, rfl⟩
    · exact ⟨1, by omega, by omega, rfl⟩
  obtain ⟨m, e1⟩ := h1
  obtain ⟨R, r1, r2, e2⟩ := h2
  refine ⟨m, R, ns2, r1, r2, ?_⟩
  simp [F_law_sizes, b_law_sizes, t1, t2, e1, e2]
abbrev dieBody : FS := (sSeq (sApp 2 (eBin dIx (eFrz (fLst (aCons (eC (.int 1)) (aCons (eC (.int 0)) (aCons (eC (.int 2)) (aCons (eC (.int 0)) (aCons (eC (.int 1)) (aCons (eC (.int 3)) (aCons (eC (.int 0)) (aCons (eC (.int 0)) (aCons (eC (.int 1)) (aCons (eC (.int 0)) (aNil))))))))))))) (eVal (cCall F_law_take 2 (arS 0 (arV (eC (.int 10)) (arNil)))))))
      (sNil))
theorem die_loop (R : D) : ∀ (ts : List Nat) (ns acc : List Int) (s : Sl), acc.length + ts.length ≤ 90000 → ∃ (ns' row : List Int) (s' : Sl), row.length = ts.length ∧ (∀ x ∈ row, 0 ≤ x ∧ x ≤ 3) ∧ sLoop (hName 3) dieBody (ts.map fun i => D.int (i : Nat)) [.ow (iv ns), .sh R, .ow (iv acc), s] = .ok (.nx [.ow (iv ns'), .sh R, .ow (iv (acc ++ row)), s'])
  | [], ns, acc, s, _ => ⟨ns, [], s, rfl, by simp, by rw [List.append_nil]; rfl⟩
  | t :: ts, ns, acc, s, h => by
    obtain ⟨a, ns1, t1, u1⟩ := take_eq ns 10 (by omega)
    have h1 : ∃ m : Int, (0 ≤ m ∧ m ≤ 3) ∧ dIx (.lst [.int 1, .int 0, .int 2, .int 0, .int 1, .int 3, .int 0, .int 0, .int 1, .int 0]) (.int a) = some (.int m) := by
      have h6 : a = 0 ∨ a = 1 ∨ a = 2 ∨ a = 3 ∨ a = 4 ∨ a = 5 ∨ a = 6 ∨ a = 7 ∨ a = 8 ∨ a = 9 := by omega
      rcases h6 with rfl | rfl | rfl | rfl | rfl | rfl | rfl | rfl | rfl | rfl
      · exact ⟨1, by omega, rfl⟩
      · exact ⟨0, by omega, rfl⟩
      · exact ⟨2, by omega, rfl⟩
      · exact ⟨0, by omega, rfl⟩
      · exact ⟨1, by omega, rfl⟩
      · exact ⟨3, by omega, rfl⟩
      · exact ⟨0, by omega, rfl⟩
      · exact ⟨0, by omega, rfl⟩
      · exact ⟨1, by omega, rfl⟩
      · exact ⟨0, by omega, rfl⟩
    obtain ⟨m, hm, e1⟩ := h1
    obtain ⟨ns', row, s', r1, r2, r3⟩ := die_loop R ts ns1 (acc ++ [m]) (.sh (.int t)) (by simp at h ⊢; omega)
    refine ⟨ns', m :: row, s', by simp [r1], fun x hx => ?_, ?_⟩
    · rcases List.mem_cons.mp hx with rfl | k
      · exact hm
      · exact r2 x k
    · have hl : (iv acc).length < 100000 := by rw [iv_len]; simp at h; omega
      have ea : iv (acc ++ [m]) = iv acc ++ [.int m] := by simp [iv]
      have eb : iv (acc ++ m :: row) = iv (acc ++ [m] ++ row) := by simp [iv]
      rw [eb]
      rw [ea] at r3
      have hd : dieBody [.ow (iv ns), .sh R, .ow (iv acc), .sh (.int t)] = .ok (.nx [.ow (iv ns1), .sh R, .ow (iv acc ++ [.int m]), .sh (.int t)]) := by
        generalize iv acc = A at *
        simp [dieBody, t1, e1, hl]
      have e0 : hName 3 (D.int t) [.ow (iv ns), .sh R, .ow (iv acc), s] = some [.ow (iv ns), .sh R, .ow (iv acc), .sh (.int t)] := rfl
      simp only [List.map_cons, sLoop, e0, hd, bind_ok, r3]
def OkD (R : Nat) (b : Int) (xs : List Int) : Prop := xs.length = R ∧ (∀ x ∈ xs, 0 ≤ x) ∧ 0 < xs.sum ∧ xs.sum ≤ b
theorem sum_le3 {xs : List Int} (h : ∀ x ∈ xs, 0 ≤ x ∧ x ≤ 3) : xs.sum ≤ 3 * xs.length := by
  induction xs with
  | nil => simp
  | cons x xs ih =>
    have := ih fun y hy => h y (List.mem_cons_of_mem _ hy)
    have := h x List.mem_cons_self
    rw [List.sum_cons, List.length_cons]
    omega
theorem law_die_eq {R : Nat} (h1 : 1 ≤ R) (h2 : R ≤ 7) (ns : List Int) : ∃ (row ns' : List Int), OkD R 21 row ∧ F_law_die [.ow (iv ns), .sh (.int R)] = .ok (.ow (iv row), [.ow (iv ns'), .un]) := by
  obtain ⟨ns1, row, s', r1, r2, r3⟩ := die_loop (.int R) (List.range R) ns [] .un (by simp; omega)
  rw [List.length_range] at r1
  rw [← range_iv] at r3
  obtain ⟨r, ns2, t1, u1⟩ := take_eq ns1 R (by omega)
  have g1 : (R : Int) ≤ 1000000 := by omega
  have g2 : (-1000000 : Int) ≤ R := by omega
  have sm := dSum_l row
  have hs := sum_le3 r2
  have hn := sum_nn fun x hx => (r2 x hx).1
  unfold dieBody at r3
  rw [List.nil_append, show iv [] = [] from rfl] at r3
  by_cases hz : row.sum = 0
  · have hr : r < row.length := by omega
    refine ⟨row.set r 1, ns2, ⟨by rw [List.length_set, r1], fun x hx => ?_, ?_, ?_⟩, ?_⟩
    · rcases mem_set hx with k | k
      · exact (r2 x k).1
      · omega
    · rw [sum_set 1 hr, hz]
      have : at0 row r = 0 := by
        have m := at0_mem hr
        have a := (r2 _ m.1).1
        have b := mem_le_sum (fun x hx => (r2 x hx).1) m.1
        omega
      omega
    · rw [sum_set 1 hr, hz]
      have m := (r2 _ (at0_mem hr).1).1
      omega
    · rw [hz] at sm
      have ix : ixN (iv row).length r = some r := by
        unfold ixN
        rw [iv_len, if_pos (by omega), if_pos (by omega)]
        rfl
      have es : (iv row).set r (.int 1) = iv (row.set r 1) := by simp [iv, List.map_set]
      generalize iv (row.set r 1) = Q at *
      generalize iv row = W at *
      generalize iv ns1 = N1 at *
      simp [F_law_die, b_law_die, g1, g2, r3, sm, t1, ix, es]
  · refine ⟨row, ns1, ⟨r1, fun x hx => (r2 x hx).1, by omega, by omega⟩, ?_⟩
    generalize iv row = W at *
    generalize iv ns1 = N1 at *
    simp [F_law_die, b_law_die, g1, g2, r3, sm, hz]
end KV
set_option Elab.async false
set_option linter.all false
set_option autoImplicit false
set_option maxRecDepth 100000
set_option maxHeartbeats 4000000
set_option exponentiation.threshold 100
namespace KV
open PySem PySem.Spec PyProof.Rows L2
abbrev lls (xss : List (List Int)) : List D := xss.map fun xs => D.lst (iv xs)
abbrev diceBody : FS := (sSeq (sSet 5 (eVal (cCall F_law_take 2 (arS 0 (arV (eC (.int 9)) (arNil))))))
      (sSeq (sSetF 6 (fVal (cCall F_law_die 2 (arS 0 (arV (eVar 2) (arNil))))))
      (sSeq (sIf (tAnd2 (tVal (eBin dEq (eVar 5) (eC (.int 8)))) (tVal (eBin dGt (eVar 4) (eC (.int 0))))) (sSeq (sSetF 6 (fComp (gSeq (eIxVar 3 (eBin dSub (eVar 4) (eC (.int 1))))) (hName 7) (tYes2) (eBin dMul (eC (.int 2)) (eVar 7)) [7]))
      (sNil)) (sNil))
      (sSeq (sIf (tAnd2 (tVal (eBin dEq (eVar 5) (eC (.int 7)))) (tVal (eBin dGt (eVar 4) (eC (.int 0))))) (sSeq (sSetF 6 (fCat (eFrz (fLst (aCons (eC (.int 0)) (aNil)))) (eSl (eIxVar 3 (eBin dSub (eVar 4) (eC (.int 1)))) (oNo) (oIs (eBin dSub (eVar 2) (eC (.int 1)))))))
      (sSeq (sSetIx 6 (eBin dSub (eVar 2) (eC (.int 1))) (eBin dAdd (eIxVar 6 (eBin dSub (eVar 2) (eC (.int 1)))) (eBin dIx (eIxVar 3 (eBin dSub (eVar 4) (eC (.int 1)))) (eBin dSub (eVar 2) (eC (.int 1))))))
      (sNil))) (sNil))
      (sSeq (sIf (tVal (eBin dEq (eVar 5) (eC (.int 6)))) (sSeq (sSetF 6 (fComp (gRng1 (aCons (eVar 2) (aNil))) (hName 8) (tYes2) (eC (.int 0)) [8]))
      (sSeq (sSetIx 6 (eVal (cCall F_law_take 2 (arS 0 (arV (eVar 2) (arNil))))) (eC (.int 1)))
      (sNil))) (sNil))
      (sSeq (sApp 3 (eVar 6))
      (sNil)))))))
theorem okD_mono {R : Nat} {b c : Int} {xs : List Int} (h : OkD R b xs) (hb : b ≤ c) : OkD R c xs := ⟨h.1, h.2.1, h.2.2.1, by have := h.2.2.2; omega⟩
theorem zeros_set {R r : Nat} (h1 : 1 ≤ R) (hr : r < R) : OkD R 21 ((List.replicate R 0).set r 1) := by
  have hl : (List.replicate R (0 : Int)).length = R := List.length_replicate
  refine ⟨by rw [List.length_set, hl], fun x hx => ?_, ?_, ?_⟩
  · rcases mem_set hx with k | k
    · rw [(List.mem_replicate.mp k).2]; exact Int.le_refl _
    · omega
  · rw [sum_set 1 (by rw [hl]; exact hr), sum_zeros, at0_zeros]; decide
  · rw [sum_set 1 (by rw [hl]; exact hr), sum_zeros, at0_zeros]; decide
def raised (xs : List Int) : List Int := (0 :: xs.take (xs.length - 1)).set (xs.length - 1) (at0 (0 :: xs.take (xs.length - 1)) (xs.length - 1) + at0 xs (xs.length - 1))
theorem raised_ok {R : Nat} {b : Int} {xs : List Int} (h1 : 1 ≤ R) (h : OkD R b xs) : OkD R b (raised xs) := by
  obtain ⟨a1, a2, a3, a4⟩ := h
  have hl : (0 :: xs.take (xs.length - 1)).length = R := by rw [List.length_cons, List.length_take]; omega
  have hs : (raised xs).sum = xs.sum := by
    unfold raised
    rw [sum_set _ (by omega), List.sum_cons]
    have e : xs.sum = (xs.take (xs.length - 1)).sum + at0 xs (xs.length - 1) := by
      have := pre_at (xs := xs) (i := xs.length - 1) (by omega)
      unfold pre at this
      rw [show xs.length - 1 + 1 = xs.length by omega, List.take_length] at this
      exact this
    omega
  have nn : ∀ x ∈ (0 :: xs.take (xs.length - 1)), 0 ≤ x := fun x hx => by
    rcases List.mem_cons.mp hx with rfl | k
    · exact Int.le_refl _
    · exact a2 x (List.mem_of_mem_take k)
  refine ⟨by unfold raised; rw [List.length_set, hl], fun x hx => ?_, by omega, by omega⟩
  unfold raised at hx
  rcases mem_set hx with k | k
  · exact nn x k
  · have m1 := nn _ (at0_mem (xs := 0 :: xs.take (xs.length - 1)) (i := xs.length - 1) (by omega)).1
    have m2 := a2 _ (at0_mem (xs := xs) (i := xs.length - 1) (by omega)).1
    omega
theorem lls_at {xss : List (List Int)} {k : Nat} {xs : List Int} (h : xss[k]? = some xs) : atI (lls xss) k = some (.lst (iv xs)) := by
  have hk : k < xss.length := by
    by_cases c : k < xss.length
    · exact c
    · rw [List.getElem?_eq_none (by omega)] at h; cases h
  unfold atI ixN
  rw [if_pos (by omega), if_pos (by rw [List.length_map]; omega)]
  show (lls xss)[(k : Int).toNat]? = _
  rw [Int.toNat_natCast, List.getElem?_map, h]
  rfl
theorem dice_step {R : Nat} (h1 : 1 ≤ R) (h2 : R ≤ 7) {b : Int} (hb : 21 ≤ b) (hb2 : b ≤ 1000) (xss : List (List Int)) (hx : ∀ xs ∈ xss, OkD R b xs) (hk : xss.length ≤ 10) (ns : List Int) (s5 s6 : Sl) :
    ∃ (row ns' : List Int) (t5 t6 : Sl), OkD R (2 * b) row ∧ diceBody [.ow (iv ns), .sh (.int 3), .sh (.int R), .ow (lls xss), .sh (.int xss.length), s5, s6, .un, .un] = .ok (.nx [.ow (iv ns'), .sh (.int 3), .sh (.int R), .ow (lls (xss ++ [row])), .sh (.int xss.length), t5, t6, .un, .un]) := by
  obtain ⟨w, ns1, t1, u1⟩ := take_eq ns 9 (by omega)
  obtain ⟨row, ns2, o2, t2⟩ := law_die_eq h1 h2 ns1
  obtain ⟨r, ns3, t3, u3⟩ := take_eq ns2 R (by omega)
  have lL : (lls xss).length < 100000 := by rw [List.length_map]; omega
  have app : ∀ q : List Int, lls (xss ++ [q]) = lls xss ++ [.lst (iv q)] := fun q => by simp [lls]
  by_cases c6 : w = 6
  · subst c6
    refine ⟨(List.replicate R 0).set r 1, ns3, .sh (.int 6), .sh (.lst (iv ((List.replicate R 0).set r 1))), okD_mono (zeros_set h1 (by omega)) (by omega), ?_⟩
    have q := fc_map (α := Nat) (g := gRng1 (aCons (eVar 2) (aNil))) (h := hName 8) (f := eC (.int 0)) (vs := [8]) (fun i => D.int (i : Nat)) (fun _ => D.int 0) (ρ := [.ow (iv ns2), .sh (.int 3), .sh (.int R), .ow (lls xss), .sh (.int xss.length), .sh (.int 6), .ow (iv row), .un, .un]) (ρ0 := [.ow (iv ns2), .sh (.int 3), .sh (.int R), .ow (lls xss), .sh (.int xss.length), .sh (.int 6), .ow (iv row), .un, .un]) (List.range R)
      (by rw [← range_iv]; have g1 : (R : Int) ≤ 1000000 := by omega
          have g2 : (-1000000 : Int) ≤ R := by omega
          simp [g1, g2]) (by rw [List.length_range]; omega) rfl (fun j hj => ⟨[.ow (iv ns2), .sh (.int 3), .sh (.int R), .ow (lls xss), .sh (.int xss.length), .sh (.int 6), .ow (iv row), .un, .sh (.int j)], rfl, rfl, rfl⟩)
    rw [show (List.range R).map (fun _ => D.int 0) = iv (List.replicate R 0) by rw [List.map_const', iv, List.map_replicate, List.length_range]] at q
    have ix : ixN (iv (List.replicate R 0)).length r = some r := by
      unfold ixN
      rw [iv_len, List.length_replicate, if_pos (by omega), if_pos (by omega)]
      rfl
    have es : (iv (List.replicate R 0)).set r (.int 1) = iv ((List.replicate R 0).set r 1) := by simp only [iv, List.map_set]
    have t1' : F_law_take [Sl.ow (iv ns), Sl.sh (D.int 9)] = Out.ok (Sl.sh (D.int 6), [Sl.ow (iv ns1), Sl.un]) := t1
    rw [app]
    clear app
    generalize iv ((List.replicate R 0).set r 1) = Q at *
    generalize iv (List.replicate R 0) = Z at *
    generalize lls xss = LL at *
    generalize iv row = W at *
    simp [diceBody, t1', t2, q, t3, ix, es, lL]
  · have c6' : ¬ (w : Int) = 6 := by omega
    by_cases c0 : xss.length = 0
    · refine ⟨row, ns2, .sh (.int w), .sh (.lst (iv row)), okD_mono o2 (by omega), ?_⟩
      have e0 : (xss.length : Int) = 0 := by omega
      rw [app]
      clear app
      generalize lls xss = LL at *
      generalize iv row = W at *
      by_cases c8 : (w : Int) = 8
      · simp [diceBody, t1, t2, c8, c6', e0, lL, c0]
      · by_cases c7 : (w : Int) = 7
        · simp [diceBody, t1, t2, c7, c8, c6', e0, lL, c0]
        · simp [diceBody, t1, t2, c7, c8, c6', e0, lL, c0]
    · have e0 : 0 < xss.length := by omega
      obtain ⟨prev, hp⟩ : ∃ prev, xss[xss.length - 1]? = some prev := ⟨_, List.getElem?_eq_getElem (by omega)⟩
      have op := hx prev (List.mem_of_getElem? hp)
      have ap := lls_at hp
      rw [show ((xss.length - 1 : Nat) : Int) = (xss.length : Int) - 1 by omega] at ap
      by_cases c8 : (w : Int) = 8
      · have hw : w = 8 := by omega
        subst hw
        refine ⟨prev.map (2 * ·), ns2, .sh (.int 8), .sh (.lst (iv (prev.map (2 * ·)))), ⟨by rw [List.length_map, op.1], fun x hx' => ?_, ?_, ?_⟩, ?_⟩
        · obtain ⟨y, hy, rfl⟩ := List.mem_map.mp hx'
          have := op.2.1 y hy
          show 0 ≤ 2 * y
          omega
        · rw [sum_map_mul]; have := op.2.2.1; omega
        · rw [sum_map_mul]; have := op.2.2.2; omega
        · have bd : ∀ x ∈ prev, Bd x 1000 := fun x hx' => by
            have m1 := mem_le_sum op.2.1 hx'
            have m2 := op.2.1 x hx'
            have m3 := op.2.2.2
            have : Bd x 10 := by unfold Bd; have : (2 : Nat) ^ 10 = 1024 := rfl; omega
            exact this.mono (by omega)
          have q := fc_map (α := Int) (g := gSeq (eIxVar 3 (eBin dSub (eVar 4) (eC (.int 1))))) (h := hName 7) (f := eBin dMul (eC (.int 2)) (eVar 7)) (vs := [7]) D.int (fun x => D.int (2 * x)) (ρ := [.ow (iv ns2), .sh (.int 3), .sh (.int R), .ow (lls xss), .sh (.int xss.length), .sh (.int 8), .ow (iv row), .un, .un]) (ρ0 := [.ow (iv ns2), .sh (.int 3), .sh (.int R), .ow (lls xss), .sh (.int xss.length), .sh (.int 8), .ow (iv row), .un, .un]) prev
            (by simp [ap]) (by have := op.1; omega) rfl (fun x hx' => by
              refine ⟨[.ow (iv ns2), .sh (.int 3), .sh (.int R), .ow (lls xss), .sh (.int xss.length), .sh (.int 8), .ow (iv row), .sh (.int x), .un], rfl, ?_, rfl⟩
              have := dMul_bd (i := 2) (m := 5) (by unfold Bd; decide) (bd x hx') (by omega) (by omega)
              simp [this])
          rw [show prev.map (fun x => D.int (2 * x)) = iv (prev.map (2 * ·)) by rw [iv, List.map_map]; rfl] at q
          have t1' : F_law_take [Sl.ow (iv ns), Sl.sh (D.int 9)] = Out.ok (Sl.sh (D.int 8), [Sl.ow (iv ns1), Sl.un]) := t1
          rw [app]
          clear app
          generalize lls xss = LL at *
          generalize iv row = W at *
          generalize iv (prev.map (2 * ·)) = Q at *
          simp [diceBody, t1', t2, e0, q, lL]
      · by_cases c7 : (w : Int) = 7
        · have hw : w = 7 := by omega
          subst hw
          refine ⟨raised prev, ns2, .sh (.int 7), .sh (.lst (iv (raised prev))), okD_mono (raised_ok h1 op) (by omega), ?_⟩
          have hR : (R : Int) - 1 = ((R - 1 : Nat) : Int) := by omega
          have c1 : cutD (iv prev) none (some ((R : Int) - 1)) = iv (prev.take (R - 1)) := by rw [hR, cutD_take, iv_take]
          have t1' : F_law_take [Sl.ow (iv ns), Sl.sh (D.int 9)] = Out.ok (Sl.sh (D.int 7), [Sl.ow (iv ns1), Sl.un]) := t1
          have hl1 : (0 :: prev.take (R - 1)).length = R := by rw [List.length_cons, List.length_take, op.1]; omega
          have a1 : atI (iv (0 :: prev.take (R - 1))) ((R : Int) - 1) = some (.int (at0 (0 :: prev.take (R - 1)) (R - 1))) := by
            rw [hR]
            exact atI_iv _ _ _ (at0_mem (by omega)).2
          have a2 : dIx (.lst (iv prev)) (.int ((R : Int) - 1)) = some (.int (at0 prev (R - 1))) := by
            rw [hR]
            exact atI_iv prev _ _ (at0_mem (by rw [op.1]; omega)).2
          have ix : ixN R ((R : Int) - 1) = some (R - 1) := by
            unfold ixN
            rw [if_pos (by omega), if_pos (by omega), hR]
            rfl
          have es : (iv (0 :: prev.take (R - 1))).set (R - 1) (.int (at0 (0 :: prev.take (R - 1)) (R - 1) + at0 prev (R - 1))) = iv (raised prev) := by
            unfold raised
            rw [op.1]
            simp only [iv, List.map_set]
          have hl2 : (iv (0 :: prev.take (R - 1))).length = R := by rw [iv_len, hl1]
          have g1 : 1 + (iv (prev.take (R - 1))).length ≤ 100000 := by rw [iv_len, List.length_take]; omega
          have e1 : D.int 0 :: iv (prev.take (R - 1)) = iv (0 :: prev.take (R - 1)) := rfl
          rw [app]
          clear app
          generalize lls xss = LL at *
          generalize iv row = W at *
          generalize iv (raised prev) = Q at *
          generalize iv (0 :: prev.take (R - 1)) = A at *
          generalize iv (prev.take (R - 1)) = A0 at *
          generalize iv prev = Pv at *
          simp [diceBody, t1', t2, e0, ap, c1, g1, e1, a1, a2, hl2, ix, es, lL]
        · refine ⟨row, ns2, .sh (.int w), .sh (.lst (iv row)), okD_mono o2 (by omega), ?_⟩
          rw [app]
          clear app
          generalize lls xss = LL at *
          generalize iv row = W at *
          simp [diceBody, t1, t2, c7, c8, c6', e0, lL]
end KV
set_option Elab.async false
set_option linter.all false
set_option autoImplicit false
set_option maxRecDepth 100000
set_option maxHeartbeats 4000000
set_option exponentiation.threshold 100
namespace KV
open PySem PySem.Spec PyProof.Rows L2
theorem dice_unf : b_law_dice = sSeq (sSetF 3 (fLst aNil)) (sSeq (sFor (gRng1 (aCons (eVar 1) aNil)) (hName 4) diceBody) (sSeq (sRetVar 3) sNil)) := rfl
theorem law_dice_eq {R : Nat} (h1 : 1 ≤ R) (h2 : R ≤ 7) (ns : List Int) : ∃ (xs ys zs ns' : List Int), OkD R 200 xs ∧ OkD R 200 ys ∧ OkD R 200 zs ∧ F_law_dice [.ow (iv ns), .sh (.int 3), .sh (.int R)] = .ok (.ow [.lst (iv xs), .lst (iv ys), .lst (iv zs)], [.ow (iv ns'), .un, .un]) := by
  obtain ⟨xs, ns1, a1, b1, o1, e1⟩ := dice_step h1 h2 (b := 21) (by omega) (by omega) [] (by simp) (by simp) ns .un .un
  have p1 : ∀ q ∈ [xs], OkD R 42 q := fun q hq => by rw [List.mem_singleton.mp hq]; exact o1
  obtain ⟨ys, ns2, a2, b2, o2, e2⟩ := dice_step h1 h2 (b := 42) (by omega) (by omega) [xs] p1 (by simp) ns1 a1 b1
  have p2 : ∀ q ∈ [xs, ys], OkD R 84 q := fun q hq => by
    rcases List.mem_cons.mp hq with rfl | k
    · exact okD_mono o1 (by omega)
    · rw [List.mem_singleton.mp k]; exact o2
  obtain ⟨zs, ns3, a3, b3, o3, e3⟩ := dice_step h1 h2 (b := 84) (by omega) (by omega) [xs, ys] p2 (by simp) ns2 a2 b2
  refine ⟨xs, ys, zs, ns3, okD_mono o1 (by omega), okD_mono o2 (by omega), okD_mono o3 (by omega), ?_⟩
  have k1 : diceBody [.ow (iv ns), .sh (.int 3), .sh (.int R), .ow [], .sh (.int 0), .un, .un, .un, .un] = .ok (.nx [.ow (iv ns1), .sh (.int 3), .sh (.int R), .ow [.lst (iv xs)], .sh (.int 0), a1, b1, .un, .un]) := e1
  have k2 : diceBody [.ow (iv ns1), .sh (.int 3), .sh (.int R), .ow [.lst (iv xs)], .sh (.int 1), a1, b1, .un, .un] = .ok (.nx [.ow (iv ns2), .sh (.int 3), .sh (.int R), .ow [.lst (iv xs), .lst (iv ys)], .sh (.int 1), a2, b2, .un, .un]) := e2
  have k3 : diceBody [.ow (iv ns2), .sh (.int 3), .sh (.int R), .ow [.lst (iv xs), .lst (iv ys)], .sh (.int 2), a2, b2, .un, .un] = .ok (.nx [.ow (iv ns3), .sh (.int 3), .sh (.int R), .ow [.lst (iv xs), .lst (iv ys), .lst (iv zs)], .sh (.int 2), a3, b3, .un, .un]) := e3
  clear e1 e2 e3
  have r3 : rangeD 0 3 = [.int 0, .int 1, .int 2] := rfl
  unfold F_law_dice
  rw [dice_unf]
  generalize diceBody = B at *
  simp [r3, sLoop, k1, k2, k3]
theorem okD_gs {R : Nat} {c : Int} {xs : List Int} (h2 : R ≤ 7) (h1 : 1 ≤ R) (h : OkD R 200 xs) : Gs xs := by
  obtain ⟨a1, a2, a3, a4⟩ := h
  refine ⟨⟨fun e => ?_, a2, a3⟩, ?_, by omega⟩
  · rw [e] at a3; simp at a3
  · have : Bd xs.sum 8 := by unfold Bd; have : (2 : Nat) ^ 8 = 256 := rfl; omega
    exact this.mono (by omega)
theorem big_gs {R : Nat} {xs : List Int} (h2 : R ≤ 7) (h1 : 1 ≤ R) (h : OkD R 200 xs) : Gs (xs.map ((10 : Int) ^ 28 * ·)) := by
  obtain ⟨a1, a2, a3, a4⟩ := h
  have hs := sum_map_mul ((10 : Int) ^ 28) xs
  have hp : (0 : Int) < 10 ^ 28 := by decide
  have hpos : 0 < (xs.map ((10 : Int) ^ 28 * ·)).sum := by rw [hs]; exact Int.mul_pos hp a3
  refine ⟨⟨fun e => ?_, fun x hx => ?_, hpos⟩, ?_, by rw [List.length_map]; omega⟩
  · rw [e] at hpos; simp at hpos
  · obtain ⟨y, hy, rfl⟩ := List.mem_map.mp hx
    exact Int.mul_nonneg (by decide) (a2 y hy)
  · rw [hs]
    have b1 : Bd xs.sum 8 := by unfold Bd; have : (2 : Nat) ^ 8 = 256 := rfl; omega
    have b2 : Bd ((10 : Int) ^ 28) 94 := by unfold Bd; decide
    exact (b2.mul b1).mono (by omega)
end KV
set_option Elab.async false
set_option linter.all false
set_option autoImplicit false
set_option maxRecDepth 100000
set_option maxHeartbeats 4000000
set_option exponentiation.threshold 100
namespace KV
open PySem PySem.Spec PyProof.Rows L2
def mxRest : FS := (sSeq (sSetF 3 (fCB dList (aCons (eVar 2) (aNil))))
      (sSeq (sSet 4 (eVal (cCall (starFn F_mixed_die) 4 (arV (eVar 2) (arV (eIxVar 1 (eC (.int 0))) (arV (eIxVar 1 (eC (.int 1))) (arV (eIxVar 1 (eC (.int 2))) (arNil))))))))
      (sSeq (sIf (tOr2 (tNot2 (tVal (eCB dIsi (aCons (eVar 4) (aCons (eC (.ty "tuple")) (aNil)))))) (tOr2 (tVal (eBin dNe (eCV dLen 4) (eCB dLen (aCons (eIxVar 1 (eC (.int 0))) (aNil))))) (tVal (eBin dNe (eVar 2) (eVar 3))))) (sSeq (sRet (eC (.bl false)))
      (sNil)) (sNil))
      (sSeq (sIf (tVal (eBin dNe (eVal (cCall (starFn F_mixed_die) 4 (arV (eCB dTuple (aCons (eVar 2) (aNil))) (arV (eCB dTuple (aCons (eIxVar 1 (eC (.int 0))) (aNil))) (arV (eIxVar 1 (eC (.int 1))) (arV (eCB dTuple (aCons (eIxVar 1 (eC (.int 2))) (aNil))) (arNil))))))) (eVar 4))) (sSeq (sRet (eC (.bl false)))
      (sNil)) (sNil))
      (sSeq (sFor (gRng1 (aCons (eCV dLen 4) (aNil))) (hName 5) mxB1)
      (sSeq (sFor (gSeq (eVar 1)) (hName 6) mxB2)
      (sSeq (sRet (eC (.bl true)))
      (sNil))))))))
theorem mx_eq : b_law_mixed_holds = sSeq (sSetF 2 (fComp (gSeq (eVar 1)) (hName 6) (tYes2) (eVal (cCall F_law_take 2 (arS 0 (arV (eC (.int 4)) (arNil))))) [6])) (sSeq (sIf (tVal (eBin dEq (eCV dSum 2) (eC (.int 0)))) (sSeq (sSetIx 2 (eVal (cCall F_law_take 2 (arS 0 (arV (eC (.int 3)) (arNil))))) (eC (.int 2))) (sNil)) (sNil)) mxRest) := rfl
section
variable {a b c : Int} {xs ys zs : List Int} (hx : Gs xs) (hy : Gs ys) (hz : Gs zs) (l1 : xs.length = ys.length) (l2 : xs.length = zs.length)
include hx hy hz l1 l2
theorem mixed_holds (ns : List Int) : ∃ ns' : List Int, F_law_mixed_holds [.ow (iv ns), .sh (.lst [.lst (iv xs), .lst (iv ys), .lst (iv zs)])] = .ok (.sh (.bl true), [.ow (iv ns'), .un]) := by
  obtain ⟨a, ns1, t1, u1⟩ := take_eq ns 4 (by omega)
  obtain ⟨b, ns2, t2, u2⟩ := take_eq ns1 4 (by omega)
  obtain ⟨c, ns3, t3, u3⟩ := take_eq ns2 4 (by omega)
  obtain ⟨r, ns4, t4, u4⟩ := take_eq ns3 3 (by omega)
  have key : ∀ (a b c : Int) (ns : List Int), 0 ≤ a ∧ a ≤ 9 → 0 ≤ b ∧ b ≤ 9 → 0 ≤ c ∧ c ≤ 9 → a + b + c ≠ 0 → ∃ ρ, mxRest [.ow (iv ns), .sh (.lst [.lst (iv xs), .lst (iv ys), .lst (iv zs)]), .ow [.int a, .int b, .int c], .un, .un, .un, .un, .un] = .ok (.rt (.sh (.bl true)) (.ow (iv ns) :: ρ)) := by
    intro a b c ns ha hb hc hp
    have M1 := mixed_eq (Row.lst [a, b, c]) ha hb hc hp (Row.lst xs) (Row.lst ys) (Row.lst zs) hx.gd hy.gd hz.gd l1 l2
    have M2 := mixed_eq (Row.tup [a, b, c]) ha hb hc hp (Row.tup xs) (Row.lst ys) (Row.tup zs) hx.gd hy.gd hz.gd l1 l2
    have n1 := dNe_l [a, b, c] [a, b, c]
    have n2 := dNe_t (mix3 a b c xs ys zs) (mix3 a b c xs ys zs)
    have hlen := mix3_len a b c l1 l2
    have lM : dLen [.tup (iv (mix3 a b c xs ys zs))] = some (.int xs.length) := by simp [hlen]
    have lX : dLen [.lst (iv xs)] = some (.int xs.length) := by simp
    have dI : dIsi [.tup (iv (mix3 a b c xs ys zs)), .ty "tuple"] = some (.bl true) := rfl
    obtain ⟨t5, q1⟩ := mx1_loop hx hy hz l1 l2 ha hb hc (.ow (iv ns)) (.sh (.lst [.int a, .int b, .int c])) .un (List.range xs.length) .un fun j hj => List.mem_range.mp hj
    rw [← range_iv] at q1
    have s1 := mx2_step hx hy hz l1 l2 ha hb hc hp (.ow (iv ns)) (.sh (.lst [.int a, .int b, .int c])) t5 hx rfl
    have s2 := mx2_step hx hy hz l1 l2 ha hb hc hp (.ow (iv ns)) (.sh (.lst [.int a, .int b, .int c])) t5 hy l1.symm
    have s3 := mx2_step hx hy hz l1 l2 ha hb hc hp (.ow (iv ns)) (.sh (.lst [.int a, .int b, .int c])) t5 hz l2.symm
    have h1 : (xs.length : Int) ≤ 1000000 := by have := hx.len; omega
    have h2 : (-1000000 : Int) ≤ xs.length := by omega
    have dlt : dTuple [.lst (iv xs)] = some (.tup (iv xs)) := rfl
    have dlz : dTuple [.lst (iv zs)] = some (.tup (iv zs)) := rfl
    generalize hB1 : mxB1 = B1 at *
    generalize hB2 : mxB2 = B2 at *
    generalize hSF : starFn F_mixed_die = SF at *
    simp only [iv, List.map_cons, List.map_nil] at M1 M2 n1
    change SF [.sh (.lst [.int a, .int b, .int c]), .sh (.lst (iv xs)), .sh (.lst (iv ys)), .sh (.lst (iv zs))] = .ok (.sh (.tup (iv (mix3 a b c xs ys zs))), [.sh (.lst [.int a, .int b, .int c]), .sh (.lst (iv xs)), .sh (.lst (iv ys)), .sh (.lst (iv zs))]) at M1
    change SF [.sh (.tup [.int a, .int b, .int c]), .sh (.tup (iv xs)), .sh (.lst (iv ys)), .sh (.tup (iv zs))] = .ok (.sh (.tup (iv (mix3 a b c xs ys zs))), [.sh (.tup [.int a, .int b, .int c]), .sh (.tup (iv xs)), .sh (.lst (iv ys)), .sh (.tup (iv zs))]) at M2
    clear hlen hx hy hz l1 l2
    simp only [decide_true, Bool.not_true] at n1 n2
    generalize xs.length = L at *
    generalize iv (mix3 a b c xs ys zs) = M at *
    generalize iv xs = X at *
    generalize iv ys = Y at *
    generalize iv zs = Z at *
    generalize iv ns = N at *
    refine ⟨[.sh (.lst [.lst X, .lst Y, .lst Z]), .sh (.lst [.int a, .int b, .int c]), .sh (.lst [.int a, .int b, .int c]), .sh (.tup M), t5, .sh (.lst Z), .un], ?_⟩
    unfold mxRest
    rw [hB1, hB2, hSF]
    simp [M1, M2, n1, n2, lM, lX, dI, q1, h1, h2, dlt, dlz, sLoop, s1, s2, s3]
  by_cases hz0 : (a : Int) + b + c = 0
  · have h1 : (a : Int) = 0 := by omega
    have h2 : (b : Int) = 0 := by omega
    have h3 : (c : Int) = 0 := by omega
    rw [h1] at t1
    rw [h2] at t2
    rw [h3] at t3
    have sm := dSum_l [0, 0, 0]
    have hr : r = 0 ∨ r = 1 ∨ r = 2 := by omega
    refine ⟨ns4, ?_⟩
    rcases hr with rfl | rfl | rfl
    · obtain ⟨ρ, k⟩ := key 2 0 0 ns4 (by omega) (by omega) (by omega) (by omega)
      simp at sm
      simp [fComp, cLoop, noEr, t1, t2, t3, sm, ixN, t4, F_law_mixed_holds, mx_eq, k]
    · obtain ⟨ρ, k⟩ := key 0 2 0 ns4 (by omega) (by omega) (by omega) (by omega)
      simp at sm
      simp [fComp, cLoop, noEr, t1, t2, t3, sm, ixN, t4, F_law_mixed_holds, mx_eq, k]
    · obtain ⟨ρ, k⟩ := key 0 0 2 ns4 (by omega) (by omega) (by omega) (by omega)
      simp at sm
      simp [fComp, cLoop, noEr, t1, t2, t3, sm, ixN, t4, F_law_mixed_holds, mx_eq, k]
  · obtain ⟨ρ, k⟩ := key a b c ns3 (by omega) (by omega) (by omega) hz0
    have sm := dSum_l [(a : Int), b, c]
    have hz1 : ¬ ((a : Int) + ((b : Int) + c) = 0) := by omega
    refine ⟨ns3, ?_⟩
    simp at sm
    simp [fComp, cLoop, noEr, t1, t2, t3, sm, hz1, F_law_mixed_holds, mx_eq, k]
end
end KV
set_option Elab.async false
set_option linter.all false
set_option autoImplicit false
set_option maxRecDepth 100000
set_option maxHeartbeats 8000000
set_option exponentiation.threshold 100
namespace KV
open PySem PySem.Spec PyProof.Rows L2
theorem at_0 (a : D) (l : List D) : atI (a :: l) 0 = some a := ix_l0 a l
theorem at_1 (a b : D) (l : List D) : atI (a :: b :: l) 1 = some b := ix_l1 a b l
theorem at_2 (a b c : D) (l : List D) : atI (a :: b :: c :: l) 2 = some c := ix_l2 a b c l
theorem law_main (ns : List Int) (hn : ns.length ≤ 63) : ∃ bs, F_law [.sh (.scr ns)] = .ok (.sh (.bl true), bs) := by
  obtain ⟨m0, d0⟩ := draws_eq ns hn
  obtain ⟨mm, R, m1, r1, r2, d1⟩ := sizes_eq m0
  obtain ⟨xs, ys, zs, m2, ox, oy, oz, d2⟩ := law_dice_eq r1 r2 m1
  obtain ⟨p, m3, t3, u3⟩ := take_eq m2 6 (by omega)
  have hx := okD_gs (c := 0) r2 r1 ox
  have hz := okD_gs (c := 0) r2 r1 oz
  have hpr : ∃ pr : Int, Bd pr 94 ∧ dIx (.lst [.int 1, .int 1, .int 1, .int 1, .int 1, .int (10 ^ 28)]) (.int p) = some (.int pr) ∧ Gs (ys.map (pr * ·)) := by
    have g1 : Gs (ys.map ((1 : Int) * ·)) := by
      rw [show ys.map ((1 : Int) * ·) = ys by simp]
      exact okD_gs (c := 0) r2 r1 oy
    have b1 : Bd 1 94 := by unfold Bd; decide
    have h6 : p = 0 ∨ p = 1 ∨ p = 2 ∨ p = 3 ∨ p = 4 ∨ p = 5 := by omega
    rcases h6 with rfl | rfl | rfl | rfl | rfl | rfl
    · exact ⟨1, b1, rfl, g1⟩
    · exact ⟨1, b1, rfl, g1⟩
    · exact ⟨1, b1, rfl, g1⟩
    · exact ⟨1, b1, rfl, g1⟩
    · exact ⟨1, b1, rfl, g1⟩
    · exact ⟨10 ^ 28, by unfold Bd; decide, rfl, big_gs r2 r1 oy⟩
  obtain ⟨pr, bp, e4, hy⟩ := hpr
  have q1 := fc_map (α := Int) (g := gSeq (eIxVar 3 (eC (.int 1)))) (h := hName 7) (f := eBin dMul (eVar 4) (eVar 7)) (vs := [7]) D.int (fun x => D.int (pr * x)) (ρ := [.sh (.scr ns), .ow (iv m3), .sh (.lst [.int mm, .int R]), .ow [.lst (iv xs), .lst (iv ys), .lst (iv zs)], .sh (.int pr), .un, .un, .un, .un]) (ρ0 := [.sh (.scr ns), .ow (iv m3), .sh (.lst [.int mm, .int R]), .ow [.lst (iv xs), .lst (iv ys), .lst (iv zs)], .sh (.int pr), .un, .un, .un, .un]) ys
    (by simp [at_1]) (by have := oy.1; omega) rfl (fun x hx' => by
      refine ⟨[.sh (.scr ns), .ow (iv m3), .sh (.lst [.int mm, .int R]), .ow [.lst (iv xs), .lst (iv ys), .lst (iv zs)], .sh (.int pr), .un, .un, .sh (.int x), .un], rfl, ?_, rfl⟩
      have := dMul_bd bp ((okD_gs (c := 0) r2 r1 oy).gd.mem x hx') (by omega) (by omega)
      simp [this])
  rw [show ys.map (fun x => D.int (pr * x)) = iv (ys.map (pr * ·)) by rw [iv, List.map_map]; rfl] at q1
  have ly : (ys.map (pr * ·)).length = R := by rw [List.length_map]; exact oy.1
  have lx := ox.1
  have lz := oz.1
  generalize ys.map (pr * ·) = Ys at *
  have lxy : xs.length = Ys.length := by omega
  have lxz : xs.length = zs.length := by omega
  obtain ⟨m4, h4⟩ := moved_holds (Row.lst xs) (Row.lst Ys) hx.gd hy.gd lxy m3
  obtain ⟨m5, h5⟩ := single_holds (Row.lst Ys) hy.gd m4
  obtain ⟨m6, h6⟩ := mixed_holds hx hy hz lxy lxz m5
  obtain ⟨m7, h7⟩ := like_holds (Row.lst xs) (Row.lst Ys) hx hy lxy m6
  obtain ⟨w, m8, t8, u8⟩ := take_eq m7 4 (by omega)
  obtain ⟨m9, h9⟩ := refuses_dice hx.gd hy.gd lxy m8
  obtain ⟨m10, h10⟩ := refuses_numbers hx.gd hy.gd m8
  have A1 := areas_hold (Row.lst xs) (Row.lst Ys) hx.gd hy.gd lxy
  have A2 := areas_hold (Row.lst zs) (Row.tup xs) hz.gd hx.gd lxz.symm
  have B1 := throws_hold (Row.lst xs) (Row.lst Ys) hx.gd hy.gd lxy
  have B2 := throws_hold (Row.lst zs) (Row.lst zs) hz.gd hz.gd rfl
  have C1 := fractions_hold (Row.lst Ys) (Row.lst zs) hy.gd hz.gd (by omega)
  have E1 := areas_eq (Row.tup xs) (Row.tup Ys) hx.gd hy.gd lxy
  have E2 := areas_eq (Row.lst xs) (Row.lst Ys) hx.gd hy.gd lxy
  have E3 := dNe_t ((List.range xs.length).map (area xs Ys)) ((List.range xs.length).map (area xs Ys))
  simp only [decide_true, Bool.not_true] at E3
  have Z := dEq_self (rowOk [xs, Ys, zs])
  have Z : dEq (.lst [.lst (iv xs), .lst (iv Ys), .lst (iv zs)]) (.lst [.lst (iv xs), .lst (iv Ys), .lst (iv zs)]) = some (.bl true) := Z
  have ix1 : ixN 3 1 = some 1 := rfl
  have dp : dPow (.int 10) (.int 28) = some (.int (10 ^ 28)) := rfl
  have dx : dTuple [.lst (iv xs)] = some (.tup (iv xs)) := rfl
  have dy : dTuple [.lst (iv Ys)] = some (.tup (iv Ys)) := rfl
  have lx1 : dList [.lst (iv xs)] = some (iv xs) := rfl
  have ly1 : dList [.lst (iv Ys)] = some (iv Ys) := rfl
  have lz1 : dList [.lst (iv zs)] = some (iv zs) := rfl
  generalize iv ((List.range xs.length).map (area xs Ys)) = AR at *
  generalize hP : (10 : Int) ^ 28 = P28 at *
  clear hx hy hz lxy lxz lx ly lz ox oy oz bp
  generalize iv xs = X at *
  generalize iv Ys = Y at *
  generalize iv ys = Y0 at *
  generalize iv zs = Zz at *
  have q2 : fComp (gSeq (eVar 3)) (hName 8) tYes2 (eFrz (fCB dList (aCons (eVar 8) aNil))) [8] [.sh (.scr ns), .ow (iv m3), .sh (.lst [.int mm, .int R]), .ow [.lst X, .lst Y, .lst Zz], .sh (.int pr), .un, .un, .un, .un] = .ok ([.lst X, .lst Y, .lst Zz], [.sh (.scr ns), .ow (iv m3), .sh (.lst [.int mm, .int R]), .sh (.lst [.lst X, .lst Y, .lst Zz]), .sh (.int pr), .un, .un, .un, .un]) := by
    simp [fComp, cLoop, noEr, lx1, ly1, lz1]
  refine ⟨[.un], ?_⟩
  by_cases hw : w < 2
  · have hw2 : ¬ (1 : Int) < w := by omega
    have hw3 : (w : Int) < 2 := by omega
    simp [F_law, b_law, d0, d1, d2, t3, dp, e4, q1, ix1, q2, at_0, at_1, at_2, A1, A2, B1, B2, C1, h4, h5, h6, h7, dx, dy, E1, E2, E3, t8, hw3, hw2, h9, h10, Z]
  · have hw2 : (1 : Int) < w := by omega
    have hw3 : ¬ (w : Int) < 2 := by omega
    simp [F_law, b_law, d0, d1, d2, t3, dp, e4, q1, ix1, q2, at_0, at_1, at_2, A1, A2, B1, B2, C1, h4, h5, h6, h7, dx, dy, E1, E2, E3, t8, hw3, hw2, h9, h10, Z]
end KV
set_option maxRecDepth 100000 in
theorem PySem.Challenge.cw_dicewins_k01_areas_leads_and_fractions_holds : PySem.Challenge.rw_dicewins_k01_areas_leads_and_fractions.Holds := by
  exact k01_of KV.law_main
