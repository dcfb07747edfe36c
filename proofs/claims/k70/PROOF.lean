import PyProof.Rows.All
import HandS.ForMost
import HandS.ForExc
import HandS.SortInts
import HandS.IsInst
import HandS.TupAny
import HandS.Wide
import HandS.Sort
import HandS.AnyAll
import PyProof.ReprRoads
import PyProof.GenCompD
import HandS.Style
import HandS.Conv
import HandS.SortOrd
import HandS.Defaults
import HandS.Zip
import HandS.TupMul
import HandS.Strs
import HandS.Dict
import HandS.Small
import PyProof.Rows.TupDisplay
import PyProof.TupleOfGen
import PyProof.SumAny
import PyProof.WalksMore
import HandS.SetFor
import HandS.Walk
import KE.GoesMore
import KE.GoesEnum
import HandS.Rev
import PyProof.Rows.Range3
import KE.SortData
import KE.DataCmp
import HandS.TupLen
import PyProof.RangeIter
import HandS.Iter
import HandS.DictComp
import HandS.GenOver
import PyProof.GenQ
import HandS.NoneIn
import PyProof.ZipIter
import PyProof.CallType
import HandS.Exc
import HandS.ExcIs
import HandS.ExcOwn
import HandS.TryOnly
import HandS.EndBits
import HandS.EndTab
import HandS.HeadWalk
import HandS.HeadHook4
import HandS.Head2
import HandS.Hot
import HandS.HotCalls
import HandS.ExcCtx
import HandS.SortKw
import KE.SortCalls
import HandS.Head3
import HandS.Deep
import HandS.Comp
import KE.KDictSum
import HandS.ExcValue
import HandS.SetKeys
import PyProof.DictMoreH
import KE.KDictWalk
import KE.KDictCopyH
import PySem.Challenge.RW_maymeet_k70_whole_leavings_and_goings
set_option Elab.async false
set_option linter.all false
set_option maxRecDepth 100000
set_option maxHeartbeats 8000000
set_option exponentiation.threshold 5000
namespace K70
open PySem PySem.Spec PyProof.Rows L2
def topS (i : Nat) : Stmt := PySem.Challenge.pw_maymeet_k70_whole_leavings_and_goings.main.body.getD i (.Pass ⟨0, 0, 0, 0⟩)
abbrev s_is_whole : Stmt := topS 14
abbrev s_is_many : Stmt := topS 15
abbrev s_is_gap : Stmt := topS 16
abbrev s_is_row : Stmt := topS 17
abbrev s_check_many : Stmt := topS 18
abbrev s_is_book : Stmt := topS 19
abbrev s_check_row : Stmt := topS 20
abbrev s_check_book : Stmt := topS 21
abbrev s_check_book_and_row : Stmt := topS 22
abbrev s_check_rows : Stmt := topS 23
abbrev s_check_number : Stmt := topS 24
abbrev s_check_few : Stmt := topS 25
abbrev s_row_of : Stmt := topS 26
abbrev s_swapped : Stmt := topS 27
abbrev s_corners : Stmt := topS 28
abbrev s_unlike_corner : Stmt := topS 29
abbrev s_below : Stmt := topS 30
abbrev s_lesser_ahead : Stmt := topS 32
abbrev s_farthest_from : Stmt := topS 33
abbrev s_farthest : Stmt := topS 34
abbrev s_lets : Stmt := topS 35
abbrev s_places_of : Stmt := topS 36
abbrev s_fewest : Stmt := topS 37
abbrev s_check_let : Stmt := topS 39
abbrev s_is_of_meetings : Stmt := topS 40
abbrev s_still_lets : Stmt := topS 41
abbrev s_check_most : Stmt := topS 42
abbrev s_is_left : Stmt := topS 43
abbrev s_farthest_behind : Stmt := topS 44
abbrev s_with_meeting : Stmt := topS 45
abbrev s_all_greatest : Stmt := topS 46
abbrev s_greatest_left : Stmt := topS 47
abbrev s_led_on : Stmt := topS 49
abbrev s_ways_from : Stmt := topS 50
abbrev s_ways_ahead : Stmt := topS 51
abbrev s_ways_behind : Stmt := topS 52
abbrev s_check_asked : Stmt := topS 53
abbrev s_goings : Stmt := topS 54
abbrev s_with_one_more : Stmt := topS 55
abbrev s_spread_on : Stmt := topS 56
abbrev s_by_changes : Stmt := topS 57
abbrev s_nth : Stmt := topS 58
abbrev s_musts : Stmt := topS 59
abbrev s_law_cell_at : Stmt := topS 61
abbrev s_law_bag : Stmt := topS 62
abbrev s_law_draw : Stmt := topS 63
abbrev s_law_line : Stmt := topS 64
abbrev s_law_swap : Stmt := topS 65
abbrev s_law_turns : Stmt := topS 66
abbrev s_law_plan : Stmt := topS 67
abbrev s_law_far : Stmt := topS 68
abbrev s_law_let_row : Stmt := topS 69
abbrev s_law_led : Stmt := topS 70
abbrev s_law_unused : Stmt := topS 71
abbrev s_law_listed_right : Stmt := topS 72
abbrev s_law_right : Stmt := topS 73
abbrev s_law : Stmt := topS 74
def dd (x : Str) (st : Stmt) : He.DefD := ⟨(x, none), x, x, defArgs st, defBody st, defScope st, [], []⟩
def ddk (x : Str) (st : Stmt) (k : List (Str × He.Dv)) : He.DefD := ⟨(x, none), x, x, defArgs st, defBody st, defScope st, [], k⟩
def fns : List He.DefD := [dd "is_whole" s_is_whole, dd "is_many" s_is_many, dd "is_gap" s_is_gap, dd "is_row" s_is_row, dd "check_many" s_check_many, dd "is_book" s_is_book, dd "check_row" s_check_row, dd "check_book" s_check_book, dd "check_book_and_row" s_check_book_and_row, dd "check_rows" s_check_rows, dd "check_number" s_check_number, dd "check_few" s_check_few, dd "row_of" s_row_of, dd "swapped" s_swapped, dd "corners" s_corners, dd "unlike_corner" s_unlike_corner, dd "below" s_below, dd "lesser_ahead" s_lesser_ahead, dd "farthest_from" s_farthest_from, dd "farthest" s_farthest, dd "lets" s_lets, dd "places_of" s_places_of, dd "fewest" s_fewest, dd "check_let" s_check_let, dd "is_of_meetings" s_is_of_meetings, dd "still_lets" s_still_lets, dd "check_most" s_check_most, dd "is_left" s_is_left, dd "farthest_behind" s_farthest_behind, dd "with_meeting" s_with_meeting, dd "all_greatest" s_all_greatest, ddk "greatest_left" s_greatest_left [("most", .int 1000)], dd "led_on" s_led_on, dd "ways_from" s_ways_from, dd "ways_ahead" s_ways_ahead, dd "ways_behind" s_ways_behind, dd "check_asked" s_check_asked, dd "goings" s_goings, dd "with_one_more" s_with_one_more, dd "spread_on" s_spread_on, dd "by_changes" s_by_changes, dd "nth" s_nth, dd "musts" s_musts, dd "_law_cell_at" s_law_cell_at, dd "_law_bag" s_law_bag, dd "_law_draw" s_law_draw, dd "_law_line" s_law_line, dd "_law_swap" s_law_swap, dd "_law_turns" s_law_turns, dd "_law_plan" s_law_plan, dd "_law_far" s_law_far, dd "_law_let_row" s_law_let_row, dd "_law_led" s_law_led, dd "_law_unused" s_law_unused, dd "_law_listed_right" s_law_listed_right, dd "_law_right" s_law_right, dd "law" s_law]
def fas : List He.Fa := [.int "MOST_PEOPLE" 9, .int "MOST_GONE_THROUGH" 6, .glo "is_whole", .glo "is_many", .glo "is_gap", .glo "is_row", .glo "check_many", .glo "is_book",
  .glo "check_row", .glo "check_book", .glo "check_book_and_row", .glo "check_rows", .glo "check_number", .glo "check_few", .glo "row_of", .glo "swapped",
  .glo "corners", .glo "unlike_corner", .glo "below", .glo "lesser_ahead", .glo "farthest_from", .glo "farthest", .glo "lets", .glo "places_of",
  .glo "fewest", .glo "check_let", .glo "is_of_meetings", .glo "still_lets", .glo "check_most", .glo "is_left", .glo "farthest_behind", .glo "with_meeting",
  .glo "all_greatest", .glo "greatest_left", .glo "led_on", .glo "ways_from", .glo "ways_ahead", .glo "ways_behind", .glo "check_asked", .glo "goings",
  .glo "with_one_more", .glo "spread_on", .glo "by_changes", .glo "nth", .glo "musts", .glo "_law_cell_at", .glo "_law_bag", .glo "_law_draw",
  .glo "_law_line", .glo "_law_swap", .glo "_law_turns", .glo "_law_plan", .glo "_law_far", .glo "_law_let_row", .glo "_law_led", .glo "_law_unused",
  .glo "_law_listed_right", .glo "_law_right", .glo "law", .free "isinstance", .free "int", .free "bool", .free "tuple", .free "len",
  .free "all", .free "sorted", .free "list", .free "range", .free "max", .free "min", .free "abs", .free "repr",
  .free "enumerate", .free "any", .free "sum", .free "zip", .free "reversed", .free "set"]
def tfs : List He.Defn := [("is_row", none), ("is_book", none), ("places_of", none), ("musts", none), ("is_of_meetings", none)]
abbrev Rw : PySem.W.OpenRow := PySem.W.OpenLaw.row PySem.Challenge.rw_maymeet_k70_whole_leavings_and_goings
def exB (K : PySem.W.Frag) : Bool := (decide (PySem.W.nsIn K mainGlobals "zip_longest" = some (some (.type "itertools.zip_longest"))))
abbrev hk : PySem.W.Hook := He.hookX 4 fas fns [] tfs exB
def ob (s : PySem.W.SharedT) : He.AlX := He.obsX 4 fas fns [] tfs exB (HandSHeadRun.getT s)
theorem ob_eq (s : PySem.W.SharedT) : ob s = hk.obs s.abs := He.obsX_eq (HandSHeadRun.getT_eq s)
def others : List Str := (["zip_longest", "MeetError", "NoMany", "NoRow", "NoBook", "NoNumber", "Unlike", "NotLet", "NoLeaving", "TooMany", "MOST_PEOPLE", "MOST_GONE_THROUGH", "is_whole", "is_many", "is_gap", "is_row", "check_many", "is_book", "check_row", "check_book"] : List Str) ++ (["check_book_and_row", "check_rows", "check_number", "check_few", "row_of", "swapped", "corners", "unlike_corner", "below", "lesser_ahead", "farthest_from", "farthest", "lets", "places_of", "fewest", "check_let", "is_of_meetings", "still_lets", "check_most", "is_left"] : List Str) ++ (["farthest_behind", "with_meeting", "all_greatest", "greatest_left", "led_on", "ways_from", "ways_ahead", "ways_behind", "check_asked", "goings", "with_one_more", "spread_on", "by_changes", "nth", "musts", "_law_cell_at", "_law_bag", "_law_draw", "_law_line", "_law_swap"] : List Str) ++ (["_law_turns", "_law_plan", "_law_far", "_law_let_row", "_law_led", "_law_unused", "_law_listed_right", "_law_right"] : List Str)
theorem run (w : World) : HandSHeadRun.RunEqI Rw (PySem.W.view Rw.prog [74]) hk ob 6000 others w := by
  unfold HandSHeadRun.RunEqI
  kernel_rfl
end K70
namespace MM
open PySem PySem.Spec PyProof.Rows L2
/-! ### great powers -/
def CPowW (i j : Int) : Prop := 0 ≤ j ∧ (Builtin.Int.intBits i : Int) * j ≤ 2 ^ 27
section
variable {X : Cx}
theorem op_powW : OpR X (binaryOp .Pow) (rI CPowW fun i j => .int (i ^ j.toNat)) := by
  intro pins s σ H x y v u Q I rx ry h; obtain ⟨i, j, rfl, rfl, hc, q⟩ := h; obtain ⟨t, rfl⟩ := rx; obtain ⟨t', rfl⟩ := ry
  exact pow_int hc.1 hc.2 ⟨.int _, H, I.tok _, ⟨_, rfl⟩, q⟩
end
theorem bits_le {i : Int} {k : Nat} (h : i.natAbs < 2 ^ k) : Builtin.Int.intBits i ≤ k := by
  unfold Builtin.Int.intBits
  split
  · omega
  · rename_i hne; have h0 : i.natAbs ≠ 0 := by intro e; apply hne; have := Int.natAbs_eq_zero.mp e; subst this; simp
    have := (Nat.log2_lt h0).mpr h; omega
end MM
namespace MM
open PySem PySem.Spec PyProof.Rows L2 GxR
/-! ### defs that show their data: nothing is being shown around them -/
structure FnG (P : Program) (w : World) (K : PySem.W.Frag) (mg : Str → Option Value) (base : Heap) (CX : CXT) (k : Nat) (f : Addr) (fd : FuncData) (ps : List Str) (sp : Sp) : Prop where
  len : ∀ vs H Q E, sp vs H Q E → vs.length = ps.length
  run : ∀ (A : Around) (outer : List Env) (s : Shared) (H : Hp) (args : Args) (us : List Value) (vs : List V) (Q : VK) (E : XK), Room k A → A.guards = some [] → Env0 P w K mg base A outer s H → BindsTo s fd args (ps.zip us) → Vals vs us → sp vs H Q E → codeAny (model P w) A (.call (.ref f) args) (CR CX outer P w H s Q E) s
section
variable {P : Program} {w : World} {K : PySem.W.Frag} {mg : Str → Option Value} {base : Heap} {CX : CXT} {j k : Nat} {f : Addr} {fd : FuncData} {ps : List Str} {sp : Sp}
theorem FnG.of (F : FnOk P w K mg base CX k f fd ps sp) : FnG P w K mg base CX k f fd ps sp := ⟨F.len, fun A outer s H args us vs Q E hr _ => F.run A outer s H args us vs Q E hr⟩
theorem FnG.mono (F : FnG P w K mg base CX j f fd ps sp) (h : j ≤ k) : FnG P w K mg base CX k f fd ps sp := ⟨F.len, fun A outer s H args us vs Q E hr => F.run A outer s H args us vs Q E (hr.mono h)⟩
theorem guards_deeper {A : Around} {env : Env} (h : A.guards = some []) : (A.deeper env).guards = some [] := by
  obtain ⟨a, b, c, d, e⟩ := A; subst h; first | rfl | simp [Around.deeper]
end
section
variable {X : Cx} {CX : CXT} {k : Nat} {f : Addr} {fd : FuncData} {ps ks : List Str} {sp : Sp} {dvs : List V} {ds : List Value} {E : XK} {x : Str} {p pos : Pos} {e : Expr} {es : List Expr} {t tk : TA} {kws : List Keyword} {g : List Value → List Value → List Value} {gV : List V → List V → List V}
theorem run_fnG {pins : List (Addr × Obj)} {σ : L2.St} {H : Hp} {s : Shared} {Q : VK} {us : List Value} {vs : List V} (F : FnG X.prog X.w X.K X.mg X.base CX k f fd ps sp) (hr : Room k X.A) (hG : X.A.guards = some []) (hb : Binds X.K fd ps ds) (hd : Vals dvs ds) (hx : Passes CX X E)
    (I : Inv X pins σ H s) (r : Vals vs us) (h : sp (vs ++ dvs) H Q E) : wpAny (model X.prog X.w) X.A (call (.ref f) us) (EP X pins σ Q) X.xe s := by
  have r2 : Vals (vs ++ dvs) (us ++ ds) := r.append hd
  have hl : (us ++ ds).length = ps.length := r2.length ▸ F.len _ _ _ _ h
  refine wpAny_call (codeAny_mono (F.run X.A X.stack s H ⟨us, []⟩ (us ++ ds) (vs ++ dvs) Q E hr hG I.env0 (hb s us I.kIn hl) r2 h) fun r s' hq => ?_)
  match r, hq with
  | .error e, hq => exact hx pins σ H s e s' I hq
  | .ok (.ret u), hq => exact I.after hq
theorem pe_callG (F : FnG X.prog X.w X.K X.mg X.base CX k f fd ps sp) (hr : Room k X.A) (hG : X.A.guards = some []) (hg : Gl X x) (hm : X.mg x = some (.ref f)) (hk : PySem.W.keepIn X.K (.ref f) = true) (hb : Binds X.K fd ps ds) (hd : Vals dvs ds) (hx : Passes CX X E)
    (ha : PA X (e :: es) t) (hdb : (x == ("__debug__" : Str)) = false := by decide) (he : starEach (e :: es) X.env = (false, eval e X.env) :: starEach es X.env := by rfl) (hpl : (backTo pos (starEach es X.env)).any (·.1) = false := by rfl) :
    PE X (.Call (.Name x p) (e :: es) [] pos) (tCall sp dvs E t) :=
  ⟨fun pins s σ H Q I h => wpAny_Call_Name_kw (ld_glob I hg hm (PySem.W.callWith_K (h₀ := X.base) I.ok.mod.kin hk (thn (ha.run pos pins s σ H _ I h) fun us s1 ⟨vs, H1, I1, r, q⟩ => ⟨I1.kIn, run_fnG F hr hG hb hd hx I1 r q⟩) he hpl) hdb)⟩
end
/-! ### a def's body -/
theorem fn_ofG {CX : CXT} {P : Program} {w : World} {K : PySem.W.Frag} {mg : Str → Option Value} {base : Heap} {k : Nat} {f : Addr} {name qual : Str} {params : Arguments} {body : List Stmt} {scope : Scope} {dV kV doc pm cdv ct oc : Value} {an od : Option Addr}
    {osl : Array (Option Value)} {N ps : List Str} {sp : Sp} (lk : K.lookup f = some ⟨oc, od, .func (PySem.W.fnOf name qual params body scope dV kV doc pm an cdv ct), osl⟩) (hcd : PySem.W.codeIn K cdv qual = true) (S : FnScope N ps scope)
    (len : ∀ vs H Q E, sp vs H Q E → vs.length = ps.length)
    (hbody : ∀ (A : Around) (outer : List Env) (s : Shared) (H : Hp) (vs : List V) (Q : VK) (E : XK), Room k (A.deeper (envOfC qual scope s.heap.objs.size f cdv)) → (A.deeper (envOfC qual scope s.heap.objs.size f cdv)).guards = some [] → sp vs H Q E →
      ∃ t, PSs (cxOf CX P w K mg base N qual scope f cdv A outer s H E) body t ∧ t { nx := fun _ H' => Q .non H', rt := Q } (start N vs) H) :
    FnG P w K mg base CX (k + 1) f (PySem.W.fnOf name qual params body scope dV kV doc pm an cdv ct) ps sp := by
  refine ⟨len, fun A outer s H args us vs Q E hr hG e0 hb r hsp => ?_⟩
  have KX : K.In s.heap := e0.mod.kin.keeps fun b o e => (e0.bs b o e).1
  refine codeAny_call_function hr.depth (KX _ _ lk) rfl S.co S.gen rfl (PySem.W.codeRec_of KX hcd) (hb _ _ _ _ ?_)
  refine wpAny_newFunctionEnv_cells S.kind (fun ⟨n, v⟩ hy => (S.par n (List.of_mem_zip hy).1).imp id fun q => ⟨q, PySem.W.cellsFrom_some _ _ _ (.inl q)⟩) fun env he s1 x => ?_
  subst he
  refine ⟨(e0.mod.nolimit.keeps fun b o e => (e0.bs b o e).1).keeps x.toInCall.keep, codeAny_func ?_⟩
  obtain ⟨t, ht, hq⟩ := hbody A outer s H vs Q E (hr.deeper _) (guards_deeper hG) hsp
  refine wpAny_mono (ht.run [] s1 (start N vs) H _ (inv_start S hr.hd e0 (len _ _ _ _ hsp) r x) hq) (fun fl s' hs => ?_) fun e s' hs => hs
  match fl, hs with
  | .ret u, ⟨v, σ', H', J, rv, q⟩ => exact ⟨v, H', J.os, J.bare, J.base, J.hok, rv, q⟩
  | .next, ⟨σ', H', J, q⟩ => exact ⟨V.non, H', J.os, J.bare, J.base, J.hok, rfl, q⟩
  | .brk, ⟨_, _, _, q⟩ => exact False.elim q
  | .cont, ⟨_, _, _, q⟩ => exact False.elim q
end MM
namespace MM
open PySem PySem.Spec PyProof.Rows L2 GxR
/-! ### all(test for x in t), t a tuple of anything -/
/-- a generator's frame over the def's: what it reads -/
structure GenIn (X : Cx) (P : Addr) (scope : Scope) (s1 : Shared) (cenv : Env) (s2 : Shared) : Prop where
  sco : cenv.scope = scope
  glob : cenv.globals = X.env.globals
  blt : cenv.builtins = builtinsNs
  cells : cenv.cells = cloFrom X.env.cells scope.names []
  keep : ∀ b o, b ≠ P → s1.heap.get? b = some o → s2.heap.get? b = some o
  lim : s2.heap.NoLimit
/-- the element is a test of the item: pb tells it of what the item is -/
def EltT (X : Cx) (P : Addr) (scope : Scope) (x : Str) (elt : Expr) (ok : L2.St → Hp → V → Prop) (pb : L2.St → V → Bool) : Prop :=
  ∀ (pins : List (Addr × Obj)) (σ : L2.St) (H1 : Hp) (s1 : Shared), Inv X pins σ H1 s1 → ∀ (cenv : Env) (A' : Around) (E' : Value → Shared → Prop) (v : V) (u : Value) (s2 : Shared) (m2 : Str → Option Value), GenIn X P scope s1 cenv s2 → TabG H1 P → A'.handled = none → A'.depth ≤ X.A.depth + 1 → A'.units ≤ X.A.units + 8 →
    RelV v u → ok σ H1 v → s2.heap.Ns cenv.locals m2 → m2 x = some u → wpAny (model X.prog X.w) A' (eval elt cenv) (fun y s3 => y = .bool (pb σ v) ∧ Keeps s2 s3) E' s2
section
variable {X : Cx} {pins : List (Addr × Obj)} {σ : L2.St} {H : Hp} {s : Shared}
/-- the generator g over the items us, ready to be walked -/
def ReadyT (X : Cx) (pins : List (Addr × Obj)) (σ : L2.St) (H1 : Hp) (P : Addr) (xs : List V) (q : V → Bool) (g : Addr) (s5 : Shared) : Prop :=
  ∃ (fp wr : List Addr) (G : Array GenState → Array GenState → Prop) (F : Nat → Value → Prop) (St : Nat → Shared → Prop) (tr : Nat → Bool),
    WalksS X.prog X.w X.A.in1 g fp wr G xs.length F St ∧ St 0 s5 ∧ TruthOf X.prog X.w X.A.in1 F tr ∧ (∀ j x, xs[j]? = some x → tr j = q x) ∧ ∀ s', Moved wr G s5 s' → ∃ H2, Tabbed P H1 H2 ∧ Inv X pins σ H2 s'
theorem all_at {xs : List V} {q : V → Bool} {tr : Nat → Bool} (h : ∀ j x, xs[j]? = some x → tr j = q x) : (List.range xs.length).all tr = xs.all q := by
  rw [Bool.eq_iff_iff, List.all_eq_true, List.all_eq_true]
  refine ⟨fun hh b hb => ?_, fun hh j hj => ?_⟩
  · obtain ⟨j, hj, e⟩ := List.getElem_of_mem hb
    rw [← e, ← h j _ (List.getElem?_eq_getElem hj)]; exact hh j (List.mem_range.mpr hj)
  · have hj' := List.mem_range.mp hj
    rw [h j _ (List.getElem?_eq_getElem hj')]; exact hh _ (List.getElem_mem hj')
theorem gen_tup {c P : Addr} {elt iter : Expr} {x : Str} {px gpos : Pos} {scope : Scope} {ok : L2.St → Hp → V → Prop} {pb : L2.St → V → Bool} {te : TE} {k : Nat} {Q' : Value → Shared → Prop} {R : List V → Hp → Prop}
    (hr : Room k X.A) (TB : TabB X.base X.mg c P) (hcode : X.env.code = .ref c) (S : GenS X.env scope x) (hi : PE X iter te) (hel : EltT X P scope x elt ok pb)
    (hs : ∀ v, genFold iter X.env v = pure v) (I : Inv X pins σ H s) (h : te σ H fun v H1 => ∃ (a : Addr) (xs : List V), v = .ref a ∧ SqT X.K H1 a xs ∧ TabG H1 P ∧ (∀ x ∈ xs, ok σ H1 x) ∧ R xs H1)
    (hQ : ∀ xs H1 g s5, R xs H1 → ReadyT X pins σ H1 P xs (pb σ) g s5 → Q' (.ref g) s5) :
    wpAny (model X.prog X.w) X.A (eval (.GeneratorExp elt [⟨.Name x px, iter, [], 0⟩] scope gpos) X.env) Q' X.xe s := by
  refine wpAny_GeneratorExp_walksQD hr.hd S.co (closure_ok S.free) S.cell S.dot S.loc S.kind (by have := hr.dp; omega) ?_ hs
  refine thn (hi.run pins s σ H _ I h) fun xv s1 ⟨v, H1, I1, r1, a, xs, ev, hT, ⟨ps, hP, ht⟩, hok, q1⟩ => ?_
  subst ev; obtain rfl : xv = Value.ref a := r1
  obtain ⟨its, rv, htup, hsz⟩ := I1.tuple hT
  have htl : s1.heap.IsTuple a its.toArray := by first | exact htup | (obtain ⟨o, e1, e2, e3⟩ := htup; exact ⟨o, e1, e2, e3⟩)
  refine wpAny_pyIter_tuple htl ?_
  have hPs : s1.heap.get? P = some { cls := .none, data := .fields ps } := I1.hok P _ hP
  generalize ho : ({ cls := .type "tuple_iterator", data := .fields #[.ref a, .int 0 0] } : Obj) = o
  have sz2 : (s1.heap.push o).objs.size = s1.heap.objs.size + 1 := Heap.size_push ..
  have hPlt := Heap.lt_size hPs
  have alt : a < s1.heap.objs.size := by obtain ⟨_, e1, _⟩ := htl; exact Heap.lt_size e1
  have aneP : a ≠ P := by
    intro z; obtain ⟨oo, e1, e2, _⟩ := htl; rw [z, hPs] at e1; cases e1; cases e2
  have old : ∀ b u, s1.heap.get? b = some u → (s1.heap.push o).get? b = some u := fun b u e => Heap.get?_push_of_some _ e
  have cd : PySem.W.CodeHd (s1.heap.push o) c P := TB.code.keeps fun b u e => old b u (I1.bk b u e)
  have lim2 : (s1.heap.push o).NoLimit := I1.nolimit.push o
  have itAt : (s1.heap.push o).IsTupleIter s1.heap.objs.size a 0 ∧ (s1.heap.push o).IsTuple a its.toArray := by
    refine ⟨?_, htl.at fun u e => old _ u e⟩
    subst ho; exact ⟨_, Heap.get?_push_size _ rfl, rfl, rfl⟩
  have cont : ∀ (code : Value) (h3 : Heap) (tk : Nat) (ps' : Array Value), Heap.ExtBut P (s1.heap.push o) h3 → (s1.heap.push o).objs.size ≤ h3.objs.size → h3.get? P = some { cls := .none, data := .fields ps' } → (∃ more, ps' = ps ++ more) → TriplesOk ps'.toList → wpAny (model X.prog X.w) X.A (builtinsFor X.env.globals X.env.builtins) (fun bi s₄ =>
        ∃ Ia fp wr n₀ Pf St₀ pz F, Value.ref s1.heap.objs.size = .ref Ia ∧ (∀ A' : Around, A'.handled = none → Walks X.prog X.w A' Ia fp wr n₀ Pf St₀) ∧ St₀ 0 s₄.heap ∧ (∀ b ∈ fp, b < s₄.heap.objs.size) ∧ s₄.heap.NoLimit ∧ cStatics ∉ wr ∧
          (∀ href : Heap, (∀ b o, s₄.heap.get? b = some o → href.get? b = some o) → QuietGenD X.prog X.w (genEnv scope (cloFrom X.env.cells scope.names []) s₄.heap.objs.size code bi X.env) x [] elt (List.range s₄.heap.objs.size) wr Pf pz F href (X.A.depth + 1) (X.A.units + 8)) ∧
          (∀ a h₅ tk gs, gs.bare = true → s₄.heap.objs.size < a → h₅.objs.size = a + 1 → (∀ b o, s₄.heap.get? b = some o → h₅.get? b = some o) →
            WalksS X.prog X.w X.A.in4 a (a :: s₄.heap.objs.size :: List.range s₄.heap.objs.size) (s₄.heap.objs.size :: wr) (GenOnlyQ s₄.gens.size) (passing pz n₀ 0).length (fun j y => ∃ i, (passing pz n₀ 0)[j]? = some i ∧ F i y) (GenAt X.prog X.w X.A.in4 a s₄.gens.size s₄.heap.objs.size (List.range s₄.heap.objs.size) wr pz n₀ F) →
            GenAt X.prog X.w X.A.in4 a s₄.gens.size s₄.heap.objs.size (List.range s₄.heap.objs.size) wr pz n₀ F 0 { s₄ with gens := s₄.gens.push gs, toks := tk, heap := h₅ } → Q' (.ref a) { s₄ with gens := s₄.gens.push gs, toks := tk, heap := h₅ })) X.xe { s1 with heap := h3, toks := tk } := by
    intro code h3 tk ps' hx hsz3 hP3 hmore ht3
    obtain ⟨bm, ob, e1, e2, e3, e4, e5, e6, e7, e8⟩ := TB.bm
    have hcP : cStatics ≠ P := by
      intro e; obtain ⟨_, ⟨o', es, ep, ho', hd', _⟩, _⟩ := I1.nolimit; rw [e, hPs] at ho'; cases ho'; cases hd'
    have hsz4 : s1.heap.objs.size + 1 ≤ h3.objs.size := by rw [← sz2]; exact hsz3
    have hcl : cStatics < s1.heap.objs.size := let ⟨_, hns, _⟩ := I1.nolimit; hns.lt
    have keep3 : ∀ b u, b ≠ P → s1.heap.get? b = some u → h3.get? b = some u := fun b u hb e => hx b u hb (old b u e)
    have lim3 : h3.NoLimit := lim2.extBut hx hcP
    refine wpAny_builtinsFor (m := X.mg) (by rw [I1.ok.glob]; exact ((I1.mod.glob.keeps I1.bk).push o).extBut hx TB.gP) e1 e2 (keep3 _ _ e4 (I1.bk _ _ e5)) e6 e7 e8 ?_
    refine ⟨s1.heap.objs.size, [s1.heap.objs.size, a], [s1.heap.objs.size], its.length, (fun i u => its.toArray[i]? = some u), (fun i h => h.IsTupleIter s1.heap.objs.size a i ∧ h.IsTuple a its.toArray), (fun _ => true), (fun i y => ∃ v, xs[i]? = some v ∧ y = .bool (pb σ v)), rfl, fun A' hA => ?_, ?_, ?_, lim3, ?_, ?_, ?_⟩
    · exact Walks.tuple hA _ a (Nat.ne_of_lt alt) its.toArray
    · refine ⟨itAt.1.at fun u e => hx _ u (Nat.ne_of_gt hPlt) e, itAt.2.at fun u e => hx _ u aneP e⟩
    · intro b hb
      show b < h3.objs.size
      rcases List.mem_cons.mp hb with z | z
      · rw [z]; exact hsz4
      · rw [List.mem_singleton.mp z]; exact Nat.lt_of_lt_of_le alt (Nat.le_trans (Nat.le_succ _) hsz4)
    · intro z; exact Nat.ne_of_lt hcl (List.mem_singleton.mp z)
    · intro href hhref
      refine ⟨fun A' E' i v s₂ m₂ hA _ _ hPv hn hm hk => by simp only [List.forIn_nil]; exact wpAny_pure ⟨rfl, keeps_refl _⟩, fun A' E' i u s₂ m₂ hA hD hU hPv _ hn hm hk => ?_⟩
      have hi2 : i < its.length := by
        have := (Array.getElem?_eq_some_iff.mp hPv).1; simpa using this
      have hix : i < xs.length := by rw [rv.length]; exact hi2
      obtain ⟨u', hu', ru⟩ := rv.get (List.getElem?_eq_getElem hix)
      have eu : u' = u := by
        have q := hPv; rw [List.getElem?_toArray, hu'] at q; exact Option.some.inj q
      subst eu
      have kp : ∀ b ob, b ≠ P → s1.heap.get? b = some ob → s₂.heap.get? b = some ob := fun b ob hb e => by
        have hlt := Heap.lt_size e
        exact hk b (List.mem_range.mpr (Nat.lt_of_lt_of_le hlt (Nat.le_trans (Nat.le_succ _) hsz4))) (fun z => Nat.ne_of_lt hlt (List.mem_singleton.mp z)) ob (hhref b ob (keep3 b ob hb e))
      have hlimS : s₂.heap.NoLimit := by
        exact I1.nolimit.at fun ob e => kp _ ob hcP e
      exact wpAny_mono (hel pins σ H1 s1 I1 _ A' E' _ u' s₂ m₂ ⟨rfl, rfl, rfl, rfl, kp, hlimS⟩ ⟨ps, hP, ht⟩ hA hD hU ru (hok _ (List.getElem_mem hix)) hn hm) (fun y s3 r => ⟨⟨_, List.getElem?_eq_getElem hix, r.1⟩, r.2⟩) fun _ _ e => e
    · intro g h5 tk5 gs hgb hag hsz5 hk5 W5 hat
      simp only [GxR.passing_true, List.length_range] at W5
      rw [← rv.length] at W5 hat
      have W6 := W5.in4_1
      refine hQ xs H1 g _ q1 ⟨_, _, _, _, _, (fun j => match xs[j]? with | some b => pb σ b | none => true), W6, hat, fun j y sj Qj Ej hy hQj => ?_, fun j b e => by simp only [e], fun s' hm => ?_⟩
      · obtain ⟨i, hij, cc, hcc, rfl⟩ := hy
        obtain ⟨hj, ej⟩ := List.getElem?_eq_some_iff.mp hij
        rw [List.getElem_range] at ej; subst ej
        simp only [hcc] at hQj
        exact wpAny_truthy_bool hQj
      · obtain ⟨more, em⟩ := hmore
        have nwr : ∀ b u, s1.heap.get? b = some u → b ∉ h3.objs.size :: [s1.heap.objs.size] := fun b u e hb => by
          have hl := Heap.lt_size e
          rcases List.mem_cons.mp hb with z | z
          · exact absurd (Nat.lt_of_lt_of_le hl (Nat.le_trans (Nat.le_succ _) hsz4)) (by rw [z]; exact Nat.lt_irrefl _)
          · exact Nat.ne_of_lt hl (List.mem_singleton.mp z)
        have J := inv_tab (more := more) (h' := s'.heap) (g' := s'.gens) (d' := s'.drawn) (t' := s'.toks) I1 hP (fun b u hb e => hm.heap b u (nwr b u e) (hk5 b u (keep3 b u hb e))) (by rw [← em]; exact hm.heap P _ (nwr P _ hPs) (hk5 P _ hP3)) (AllBare.movedS (I1.bare.push hgb) hm)
        rw [sh_eta s1 s' hm.os] at J
        exact ⟨upd H1 P (.tbl (ps ++ more)), ⟨⟨ps ++ more, upd_same, by rw [← em]; exact ht3⟩, fun b hb => upd_ne hb⟩, J⟩
  refine ⟨lim2, ?_⟩
  have hP2 := old P _ hPs
  cases hf : codeAmong gpos ps.toList with
  | none =>
    refine wpAny_genexprCodeX hcode (cd.code hP2 ht) (cd.tab hP2) hf fun c' h' tk hx hge hlt hco' _ htab' _ => ?_
    obtain ⟨_, _, _, _, _, _, _, _, _, _, _, _, _, _, _, _, _, _, _, htr, _⟩ := hco'
    exact cont _ h' tk _ hx (Nat.le_trans hge (Nat.le_of_lt hlt)) htab'.2 ⟨_, rfl⟩ htr
  | some cv => exact wpAny_genexprCode_hit hcode (cd.code hP2 ht) hf (cont cv (s1.heap.push o) s1.toks ps (Heap.ExtBut.refl _ _) (Nat.le_refl _) hP2 ⟨#[], by simp⟩ ht)
/-- all(test for x in e), e a tuple; behind it the def's table may have grown -/
def tAllT (K : PySem.W.Frag) (P : Addr) (ok : L2.St → Hp → V → Prop) (pb : L2.St → V → Bool) (te : TE) : TE := fun σ H Q => te σ H fun v H1 => ∃ (a : Addr) (xs : List V), v = .ref a ∧ SqT K H1 a xs ∧ TabG H1 P ∧ (∀ x ∈ xs, ok σ H1 x) ∧ ∀ H2, Tabbed P H1 H2 → Q (.bl (xs.all (pb σ))) H2
theorem pe_allT {c P : Addr} {elt iter : Expr} {x : Str} {px p pos gpos : Pos} {scope : Scope} {ok : L2.St → Hp → V → Prop} {pb : L2.St → V → Bool} {te : TE} {k : Nat}
    (hr : Room k X.A) (hg : Gl X "all") (hm : X.mg "all" = none) (hb : bootBuiltins "all" = some (.builtin "all")) (TB : TabB X.base X.mg c P) (hcode : X.env.code = .ref c) (S : GenS X.env scope x) (hi : PE X iter te) (hel : EltT X P scope x elt ok pb)
    (hs : ∀ v, genFold iter X.env v = pure v) (he : starEach [.GeneratorExp elt [⟨.Name x px, iter, [], 0⟩] scope gpos] X.env = (false, eval (.GeneratorExp elt [⟨.Name x px, iter, [], 0⟩] scope gpos) X.env) :: starEach [] X.env := by rfl) :
    PE X (.Call (.Name "all" p) [.GeneratorExp elt [⟨.Name x px, iter, [], 0⟩] scope gpos] [] pos) (tAllT X.K P ok pb te) := by
  refine ⟨fun pins s σ H Q I h => wpAny_Call_Name_kw (ld_blt I hg hm hb (PyProof.Rows.callWith_builtin1 ?_ he (by rfl)))⟩
  rw [he]
  show wpAny _ _ (spliced ((false, eval (.GeneratorExp elt [⟨.Name x px, iter, [], 0⟩] scope gpos) X.env) :: backTo pos (starEach [] X.env))) _ _ s
  refine Calls.spliced_cons (gen_tup (R := fun xs H1 => ∀ H2, Tabbed P H1 H2 → Q (.bl (xs.all (pb σ))) H2) hr TB hcode S hi hel hs I h fun xs H1 g s5 hR hG => Calls.spliced_nil ?_)
  obtain ⟨fp, wr, G, F, St, tr, W, hst, htr, htq, hI⟩ := hG
  refine call_all_walkS (W.self 0 _ _ _ hst ⟨g, fp, wr, G, _, F, St, tr, rfl, W, hst, htr, fun s' hmv => ?_⟩)
  obtain ⟨H2, hT, J⟩ := hI s' hmv
  exact ⟨.bl _, H2, J, rfl, by rw [all_at htq]; exact hR H2 hT⟩
end
end MM
namespace MM
open PySem PySem.Spec PyProof.Rows L2 GxR
theorem rev_n (n : Nat) : Builtin.Slice.slicePlaces ((n : Int) - 1) (-1) (-1) = n := by
  unfold Builtin.Slice.slicePlaces
  rw [if_neg (by decide)]
  split
  · show ((((n : Int) - 1 - (-1) - 1) / 1) + 1).toNat = n
    rw [Int.ediv_one]; omega
  · show (0 : Int).toNat = n; omega
theorem range_pick {α : Type} {g : Nat → Option α} {ys : List α} (h : ∀ k, k < ys.length → g k = ys[k]?) : (List.range ys.length).filterMap g = ys := by
  have e : (List.range ys.length).map g = ys.map some := by
    apply List.ext_getElem?
    intro i
    by_cases hi : i < ys.length
    · simp [hi, h i hi]
    · simp [hi, List.getElem?_eq_none (Nat.le_of_not_lt hi)]
  have e2 : (List.range ys.length).filterMap g = ((List.range ys.length).map g).filterMap id := by rw [List.filterMap_map]; rfl
  rw [e2, e, List.filterMap_map]
  have e3 : (id ∘ (some : α → Option α)) = some := rfl
  rw [e3, List.filterMap_some]
theorem rev_pick (xs : Array Value) : ((List.range xs.size).filterMap fun (k : Nat) => xs[(((xs.size : Int) - 1) + (k : Int) * (-1)).toNat]?) = xs.toList.reverse := by
  have l : xs.size = xs.toList.reverse.length := by simp
  have q := range_pick (g := fun (k : Nat) => xs[(((xs.size : Int) - 1) + (k : Int) * (-1)).toNat]?) (ys := xs.toList.reverse) fun k hk => ?_
  · rw [← l] at q; exact q
  · have hk' : k < xs.toList.length := by simpa using hk
    rw [List.getElem?_reverse hk']
    have e2 : (((xs.size : Int) - 1) + (k : Int) * (-1)).toNat = xs.toList.length - 1 - k := by simp only [Array.length_toList] at hk' ⊢; omega
    show xs[(((xs.size : Int) - 1) + (k : Int) * (-1)).toNat]? = _
    rw [e2, Array.getElem?_toList]
section
variable {prog : Program} {w : World} {A : Around} {E : Value → Shared → Prop} {s : Shared}
theorem getItem_tuple_rev {t sl : Addr} {items : Array Value} {u : Tok} {Q : Value → Shared → Prop} (ht : IsTup s.heap t items) (hs : s.heap.IsSliceOf sl .none .none (.int (-1) u)) (hsz : items.size ≤ sizeLine)
    (h : Q (.ref s.heap.objs.size) { s with heap := s.heap.push { cls := .type "tuple", data := .seq items.toList.reverse.toArray } }) : wpAny (model prog w) A (getItem (.ref t) (.ref sl)) Q E s := by
  have hz2 : sizeOk (.seq items.toList.reverse.toArray) := by show items.toList.reverse.toArray.size ≤ sizeLine; simpa using hsz
  obtain ⟨os, hos, hcs, hds⟩ := id hs
  unfold getItem
  try with_reducible refine wpAny_holding ?_
  first | refine wpAny_bind (wpAny_pure ?_) | skip
  refine wpAny_bind (wpAny_sequenceKey ht.typeIs (by decide) (wpAny_bind (wpAny_callSpecial?_slot (name := Str.ofString "__getitem__") ht.typeIs PyProof.Rows.slot_tuple_getitem (wpAny_call_entry PyProof.Rows.slot_tuple_getitem ht.typeIs entry_tuple_getitem ?_ (args_tuple_getitem _ _)))))
  show wpAny _ _ (Builtin.Tuple.tupleItemsOf (.ref t) >>= _) _ _ s
  refine wpAny_bind (tupleItemsOf_ ht (wpAny_bind (wpAny_typeOf (show s.TypeIs (.ref sl) "slice" from ⟨os, hos, hcs⟩) ?_)))
  rw [if_pos (by decide)]
  refine wpAny_bind (m := Builtin.Slice.sliceApplied (.ref sl) (pure (items.size : Int))) ?_
  unfold Builtin.Slice.sliceApplied Builtin.Slice.sliceFields
  refine wpAny_bind (wpAny_bind (wpAny_field hos hds (x := .none) rfl (wpAny_bind (wpAny_field hos hds (x := .none) rfl (wpAny_bind (wpAny_field hos hds (x := .int (-1) u) rfl (wpAny_pure ?_)))))))
  refine wpAny_bind (slicePart_int ?_)
  show wpAny _ _ (if ((-1 : Int) == 0) = true then _ else _) _ _ s
  rw [if_neg (by decide)]
  refine wpAny_bind (slicePart_none (wpAny_bind (slicePart_none (wpAny_bind (wpAny_pure ?_)))))
  show wpAny _ _ (pure (((items.size : Nat) : Int) - 1, (-1 : Int), Builtin.Slice.slicePlaces (((items.size : Nat) : Int) - 1) (-1) (-1))) _ _ s
  rw [rev_n]
  refine wpAny_pure ?_
  have hno : ¬ ((((items.size : Nat) : Int) - 1 == 0 && (-1 : Int) == 1 && items.size == items.size) = true) := by simp
  show wpAny _ _ (if (((items.size : Nat) : Int) - 1 == 0 && (-1 : Int) == 1 && items.size == items.size) = true then _ else _) _ _ s
  rw [if_neg hno, rev_pick]
  first
    | exact wpAny_bind (m := Builtin.Tuple.tupleExact _) (wpAny_newObj_type (wpAny_pure ⟨_, rfl, wpAny_pure h⟩) hz2)
    | exact wpAny_bind (m := Builtin.Tuple.tupleExact _) (wpAny_newObj_type (wpAny_bind (wpAny_pure (wpAny_pure ⟨_, rfl, wpAny_pure h⟩))) hz2)
    | exact wpAny_bind (wpAny_bind (m := Builtin.Tuple.tupleExact _) (wpAny_newObj_type (wpAny_pure (wpAny_pure ⟨_, rfl, wpAny_pure h⟩)) hz2))
    | exact wpAny_bind (wpAny_bind (m := Builtin.Tuple.tupleExact _) (wpAny_newObj_type (wpAny_pure ⟨_, rfl, wpAny_pure h⟩) hz2))
end
section
variable {X : Cx}
def tRevT (K : PySem.W.Frag) (te : TE) : TE := fun σ H Q => te σ H fun x H1 => ∃ a xs, x = .ref a ∧ SqT K H1 a xs ∧ ∀ p, H1 p = none → Q (.ref p) (upd H1 p (.tup xs.reverse))
theorem pe_revT {e : Expr} {te : TE} {k : Nat} {p1 p2 p3 pos : Pos} (he : PE X e te) : PE X (.Subscript e (.Slice none none (some (.UnaryOp .USub (.Constant (.int 1) k p1) p2)) p3) pos) (tRevT X.K te) := by
  refine ⟨fun pins s σ H Q I h => Subscript_ (thn (he.run pins s σ H _ I h) fun v s1 ⟨x, H1, I1, r1, a, xs, ex, hx, q⟩ => ?_)⟩
  subst ex; cases r1
  have hst : PO X (some (.UnaryOp .USub (.Constant (.int 1) k p1) p2)) (tPart (tUn (rU fun i => .int (-i)) (tC (.int 1)))) := po_some (pe_un un_neg pe_int)
  refine wpAny_Slice (thn (po_none.run pins s1 σ H1 (fun o H2 => o = none ∧ H2 = H1) I1 ⟨rfl, rfl⟩) fun vl s2 ⟨l, H2, I2, pl, el, e2⟩ => ?_)
  subst el e2
  refine thn (po_none.run pins s2 σ H2 (fun o H3 => o = none ∧ H3 = H2) I2 ⟨rfl, rfl⟩) fun vu s3 ⟨u, H3, I3, pu, eu, e3⟩ => ?_
  subst eu e3
  refine thn (hst.run pins s3 σ H3 (fun o H4 => o = some (-1) ∧ H4 = H3) I3 ⟨1, rfl, -1, rfl, rfl, rfl⟩) fun vs s4 ⟨o, H4, I4, ps, eo, e4⟩ => ?_
  subst eo e4
  have I5 : Inv X pins σ H4 { s4 with heap := s4.heap.push { cls := .type "slice", data := .fields #[vl, vu, vs] } } := I4.kept (t' := s4.toks) fun b ob q => Heap.get?_push_of_some _ q
  obtain ⟨its, r, ht, hz⟩ := I5.tuple hx
  have hlen := r.length
  have evl : vl = .none := by cases pl; rfl
  have evu : vu = .none := by cases pu; rfl
  have evs : ∃ u, vs = .int (-1) u := by cases ps; exact ⟨_, rfl⟩
  obtain ⟨tk, evs⟩ := evs
  subst evl evu evs
  show wpAny (model X.prog X.w) X.A (subscriptTail e (.Slice none none (some (.UnaryOp .USub (.Constant (.int 1) k p1) p2)) p3) (.ref a) (.ref s4.heap.objs.size)) (EP X pins σ Q) X.xe { s4 with heap := s4.heap.push { cls := .type "slice", data := .fields #[.none, .none, .int (-1) tk] } }
  refine tail_any (ops := [.ref a, .ref s4.heap.objs.size]) ht.typeIs (PyProof.Rows.slot_tuple_getitem.lookup) ?_ (by with_unfolding_all rfl)
  refine getItem_tuple_rev ht (Heap.IsSliceOf.new _ .none .none _) (by simp only [List.size_toArray]; omega) ?_
  refine ⟨.ref _, _, I5.laid (t' := s4.toks) (o := .tup xs.reverse) (fun b ob q => Heap.get?_push_of_some _ q) (Nat.le_refl _) ?_, rfl, q _ (I5.hok.fresh (Nat.le_refl _))⟩
  exact ⟨by rw [List.length_reverse]; exact hz, _, r.reverse, IsTup.new _ _⟩
/-! ### range(n) as a value, walked later -/
theorem cr_range1 : CallR X (.type "range") (fun vs H Q => ∃ j, vs = [V.int j] ∧ ∀ p, H p = none → Q (.ref p) (upd H p (.rng 0 j))) := by
  intro pins s σ H vs us Q I r h
  obtain ⟨j, rfl, q⟩ := h; obtain ⟨u1, rfl, t, rfl⟩ := vals1 r
  exact call_range_1 ⟨.ref s.heap.objs.size, upd H s.heap.objs.size (.rng 0 j), I.laid (t' := s.toks + 1 + 1) (fun b o e => Heap.get?_push_of_some _ e) (Nat.le_refl _) ⟨s.toks, t, s.toks + 1, Heap.get?_push_size _ rfl⟩, rfl, q _ (I.hok.fresh (Nat.le_refl _))⟩
def iRngV (tl : TE) : TI := fun σ H R => tl σ H fun x H1 => ∃ (a : Addr) (lo hi : Int), x = .ref a ∧ H1 a = some (.rng lo hi) ∧ (-(2 ^ 62) ≤ lo ∧ lo < 2 ^ 62 ∧ -(2 ^ 62) ≤ hi ∧ hi < 2 ^ 62) ∧ R (Itr lo (hi - lo).toNat) H1
theorem pi_rngV {tg l : Expr} {tl : TE} (hl : PE X l tl) : PI X tg l (iRngV tl) := by
  refine ⟨fun pins s σ H R I h => thn (hl.run pins s σ H _ I h) fun v s1 ⟨x, H1, I1, r1, a, lo, hi, ex, ha, ⟨b1, b2, b3, b4⟩, q⟩ => ?_⟩
  subst ex; cases r1
  obtain ⟨t, u, v, ho⟩ := I1.hok a _ ha
  have hr : IsRange s1.heap a lo hi 1 t u v := ho
  refine wpAny_pyIter_range hr (small_one b1 b2 b3 b4) ?_
  refine ⟨s1.heap.objs.size, [s1.heap.objs.size], _, _, H1, rfl, I1.kept (t' := s1.toks) fun b o e => Heap.get?_push_of_some _ e, turn_range _ lo (hi - lo).toNat, ?_, fun b hb => ?_, q⟩
  · have e1 : lo + ((0 : Nat) : Int) * 1 = lo := by simp
    have e2 : (((hi - lo).toNat : Nat) : Int) - ((0 : Nat) : Int) = Builtin.Range.rangeSize lo hi 1 := by rw [rangeSize_one]; split <;> omega
    show IsRangeIter _ _ (lo + ((0 : Nat) : Int) * 1) ((((hi - lo).toNat : Nat) : Int) - ((0 : Nat) : Int)) 1
    rw [e1, e2]; exact Heap.get?_push_size _ rfl
  · obtain rfl : b = s1.heap.objs.size := List.mem_singleton.mp hb
    exact I1.fpOk (Nat.le_refl _) (I1.hok.fresh (Nat.le_refl _))
end
end MM
namespace MM
open PySem PySem.Spec PyProof.Rows L2 GxR
/-! ### repr(x), x data -/
section
variable {X : Cx}
end
/-! ### sorted(t), t a tuple of whole numbers -/
section
variable {prog : Program} {w : World} {A : Around} {E : Value → Shared → Prop} {s : Shared}
theorem collect_tup {l : Addr} {vs : List Value} {Q : List Value → Shared → Prop} (hl : s.heap.IsTuple l vs.toArray) (hsz : vs.length ≤ sizeLine)
    (h : Q vs { s with heap := (s.heap.push (seqObj "list" #[] 0)).update s.heap.objs.size (Obj.mapSeq (· ++ vs.toArray)) }) : wpAny (model prog w) A (collect (.ref l)) Q E s := by
  have hl2 := hl.push (seqObj "list" #[] 0)
  unfold collect
  refine wpAny_bind (wpAny_runValue (codeAny_builtin entry_proto_collect' ?_))
  show wpAny _ _ (do again (.builtin "list.__iadd__" ⟨[← newList [], .ref l], []⟩)) _ _ s
  refine wpAny_bind (wpAny_newList (wpAny_pure ⟨Code.quiet_builtin _ (by decide +kernel), codeAny_builtin entry_list_iadd' ?_⟩))
  show wpAny _ _ (Builtin.List.listExtendWith (.ref s.heap.objs.size) (.ref l) (.ref s.heap.objs.size)) _ _ { s with heap := s.heap.push (seqObj "list" #[] 0) }
  unfold Builtin.List.listExtendWith
  obtain ⟨o, ho', hc, n, hd⟩ := id hl2
  refine wpAny_bind (wpAny_typeOf (T := "tuple") ⟨o, ho', hc⟩ ?_)
  rw [if_pos (show (Builtin.List.listSameRef (.ref s.heap.objs.size) (.ref l) || Value.type "tuple" == Value.type "list" || Value.type "tuple" == Value.type "tuple") = true by rw [show (Value.type "tuple" == Value.type "tuple") = true by rfl]; simp)]
  refine wpAny_bind (listItems_at ho' hd (wpAny_bind (listItems_at (xs := #[]) (n := 0) (Heap.get?_push_size _ rfl) rfl ?_)))
  rw [if_neg (by simp)]
  refine wpAny_bind (listUpdate_at (xs := #[]) (n := 0) (Heap.get?_push_size _ rfl) rfl (wpAny_pure ?_) (Nat.zero_le _) (by show (#[] ++ vs.toArray).size ≤ sizeLine + 1; simp only [Array.size_append, List.size_toArray, List.length_nil]; omega))
  show wpAny (model prog w) A (load s.heap.objs.size >>= fun o => match o.data with | .seq xs _ => pure xs.toList | _ => unsupported "internal:collect") Q E { s with heap := (s.heap.push (seqObj "list" #[] 0)).update s.heap.objs.size (Obj.mapSeq (· ++ vs.toArray)) }
  refine wpAny_bind (wpAny_load (get?_update_seq (Heap.get?_push_size _ rfl) _) ?_)
  show wpAny _ _ (pure ((#[] : Array Value) ++ vs.toArray).toList) Q E _
  rw [show ((#[] : Array Value) ++ vs.toArray).toList = vs by simp]
  exact wpAny_pure h
theorem sorted_tup {l : Addr} {vs : List Value} {ns : List Int} {Q : Value → Shared → Prop} (hl : s.heap.IsTuple l vs.toArray) (hi : IntsAre vs ns) (hz : vs.length ≤ sizeLine)
    (h : ∀ out : List Value, IntsAre out (out.map SrtO.iv) → (out.map SrtO.iv).Perm ns → (out.map SrtO.iv).Pairwise (· ≤ ·) → Q (.ref (s.heap.objs.size + 1)) { s with heap := sortedAll s.heap vs out.toArray }) :
    wpAny (model prog w) A (call (.builtin "sorted") [.ref l]) Q E s := by
  refine Calls.call_function_entry PyProof.Rows.kind_sorted PyProof.Rows.plain_sorted PyProof.Rows.entry_sorted (PyProof.Rows.args_sorted1 _) ?_
  unfold Builtin.«sorted»
  refine wpAny_bind (m := checkCount "sorted" 1 1 _) (wpAny_pure (wpAny_bind (collect_tup hl hz (wpAny_bind (wpAny_newList ?_ hz)))))
  have hsz : ((s.heap.push (seqObj "list" #[] 0)).update s.heap.objs.size (Obj.mapSeq (· ++ vs.toArray))).objs.size = s.heap.objs.size + 1 := (Heap.size_update ..).trans (Heap.size_push ..)
  have hoL : (((s.heap.push (seqObj "list" #[] 0)).update s.heap.objs.size (Obj.mapSeq (· ++ vs.toArray))).push (seqObj "list" vs.toArray 0)).get? (s.heap.objs.size + 1) = some (seqObj "list" vs.toArray 0) := hsz ▸ Heap.get?_push_size _ rfl
  show wpAny _ _ _ _ _ { s with heap := ((s.heap.push (seqObj "list" #[] 0)).update s.heap.objs.size (Obj.mapSeq (· ++ vs.toArray))).push (seqObj "list" vs.toArray 0) }
  rw [hsz]
  refine wpAny_bind (wpAny_holding (wpAny_call_entry PyProof.Rows.slot_list_sort ⟨_, hoL, rfl⟩ PyProof.Rows.entry_list_sort (SrtO.list_sort_ord SrtO.swo_int hoL hz (fun h2 => SrtO.ints_sortable hi h2) fun out hs hb => ⟨_, rfl, ?_⟩) (PyProof.Rows.args_list_sort _)))
  obtain ⟨k1, k2, k3⟩ := SrtO.ints_out hi hs hb
  exact wpAny_pure ⟨_, rfl, h out k1 k2 k3⟩
end
section
variable {X : Cx}
def rSortedTup (K : PySem.W.Frag) : List V → Hp → VK → Prop := fun vs H Q => ∃ (a : Addr) (ns : List Int), vs = [V.ref a] ∧ SqT K H a (ns.map V.int) ∧ ∀ (ns' : List Int) (p : Addr), ns'.Perm ns → ns'.Pairwise (· ≤ ·) → H p = none → Q (.ref p) (upd H p (.lst (ns'.map V.int)))
theorem cr_sortedTup : CallR X (.builtin "sorted") (rSortedTup X.K) := by
  intro pins s σ H vs us Q I r h
  obtain ⟨a, ns, rfl, hs, q⟩ := h
  obtain ⟨its, rv, hl, hz⟩ := I.tuple hs
  rw [Vals.ref1 r]
  have hi := rv.ints
  refine sorted_tup (show s.heap.IsTuple a its.toArray from hl) hi (by rw [← rv.length]; exact hz) fun out k1 k2 k3 => ?_
  obtain ⟨ep, he'⟩ := PyProof.Rows.sortedAll_at s.heap its out.toArray
  have hlen : ((out.map SrtO.iv).map V.int).length ≤ sizeLine := by rw [List.length_map, k2.length_eq]; simpa using hz
  exact ⟨.ref _, upd H (s.heap.objs.size + 1) (.lst ((out.map SrtO.iv).map V.int)), I.laid (t' := s.toks) (fun _ _ => PyProof.Rows.sortedAll_old) (Nat.le_succ _) ⟨hlen, out, ep, vals_of_ints k1, he'⟩, rfl, q _ _ k2 k3 (I.hok.fresh (Nat.le_succ _))⟩
end
end MM
namespace MM
open PySem PySem.Spec PyProof.Rows L2 GxR
/-! ### heaps that go on -/
/-- what never changes -/
def Fixed : HO → Prop
  | .tup _ => True
  | .rng _ _ => True
  | .frz _ _ => True
  | _ => False
/-- H' goes on from H: what is fixed stays, of the others all but those in B; tables grow -/
structure ExB (B : Addr → Prop) (H H' : Hp) : Prop where
  fix : ∀ a o, H a = some o → Fixed o → H' a = some o
  keep : ∀ a o, H a = some o → (∀ ps, o ≠ .tbl ps) → ¬ B a → H' a = some o
  tbl : ∀ P ps, H P = some (.tbl ps) → ∃ ps', H' P = some (.tbl ps') ∧ (TriplesOk ps.toList → TriplesOk ps'.toList)
  still : ∀ a, H a ≠ none → H' a ≠ none
abbrev Ex : Hp → Hp → Prop := ExB fun _ => False
section
variable {B B' : Addr → Prop} {H H1 H2 : Hp} {a b p P : Addr} {o : HO} {xs ys : List V} {K : PySem.W.Frag}
theorem ExB.refl : ExB B H H := ⟨fun _ _ h _ => h, fun _ _ h _ _ => h, fun _ ps h => ⟨ps, h, id⟩, fun _ h => h⟩
theorem ExB.mono (e : ExB B H H1) (h : ∀ a, B a → B' a) : ExB B' H H1 := ⟨e.fix, fun a o q n b => e.keep a o q n fun z => b (h a z), e.tbl, e.still⟩
theorem ExB.of (e : Ex H H1) : ExB B H H1 := e.mono fun _ z => z.elim
theorem ExB.tab (e : ExB B H H1) (h : TabG H P) : TabG H1 P := let ⟨_, h1, h2⟩ := h; let ⟨ps', h3, h4⟩ := e.tbl _ _ h1; ⟨ps', h3, h4 h2⟩
/-- what is changed is new -/
theorem ExB.then (e : ExB B H H1) (d : ExB B' H1 H2) (h : ∀ a, B' a → H a = none ∨ B a) : ExB B H H2 :=
  ⟨fun a o q f => d.fix a o (e.fix a o q f) f, fun a o q n b => d.keep a o (e.keep a o q n b) n (fun z => (h a z).elim (fun y => by rw [y] at q; cases q) b), fun P ps h => let ⟨p1, a1, a2⟩ := e.tbl P ps h; let ⟨p2, b1, b2⟩ := d.tbl P p1 a1; ⟨p2, b1, fun z => b2 (a2 z)⟩, fun a h => d.still a (e.still a h)⟩
theorem ExB.trans (e : ExB B H H1) (d : ExB B H1 H2) : ExB B H H2 := e.then d fun _ z => .inr z
theorem ExB.fresh (e : ExB B H H1) (h : H1 p = none) : H p = none := by
  cases q : H p with
  | none => rfl
  | some o => exact absurd h (e.still p (by rw [q]; exact fun z => nomatch z))
theorem ex_new (h : H p = none) : ExB B H (upd H p o) :=
  ⟨fun a o q _ => by rw [upd_ne (ne_of_none q h)]; exact q, fun a o q _ _ => by rw [upd_ne (ne_of_none q h)]; exact q, fun P ps q => ⟨ps, by rw [upd_ne (ne_of_none q h)]; exact q, id⟩, fun a q z => by by_cases e : a = p; exact q (e ▸ h); rw [upd_ne e] at z; exact q z⟩
theorem ex_set (h : H p = some (.lst xs)) : ExB (fun a => a = p) H (upd H p (.lst ys)) :=
  ⟨fun a o q f => by rw [upd_ne (fun z => by rw [z, h] at q; cases q; exact f)]; exact q, fun a o q _ n => by rw [upd_ne n]; exact q, fun P ps q => ⟨ps, by rw [upd_ne (fun z => by rw [z, h] at q; cases q)]; exact q, id⟩,
    fun a q z => by by_cases e : a = p; (rw [e, upd_same] at z; cases z); rw [upd_ne e] at z; exact q z⟩
theorem ex_tab (h : TabG H P) (t : Tabbed P H H1) : ExB B H H1 := by
  obtain ⟨ps, h1, h2⟩ := h
  obtain ⟨⟨ps', g1, g2⟩, t2⟩ := t
  have ne : ∀ a o, H a = some o → (∀ ps, o ≠ .tbl ps) → a ≠ P := fun a o q n z => by rw [z, h1] at q; cases q; exact n ps rfl
  refine ⟨fun a o q f => by rw [t2 a (ne a o q fun ps z => by rw [z] at f; exact f)]; exact q, fun a o q n _ => by rw [t2 a (ne a o q n)]; exact q, fun Q qs q => ?_, fun a q z => ?_⟩
  · by_cases e : Q = P
    · rw [e]; exact ⟨ps', g1, fun _ => g2⟩
    · exact ⟨qs, by rw [t2 Q e]; exact q, id⟩
  · by_cases e : a = P
    · rw [e, g1] at z; cases z
    · rw [t2 a e] at z; exact q z
theorem ExB.tup (e : ExB B H H1) (h : H a = some (.tup xs)) : H1 a = some (.tup xs) := e.fix _ _ h trivial
theorem ExB.rng {lo hi : Int} (e : ExB B H H1) (h : H a = some (.rng lo hi)) : H1 a = some (.rng lo hi) := e.fix _ _ h trivial
theorem ExB.lst (e : ExB B H H1) (h : H a = some (.lst xs)) (n : ¬ B a) : H1 a = some (.lst xs) := e.keep _ _ h (fun _ z => nomatch z) n
theorem Ex.lst (e : Ex H H1) (h : H a = some (.lst xs)) : H1 a = some (.lst xs) := e.keep _ _ h (fun _ z => nomatch z) id
theorem ExB.sqt (e : ExB B H H1) (h : SqT K H a xs) : SqT K H1 a xs := by
  rcases h with (h | ⟨o, h⟩) | h
  · exact .inl (.inl (e.fix _ _ h trivial))
  · exact .inl (.inr ⟨o, e.fix _ _ h trivial⟩)
  · exact .inr h
theorem ExB.sql (e : ExB B H H1) (h : SqL K H a xs) (n : ¬ B a) : SqL K H1 a xs := by
  rcases h with (h | ⟨o, h⟩) | h
  · exact .inl (.inl (e.keep _ _ h (fun _ z => nomatch z) n))
  · exact .inl (.inr ⟨o, e.fix _ _ h trivial⟩)
  · exact .inr h
theorem Ex.sql (e : Ex H H1) (h : SqL K H a xs) : SqL K H1 a xs := ExB.sql e h id
theorem ExB.ne (h : H a = none) (h' : H b ≠ none) : a ≠ b := fun z => h' (z ▸ h)
end
/-! ### data that never changes -/
mutual
def noList : PyData → Bool
  | .list _ => false
  | .dict _ => false
  | .tuple xs => noLists xs
  | _ => true
def noLists : List PyData → Bool
  | [] => true
  | x :: xs => noList x && noLists xs
end
section
variable {B : Addr → Prop} {H H1 : Hp} {K : PySem.W.Frag}
mutual
theorem Dp.ex (e : Ex H H1) : ∀ {v : V} {d : PyData}, Dp K H v d → Dp K H1 v d
  | _, _, .non => .non
  | _, _, .bl b => .bl b
  | _, _, .int i => .int i
  | _, _, .str x => .str x
  | _, _, .lst h1 h2 => .lst (Ex.sql e h1) (Dp.exAll e h2)
  | _, _, .tup h1 h2 => .tup (e.sqt h1) (Dp.exAll e h2)
theorem Dp.exAll (e : Ex H H1) : ∀ {vs : List V} {ds : List PyData}, DpAll K H vs ds → DpAll K H1 vs ds
  | _, _, .nil => .nil
  | _, _, .cons h1 h2 => .cons (Dp.ex e h1) (Dp.exAll e h2)
end
mutual
theorem Dp.exN (e : ExB B H H1) : ∀ {v : V} {d : PyData}, noList d = true → Dp K H v d → Dp K H1 v d
  | _, _, _, .non => .non
  | _, _, _, .bl b => .bl b
  | _, _, _, .int i => .int i
  | _, _, _, .str x => .str x
  | _, _, n, .lst h1 h2 => by simp [noList] at n
  | _, _, n, .tup h1 h2 => .tup (e.sqt h1) (Dp.exNAll e (by simpa [noList] using n) h2)
theorem Dp.exNAll (e : ExB B H H1) : ∀ {vs : List V} {ds : List PyData}, noLists ds = true → DpAll K H vs ds → DpAll K H1 vs ds
  | _, _, _, .nil => .nil
  | _, _, n, .cons h1 h2 => by
    simp only [noLists, Bool.and_eq_true] at n
    exact .cons (Dp.exN e n.1 h1) (Dp.exNAll e n.2 h2)
end
theorem dpAll_ints : ∀ ns : List Int, DpAll K H (ns.map V.int) (ns.map PyData.int)
  | [] => .nil
  | n :: ns => .cons (.int n) (dpAll_ints ns)
theorem dp_row {a : Addr} {ns : List Int} (h : SqT K H a (ns.map V.int)) : Dp K H (.ref a) (.tuple (ns.map PyData.int)) := .tup h (dpAll_ints ns)
theorem dp_ints {a : Addr} {ns : List Int} (h : SqL K H a (ns.map V.int)) : Dp K H (.ref a) (.list (ns.map PyData.int)) := .lst h (dpAll_ints ns)
end
/-! ### a def as its callers know it -/
def CallD (P : Program) (w : World) (K : PySem.W.Frag) (mg : Str → Option Value) (base : Heap) (k : Nat) (x : Str) (ps : List Str) (sp : Sp) : Prop :=
  ∃ f fd, FnG P w K mg base CX0 k f fd ps sp ∧ mg x = some (.ref f) ∧ PySem.W.keepIn K (.ref f) = true ∧ Binds K fd ps []
abbrev FnP (K : PySem.W.Frag) (x : Str) (st : Stmt) (f : Addr) (fd : FuncData) : Prop := FunD K x x (defArgs st) (defBody st) (defScope st) [] [] f fd
section
variable {P : Program} {w : World} {K : PySem.W.Frag} {mg : Str → Option Value} {base : Heap} {f : Addr} {fd : FuncData} {x : Str} {st : Stmt} {ps N : List Str} {k : Nat} {sp sp' : Sp}
theorem CallD.le {j : Nat} (C : CallD P w K mg base j x ps sp) (h : j ≤ k) : CallD P w K mg base k x ps sp := let ⟨f, fd, F, r⟩ := C; ⟨f, fd, F.mono h, r⟩
/-- the rule for a def: its body keeps the promise -/
theorem callD (F : FnP K x st f fd) (g : mg x = some (.ref f)) (S : FnScope N ps (defScope st))
    (hb : ∀ (kV doc pm : Value) (an : Option Addr) (cdv ct : Value) (us : List Value), us.length = ps.length → bindArgs (PySem.W.fnOf x x (defArgs st) (defBody st) (defScope st) .none kV doc pm an cdv ct) ⟨us, []⟩ = pure (ps.zip us))
    (len : ∀ vs H Q E, sp vs H Q E → vs.length = ps.length)
    (body : ∀ (cdv : Value) (A : Around) (outer : List Env) (s : Shared) (H : Hp) (vs : List V) (Q : VK) (E : XK), (∀ oc od fd osl, K.lookup f = some ⟨oc, od, .func fd, osl⟩ → fd.code = cdv) → Room k (A.deeper (envOfC x (defScope st) s.heap.objs.size f cdv)) → (A.deeper (envOfC x (defScope st) s.heap.objs.size f cdv)).guards = some [] → sp vs H Q E →
      ∃ t, PSs (cxOf CX0 P w K mg base N x (defScope st) f cdv A outer s H E).nox (defBody st) t ∧ t { nx := fun _ H' => Q .non H', rt := Q } (start N vs) H) : CallD P w K mg base (k + 1) x ps sp := by
  have b := F.bindsN hb
  have kp := F.kp
  obtain ⟨oc, od, dV, kV, doc, pm, an, cdv, ct, osl, rfl, lk, hcd, _, _⟩ := F.ex
  refine ⟨f, _, fn_ofG lk hcd S len fun A outer s H vs Q E hr hG hsp => ?_, g, kp, b⟩
  obtain ⟨t, h, q⟩ := body cdv A outer s H vs Q E (fun oc2 od2 fd2 osl2 e => by rw [lk] at e; cases e; rfl) hr hG hsp
  exact ⟨t, h.nox, q⟩
end
section
variable {X : Cx} {k : Nat} {ps : List Str} {sp : Sp} {x : Str} {p pos : Pos} {e : Expr} {es : List Expr} {t : TA}
theorem pe_c (C : CallD X.prog X.w X.K X.mg X.base k x ps sp) (hr : Room k X.A) (hG : X.A.guards = some []) (ha : PA X (e :: es) t) (hg : Gl X x := by rfl) (hdb : (x == ("__debug__" : Str)) = false := by decide) (he : starEach (e :: es) X.env = (false, eval e X.env) :: starEach es X.env := by rfl) (hpl : (backTo pos (starEach es X.env)).any (·.1) = false := by rfl) :
    PE X (.Call (.Name x p) (e :: es) [] pos) (tCall sp [] E0 t) := by
  obtain ⟨f, fd, F, g, kp, b⟩ := C
  exact pe_callG F hr hG hg g kp b .nil pass0 ha hdb he hpl
end
end MM
namespace MM
open PySem PySem.Spec PyProof.Rows L2 GxR
/-! ### kinds of values -/
inductive Kd (K : PySem.W.Frag) (H : Hp) : V → String → Prop where
  | non : Kd K H .non "NoneType"
  | bl (b : Bool) : Kd K H (.bl b) "bool"
  | int (i : Int) : Kd K H (.int i) "int"
  | str (x : Str) : Kd K H (.str x) "str"
  | lst {a : Addr} {xs : List V} (e : H a = some (.lst xs)) : Kd K H (.ref a) "list"
  | tup {a : Addr} {xs : List V} (e : SqT K H a xs) : Kd K H (.ref a) "tuple"
  | dic {a : Addr} {kvs : List (Key × V)} (e : H a = some (.dK kvs)) : Kd K H (.ref a) "dict"
/-- is_whole of a value -/
def isW : V → Bool
  | .int _ => true
  | _ => false
section
variable {X : Cx} {pins : List (Addr × Obj)} {σ : L2.St} {H : Hp} {s : Shared}
theorem Kd.kit {x : V} {u : Value} {T : String} {h2 : Heap} (k : Kd X.K H x T) (I : Inv X pins σ H s) (r : RelV x u) (keep : ∀ b o, H b ≠ none ∨ (∃ o, X.K.lookup b = some o) → (∀ xs, o.data ≠ .fields xs) → s.heap.get? b = some o → h2.get? b = some o) :
    ∃ P : Heap → Prop, PySem.W.KitX X.K u (.type T) P ∧ P h2 ∧ (∀ h3 : Heap, (∀ b o, h2.get? b = some o → h3.get? b = some o) → P h3) ∧ u ≠ .builtin "__main__.__loader__#opaque" := by
  cases k with
  | non => cases (show u = Value.none from r); exact ⟨_, PySem.W.kitx_none, True.intro, fun _ _ => True.intro, fun z => nomatch z⟩
  | bl b => cases (show u = Value.bool b from r); exact ⟨_, PySem.W.kitx_bool, True.intro, fun _ _ => True.intro, fun z => nomatch z⟩
  | int i => obtain ⟨t, q⟩ := (show ∃ t, u = Value.int i t from r); cases q; exact ⟨_, PySem.W.kitx_int, True.intro, fun _ _ => True.intro, fun z => nomatch z⟩
  | str i => obtain ⟨t, q⟩ := (show ∃ t, u = Value.str i t from r); cases q; exact ⟨_, PySem.W.kitx_str, True.intro, fun _ _ => True.intro, fun z => nomatch z⟩
  | @lst a xs e =>
    cases (show u = Value.ref a from r)
    obtain ⟨_, _, n, _, h1⟩ := (show ObjOk X.prog X.w H s.heap a (.lst xs) from I.hok a _ e)
    have q := keep a _ (.inl (by rw [e]; exact fun z => nomatch z)) (by intro xs z; cases z) h1
    exact ⟨_, PySem.W.kitx_list, ⟨_, q, rfl⟩, fun h3 k => ⟨_, k _ _ q, rfl⟩, fun z => nomatch z⟩
  | @tup a xs e =>
    cases (show u = Value.ref a from r)
    obtain ⟨its, _, ⟨o, h1, h2, n, h3⟩, _⟩ := I.tuple e
    have q := keep a o ?_ (fun _ z => by rw [h3] at z; cases z) h1
    exact ⟨_, PySem.W.kitx_tuple, ⟨o, q, h2⟩, fun h3 k => ⟨_, k _ _ q, h2⟩, fun z => nomatch z⟩
    rcases e with (e | ⟨_, e⟩) | ⟨o, _, _, e, _⟩
    · exact .inl (by rw [e]; exact fun z => nomatch z)
    · exact .inl (by rw [e]; exact fun z => nomatch z)
    · exact .inr ⟨o, e⟩
  | @dic a kvs e =>
    cases (show u = Value.ref a from r)
    obtain ⟨_, _, vs, _, o, es, ep, h1, h2, h3⟩ := (show ObjOk X.prog X.w H s.heap a (.dK kvs) from I.hok a _ e)
    have q := keep a o (.inl (by rw [e]; exact fun z => nomatch z)) (fun _ z => by rw [h3.1] at z; cases z) h1
    exact ⟨_, PySem.W.kitx_dict, ⟨o, q, h2.1⟩, fun h3 k => ⟨_, k _ _ q, h2.1⟩, fun z => nomatch z⟩
end
/-- what a kind is among int, bool, tuple, list -/
def isI : V → Bool
  | .int _ => true
  | .bl _ => true
  | _ => false
def isB : V → Bool
  | .bl _ => true
  | _ => false
theorem isW_eq (x : V) : isW x = (isI x && !isB x) := by cases x <;> rfl
theorem kd_int {K : PySem.W.Frag} {H : Hp} {x : V} {T : String} (k : Kd K H x T) : PySem.W.kitOne K (.type T) (.type "int") = some (isI x) := by
  cases k <;> first | exact kit_ty (r := true) (by decide +kernel) | exact kit_ty (r := false) (by decide +kernel)
theorem kd_bool {K : PySem.W.Frag} {H : Hp} {x : V} {T : String} (k : Kd K H x T) : PySem.W.kitOne K (.type T) (.type "bool") = some (isB x) := by
  cases k <;> first | exact kit_ty (r := true) (by decide +kernel) | exact kit_ty (r := false) (by decide +kernel)
theorem kd_tuple {K : PySem.W.Frag} {H : Hp} {x : V} {T : String} (k : Kd K H x T) : PySem.W.kitOne K (.type T) (.type "tuple") = some (decide (T = "tuple")) := by
  cases k <;> first | exact kit_ty (r := true) (by decide +kernel) | exact kit_ty (r := false) (by decide +kernel)
theorem Kd.ty {K : PySem.W.Frag} {H : Hp} {x : V} {T : String} (k : Kd K H x T) : TyX K H x (.type T) := by
  cases k with
  | non => exact .base .non
  | bl b => exact .base (.bl b)
  | int i => exact .base (.int i)
  | str i => exact .base (.str i)
  | lst e => exact .base (.lst e)
  | dic e => exact .base (.dK e)
  | tup e =>
    rcases e with (e | ⟨_, e⟩) | ⟨o, its, n, e, c, _⟩
    · exact .base (.tup e)
    · exact .fTuple e
    · exact .kTuple e c
end MM
namespace MM
open PySem PySem.Spec PyProof.Rows L2 GxR
/-! ### a call within a generator: the frames around it are not known, so the callee is walked by the machine's own rules -/
section
variable {prog : Program} {w : World} {A : Around} {E : Value → Shared → Prop} {s : Shared} {K : PySem.W.Frag} {mg : Str → Option Value} {env : Env}
/-- what a body at the machine's own level knows of the module -/
structure Lo (K : PySem.W.Frag) (mg : Str → Option Value) (env : Env) (h : Heap) : Prop where
  kin : K.In h
  glob : h.Ns mainGlobals mg
  blt : ∃ mb, h.Ns builtinsNs mb ∧ ∀ x : Str, x ≠ "__name__" → mb x = bootBuiltins x
  lim : h.NoLimit
  kind : env.scope.kind = .function
  eg : env.globals = mainGlobals
  eb : env.builtins = builtinsNs
theorem Lo.keeps {h h' : Heap} (L : Lo K mg env h) (k : ∀ b o, h.get? b = some o → h'.get? b = some o) : Lo K mg env h' :=
  ⟨L.kin.keeps k, L.glob.keeps k, let ⟨mb, a, b⟩ := L.blt; ⟨mb, a.keeps k, b⟩, L.lim.keeps k, L.kind, L.eg, L.eb⟩
theorem lo_glob {x : Str} {u : Value} {pos : Pos} {Q : Value → Shared → Prop} (L : Lo K mg env s.heap) (hg : env.kindOf x = some .globalImplicit) (hm : mg x = some u) (h : Q u s) (hd : (x == ("__debug__" : Str)) = false := by decide) :
    wpAny (model prog w) A (eval (.Name x pos) env) Q E s := Calls.Name_function_global L.kind hg (Calls.loadGlobal_global (by rw [L.eg]; exact L.glob) hm h) hd
theorem lo_blt {x : Str} {u : Value} {pos : Pos} {Q : Value → Shared → Prop} (L : Lo K mg env s.heap) (hg : env.kindOf x = some .globalImplicit) (hm : mg x = none) (hv : bootBuiltins x = some u) (h : Q u s) (hn : x ≠ "__name__" := by decide) (hd : (x == ("__debug__" : Str)) = false := by decide) :
    wpAny (model prog w) A (eval (.Name x pos) env) Q E s := by
  obtain ⟨mb, h1, h2⟩ := L.blt
  exact Calls.Name_function_global L.kind hg (Calls.loadGlobal_builtin (by rw [L.eg]; exact L.glob) hm (by rw [L.eb]; exact h1) ((h2 x hn).trans hv) h) hd
theorem lo_loc {x : Str} {u : Value} {pos : Pos} {m : Str → Option Value} {Q : Value → Shared → Prop} (hk : env.scope.kind = .function) (hl : env.kindOf x = some .local) (hn : s.heap.Ns env.locals m) (hm : m x = some u) (h : Q u s) (hd : (x == ("__debug__" : Str)) = false := by decide) :
    wpAny (model prog w) A (eval (.Name x pos) env) Q E s := wpAny_Name (wpAny_loadName_local hk hl hn hm h) hd
/-- isinstance(x, T), x a name of the frame, T a built-in class -/
theorem lo_isi {x T : Str} {Ts : String} {p1 p2 p3 pos : Pos} {m : Str → Option Value} {u : Value} {t : String} {Pk : Heap → Prop} {b : Bool} {Q : Value → Shared → Prop} (L : Lo K mg env s.heap) (hl : env.kindOf x = some .local) (hn : s.heap.Ns env.locals m) (hm : m x = some u)
    (hg : env.kindOf "isinstance" = some .globalImplicit) (hgT : env.kindOf T = some .globalImplicit) (mi : mg "isinstance" = none) (mT : mg T = none) (bT : bootBuiltins T = some (.type Ts))
    (Z : PySem.W.KitX K u (.type t) Pk) (pk : Pk s.heap) (e : PySem.W.kitOne K (.type t) (.type Ts) = some b) (hx : u ≠ .builtin "__main__.__loader__#opaque") (h : ∀ tk, Q (.bool b) { s with toks := tk })
    (hd : (x == ("__debug__" : Str)) = false := by decide) (hdT : (T == ("__debug__" : Str)) = false := by decide) (hnT : T ≠ "__name__" := by decide)
    (he : starEach [.Name x p2, .Name T p3] env = (false, eval (.Name x p2) env) :: starEach [.Name T p3] env := by rfl) (he2 : starEach [.Name T p3] env = (false, eval (.Name T p3) env) :: starEach [] env := by rfl) (hpl : (backTo pos (starEach [.Name T p3] env)).any (·.1) = false := by rfl) :
    wpAny (model prog w) A (eval (.Call (.Name "isinstance" p1) [.Name x p2, .Name T p3] [] pos) env) Q E s := by
  refine wpAny_Call_Name_kw (lo_blt L hg mi (u := .builtin "isinstance") (by decide +kernel) ?_)
  refine PyProof.Rows.callWith_builtin1 ?_ he hpl
  rw [he]
  show wpAny _ _ (spliced ((false, eval (.Name x p2) env) :: backTo pos (starEach [.Name T p3] env))) _ _ s
  refine Calls.spliced_cons (lo_loc L.kind hl hn hm ?_ hd)
  rw [he2]
  show wpAny _ _ (spliced ((false, _) :: backTo pos (starEach [] env))) _ _ s
  refine Calls.spliced_cons (lo_blt L hgT mT bT (Calls.spliced_nil ?_) hnT hdT)
  exact PySem.W.kia_one Z L.kin pk e hx h
/-- a frame's state goes on -/
theorem keeps_of {s s' : Shared} {h : Heap} {tk : Nat} (e : s' = { s with heap := h, toks := tk }) (k : ∀ b o, s.heap.get? b = some o → h.get? b = some o) : Keeps s s' := ⟨h, tk, e, k⟩
/-- is_whole's text -/
def wholeBody (p0 p1 p2 p3 p4 p5 p6 p7 p8 p9 p10 p11 : Pos) : List Stmt := [.Return (some (.BoolOp .And [.Call (.Name "isinstance" p0) [.Name "thing" p1, .Name "int" p2] [] p3, .UnaryOp .Not (.Call (.Name "isinstance" p4) [.Name "thing" p5, .Name "bool" p6] [] p7) p8] p9)) p10]
/-- the callee, at any depth -/
theorem lo_whole {f : Addr} {fd : FuncData} {st : Stmt} {u : Value} {t : String} {Pk : Heap → Prop} {x : V} {H : Hp} {Q : Value → Shared → Prop} {env : Env} (F : FnP K "is_whole" st f fd) (L : Lo K mg env s.heap) (hroom : A.depth < recursionLimit)
    (mi : mg "isinstance" = none) (m1 : mg "int" = none) (m2 : mg "bool" = none)
    (hs : (defScope st) = { kind := .function, names := [(Str.ofString "thing", .local), (Str.ofString "isinstance", .globalImplicit), (Str.ofString "int", .globalImplicit), (Str.ofString "bool", .globalImplicit)], isGenerator := false, isCoroutine := false, more := [] })
    (hb : ∃ p0 p1 p2 p3 p4 p5 p6 p7 p8 p9 p10 p11, defBody st = wholeBody p0 p1 p2 p3 p4 p5 p6 p7 p8 p9 p10 p11)
    (hbind : ∀ (kV doc pm : Value) (an : Option Addr) (cdv ct : Value) (us : List Value), us.length = 1 → bindArgs (PySem.W.fnOf "is_whole" "is_whole" (defArgs st) (defBody st) (defScope st) .none kV doc pm an cdv ct) ⟨us, []⟩ = pure ((["thing"] : List Str).zip us))
    (k : Kd K H x t) (Z : PySem.W.KitX K u (.type t) Pk) (pk : Pk s.heap) (pkm : ∀ h' : Heap, (∀ b o, s.heap.get? b = some o → h'.get? b = some o) → Pk h') (hx : u ≠ .builtin "__main__.__loader__#opaque") (h : ∀ s', Keeps s s' → Q (.bool (isW x)) s') :
    wpAny (model prog w) A (call (.ref f) [u]) Q E s := by
  have b := F.bindsN (ps := ["thing"]) hbind
  obtain ⟨oc, od, dV, kV, doc, pm, an, cdv, ct, osl, rfl, lk, hcd, _, _⟩ := F.ex
  have hbu := b s [u] L.kin rfl
  obtain ⟨p0, p1, p2, p3, p4, p5, p6, p7, p8, p9, p10, p11, hb⟩ := hb
  refine wpAny_call (Att.call_fn L.kin L.lim lk hcd hroom hbu (by rw [hs]; rfl) (fun s1 IC => ?_) (by rw [hs]) (by rw [hs]) (by rw [hs]))
  obtain ⟨h1, tk1, e1, k1⟩ := IC.done
  have hn := IC.toInCall.ns
  have k1' := IC.toInCall.keep
  rw [hb]
  have sc : (envOfC "is_whole" (defScope st) s.heap.objs.size f cdv).scope = defScope st := rfl
  have ko : ∀ y, (envOfC "is_whole" (defScope st) s.heap.objs.size f cdv).kindOf y = (defScope st).names.lookup y := fun _ => rfl
  have L1 : Lo K mg (envOfC "is_whole" (defScope st) s.heap.objs.size f cdv) s1.heap := ⟨L.kin.keeps k1', L.glob.keeps k1', let ⟨mb, a, b⟩ := L.blt; ⟨mb, a.keeps k1', b⟩, L.lim.keeps k1', by rw [sc, hs], rfl, rfl⟩
  have kk : ∀ y, (envOfC "is_whole" (defScope st) s.heap.objs.size f cdv).kindOf y = ([(Str.ofString "thing", NameKind.local), (Str.ofString "isinstance", .globalImplicit), (Str.ofString "int", .globalImplicit), (Str.ofString "bool", .globalImplicit)] : List (Str × NameKind)).lookup y := fun y => by rw [ko, hs]
  have hm : bindL (envOfC "is_whole" (defScope st) s.heap.objs.size f cdv).kindOf ((["thing"] : List Str).zip ([u] ++ [])) (fun _ => none) "thing" = some u := bindL_get (P := ["thing"]) (vs := [u]) (i := 0) (by decide) rfl rfl (by rw [kk]; rfl)
  show wpAny _ _ (execs [_] _) _ _ s1
  refine wpAny_execs_cons (wpAny_Return_some (BoolOp_and (lo_isi L1 (by rw [kk]; rfl) hn hm (by rw [kk]; rfl) (by rw [kk]; rfl) mi m1 (Ts := "int") (by decide +kernel) Z (pkm _ k1') (kd_int k) hx fun tk => wpAny_truthy_bool ?_)))
  have fin : ∀ (b : Bool) tk', Q (.bool b) { s1 with toks := tk' } ↔ Q (.bool b) { s1 with toks := tk' } := fun _ _ => Iff.rfl
  cases hI : isI x with
  | false =>
    refine (show Q (.bool false) { s1 with toks := tk } from ?_)
    have e : isW x = false := by rw [isW_eq, hI]; rfl
    rw [← e]; exact h _ (keeps_of (h := h1) (tk := tk) (by rw [e1]) k1)
  | true =>
    refine BoolOp_one (UnaryOp_ (lo_isi (s := { s1 with toks := tk }) L1 (by rw [kk]; rfl) hn hm (by rw [kk]; rfl) (by rw [kk]; rfl) mi m2 (Ts := "bool") (by decide +kernel) Z (pkm _ k1') (kd_bool k) hx fun tk2 => not_of (wpAny_truthy_bool ?_)))
    have e : isW x = !isB x := by rw [isW_eq, hI]; rfl
    show Q (.bool (!isB x)) { s1 with toks := tk2 }
    rw [← e]; exact h _ (keeps_of (h := h1) (tk := tk2) (by rw [e1]) k1)
end
end MM
namespace MM
open PySem PySem.Spec PyProof.Rows L2 GxR
theorem nofree_gen {l : List (Str × NameKind)} (h : (l.all fun y => y.2 != .free) = true) : ∀ y ∈ l, y.2 = .free → False := fun y hy e => by
  have := List.all_eq_true.mp h y hy; rw [e] at this; exact absurd this (by decide)
section
variable {X : Cx}
/-- what a generator's frame knows of the module -/
theorem GenIn.lo {P : Addr} {scope : Scope} {pins : List (Addr × Obj)} {σ : L2.St} {H1 : Hp} {s1 s2 : Shared} {cenv : Env} (G : GenIn X P scope s1 cenv s2) (I : Inv X pins σ H1 s1) (hP : H1 P ≠ none) (hk : scope.kind = .function) : Lo X.K X.mg cenv s2.heap := by
  have kb : ∀ b o, X.base.get? b = some o → s2.heap.get? b = some o := fun b o e => by
    obtain ⟨e1, e2⟩ := I.bs b o e
    exact G.keep b o (fun z => hP (by rw [← z]; exact e2)) e1
  obtain ⟨mb, b1, b2⟩ := I.mod.blt
  exact ⟨I.mod.kin.keeps kb, I.mod.glob.keeps kb, ⟨mb, b1.keeps kb, b2⟩, G.lim, by rw [G.sco]; exact hk, by rw [G.glob]; exact I.ok.glob, G.blt⟩
/-- the table is no object of the written part, no list, no tuple .. -/
theorem tab_ne {P : Addr} {pins : List (Addr × Obj)} {σ : L2.St} {H1 : Hp} {s1 : Shared} {ps : Array Value} (I : Inv X pins σ H1 s1) (hP : H1 P = some (.tbl ps)) {b : Addr} {o : Obj} (e : s1.heap.get? b = some o) (n : ∀ xs, o.data ≠ .fields xs) : b ≠ P := fun z => by
  have q : s1.heap.get? P = some { cls := .none, data := .fields ps } := I.hok P _ hP
  rw [z, q] at e; cases e; exact n ps rfl
def okKd (X : Cx) : L2.St → Hp → V → Prop := fun _ H v => ∃ T, Kd X.K H v T
/-- is_whole(x) of the generator's name -/
theorem elt_whole {P f : Addr} {fd : FuncData} {st : Stmt} {scope : Scope} {y : Str} {p1 p2 pos : Pos} {k : Nat} (F : FnP X.K "is_whole" st f fd) (hr : Room k X.A)
    (g : X.mg "is_whole" = some (.ref f)) (mi : X.mg "isinstance" = none) (m1 : X.mg "int" = none) (m2 : X.mg "bool" = none)
    (hs : (defScope st) = { kind := .function, names := [(Str.ofString "thing", .local), (Str.ofString "isinstance", .globalImplicit), (Str.ofString "int", .globalImplicit), (Str.ofString "bool", .globalImplicit)], isGenerator := false, isCoroutine := false, more := [] })
    (hb : ∃ p0 p1 p2 p3 p4 p5 p6 p7 p8 p9 p10 p11, defBody st = wholeBody p0 p1 p2 p3 p4 p5 p6 p7 p8 p9 p10 p11)
    (hbind : ∀ (kV doc pm : Value) (an : Option Addr) (cdv ct : Value) (us : List Value), us.length = 1 → bindArgs (PySem.W.fnOf "is_whole" "is_whole" (defArgs st) (defBody st) (defScope st) .none kV doc pm an cdv ct) ⟨us, []⟩ = pure ((["thing"] : List Str).zip us))
    (sk : scope.kind = .function) (sy : scope.names.lookup y = some .local) (sg : scope.names.lookup ("is_whole" : Str) = some .globalImplicit) (hd : (y == ("__debug__" : Str)) = false := by decide) :
    EltT X P scope y (.Call (.Name "is_whole" p1) [.Name y p2] [] pos) (okKd X) fun _ v => isW v := by
  intro pins σ H1 s1 I cenv A' E' v u s2 mm G ⟨ps, hPt, _⟩ hA hD hU rv ⟨T, kd⟩ hn hm
  have hP : H1 P ≠ none := by rw [hPt]; exact fun z => nomatch z
  have L := G.lo I hP sk
  have kk : ∀ z, cenv.kindOf z = scope.names.lookup z := fun z => by show cenv.scope.names.lookup z = _; rw [G.sco]
  obtain ⟨Pk, Z, pk, pkm, hx⟩ := kd.kit (h2 := s2.heap) I rv fun b o _ n e => G.keep b o (tab_ne I hPt e n) e
  have he : starEach [.Name y p2] cenv = (false, eval (.Name y p2) cenv) :: starEach [] cenv := rfl
  refine wpAny_Call_Name_kw (lo_glob L (by rw [kk]; exact sg) g ?_)
  refine PySem.W.callWith_K (h₀ := s2.heap) L.kin F.kp ?_ he rfl
  rw [he]
  show wpAny _ _ (spliced ((false, _) :: backTo pos (starEach [] cenv))) _ _ s2
  refine Calls.spliced_cons (lo_loc L.kind (by rw [kk]; exact sy) hn hm (Calls.spliced_nil ⟨L.kin, ?_⟩) hd)
  exact lo_whole F L (by have := hr.dp; omega) mi m1 m2 hs hb hbind kd Z pk pkm hx fun s' K' => ⟨rfl, K'⟩
end
end MM
/-! the layer's rules, the written part named (so that a block's context does not stand in a reading) -/
namespace MM
open PySem PySem.Spec PyProof.Rows L2 GxR
section
variable {X : Cx} {K : PySem.W.Frag} {e o a : Expr} {es : List Expr} {te to ta : TE} {t : TA} {T id : String} {name : Str} {r : V → List V → Hp → VK → Prop} {apos cpos pos p p2 : Pos}
theorem k_bm (hK : X.K = K) (pa : PlainAttrs T) (slot : Slot T name id) (hty : typeOf (.builtin id) = pure (.type "method_descriptor")) (hm : MtR X id r) (ho : PE X o to) (ha : PA X (e :: es) t) (hbase : attributeBase o name X.env (eval o X.env) = eval o X.env := by rfl)
    (hfew : ((backTo cpos (starEach (e :: es) X.env)).all (fun x => !x.1) && (backToKw cpos (keywordEach [] X.env)).all (fun x => x.1.isSome) && decide ((e :: es).length + ([] : List Keyword).length + (if ([] : List Keyword).isEmpty then 0 else 1) < 30)) = true := by rfl)
    (hline : (apos.endLine == cpos.line) = true := by rfl) (hs : starEach (e :: es) X.env = (false, eval e X.env) :: starEach es X.env := by rfl) (hplain : (backTo cpos (starEach es X.env)).any (·.1) = false := by rfl) : PE X (.Call (.Attribute o name apos) (e :: es) [] cpos) (tBM K T r to t) := hK ▸ pe_bm pa slot hty hm ho ha hbase hfew hline hs hplain
theorem k_ixl (hK : X.K = K) : IxR X (rIxL K) := hK ▸ ix_list
theorem k_ixt (hK : X.K = K) : IxR X (rIxT K) := hK ▸ ix_tup
def rLenK (K : PySem.W.Frag) : List V → Hp → VK → Prop := fun xs H Q => ∃ p ys, xs = [.ref p] ∧ (SqL K H p ys ∨ SqT K H p ys) ∧ Q (.int ys.length) H
theorem k_len (hK : X.K = K) : CallR X (.builtin "len") (rLenK K) := hK ▸ call_len_seq
theorem k_eq (hK : X.K = K) (hu : X.A.units + 64 < cLine) : OpR X (compareOp .Eq) (rEqD K) := hK ▸ op_eqD hu
theorem k_ne (hK : X.K = K) (hu : X.A.units + 64 < cLine) : OpR X (compareOp .NotEq) (rNeD K) := hK ▸ op_neD hu
theorem k_isi (hK : X.K = K) : CallR X (.builtin "isinstance") (rIsi K) := hK ▸ call_isi
theorem k_sortT (hK : X.K = K) : CallR X (.builtin "sorted") (rSortedTup K) := hK ▸ cr_sortedTup
theorem k_sum (hK : X.K = K) (hc : X.calm = true) : CallR X (.builtin "sum") (rSum K) := hK ▸ cr_sum hc
theorem k_in (hK : X.K = K) : OpR X (compareOp .In) (rIn K false) := hK ▸ op_in_seq
theorem k_notIn (hK : X.K = K) : OpR X (compareOp .NotIn) (rIn K true) := hK ▸ op_notIn_seq
theorem k_sll (hK : X.K = K) : SlR X (rSlL K) := hK ▸ sl_list
theorem k_revT {k : Nat} {p1 p2 p3 pos : Pos} (hK : X.K = K) (he : PE X e te) : PE X (.Subscript e (.Slice none none (some (.UnaryOp .USub (.Constant (.int 1) k p1) p2)) p3) pos) (tRevT K te) := hK ▸ pe_revT he
theorem k_revL {k : Nat} {p1 p2 p3 pos : Pos} (hK : X.K = K) (he : PE X e te) : PE X (.Subscript e (.Slice none none (some (.UnaryOp .USub (.Constant (.int 1) k p1) p2)) p3) pos) (tRevL K te) := hK ▸ pe_revL he
theorem k_piL {tg l : Expr} {tl : TE} (hK : X.K = K) (hl : PE X l tl) : PI X tg l (iList K tl) := hK ▸ pi_list hl
theorem k_piT {tg l : Expr} {tl : TE} (hK : X.K = K) (hl : PE X l tl) : PI X tg l (iTup K tl) := hK ▸ pi_tup hl
theorem k_piE {elts : List Expr} {kk : Nat} {tpos : Pos} (hK : X.K = K) (h : PI X (.Tuple elts kk tpos) a (iEnum X.K t)) : PI X (.Tuple elts kk tpos) a (iEnum K t) := hK ▸ h
theorem k_tup {tgs : List Expr} {k n : Nat} {u : TGs} (hK : X.K = K) (h : PG X (.Tuple tgs k pos) (gTup X.K n u)) : PG X (.Tuple tgs k pos) (gTup K n u) := hK ▸ h
def rListOf (K : PySem.W.Frag) : List V → Hp → VK → Prop := fun xs H Q => ∃ p ys, xs = [.ref p] ∧ (SqL K H p ys ∨ SqT K H p ys) ∧ ∀ l, H l = none → Q (.ref l) (upd H l (.lst ys))
theorem k_listOf (hK : X.K = K) : CallR X (.type "list") (rListOf K) := hK ▸ call_list_of
/-! ### tuples: a new one, or the very same -/
def rSlE (K : PySem.W.Frag) : V → Option Int → Option Int → Hp → VK → Prop := fun x lo hi H Q => ∃ a xs, x = .ref a ∧ SqT K H a xs ∧ ∀ p H', Ex H H' → SqT K H' p (cutV xs lo hi) → Q (.ref p) H'
theorem k_slt (hK : X.K = K) : SlR X (rSlE K) := by
  subst hK
  intro pins s σ H x v vl vu lo hi sl Q I rx hs pl pu ⟨a, xs, ex, hT, q⟩
  refine sl_tupA pins s σ H x v vl vu lo hi sl Q I rx hs pl pu ⟨a, xs, ex, hT, fun hw => ?_, fun hw p np => q p _ (ex_new np) (SqT.of upd_same)⟩
  have e : cutV xs lo hi = xs := by unfold cutV; rw [hw.1, hw.2]; simp
  exact q a H ExB.refl (by rw [e]; exact hT)
def tTupE (K : PySem.W.Frag) (te : TE) : TE := fun σ H Q => te σ H fun x H1 => ∃ p xs, x = .ref p ∧ ((SqL K H1 p xs ∧ ∀ q H', Ex H1 H' → H1 q = none → H' q = some (.tup xs) → Q (.ref q) H') ∨ (SqT K H1 p xs ∧ Q (.ref p) H1))
theorem k_tupOf {p pos : Pos} (hK : X.K = K) (hg : Gl X "tuple") (hm : X.mg "tuple" = none) (ha : PE X a ta) (na : starEach [a] X.env = (false, eval a X.env) :: starEach [] X.env := by rfl) : PE X (.Call (.Name "tuple" p) [a] [] pos) (tTupE K ta) := by
  subst hK
  refine ⟨fun pins s σ H Q I h => Call_ (ld_blt I hg hm boot_tuple (PyProof.Rows.callWith_type1 (one_arg ha I h (fun v s2 x H2 I2 r q => ?_) na) na))⟩
  obtain ⟨p, xs, ex, q⟩ := q
  refine rl_tuple pins s2 σ H2 x v Q I2 r ?_
  rcases q with ⟨h1, q⟩ | ⟨h1, q⟩
  · exact .inl ⟨p, xs, ex, h1, fun z nz => q z _ (ex_new nz) nz upd_same⟩
  · exact .inr ⟨p, xs, ex, h1, by rw [← ex] at *; first | exact q | (rw [ex]; exact q)⟩
end
end MM
namespace MM
open PySem PySem.Spec PyProof.Rows L2 GxR
/-! ### is_gap(x, many) within a generator -/
def gapV (m : Int) : V → Bool
  | .int i => decide (0 ≤ i ∧ i ≤ m - 2)
  | _ => false
theorem gapV_isW {m : Int} {x : V} (h : isW x = false) : gapV m x = false := by
  cases x <;> first | rfl | cases h
theorem isW_int {x : V} (h : isW x = true) : ∃ i, x = .int i := by
  cases x <;> first | exact ⟨_, rfl⟩ | cases h
section
variable {prog : Program} {w : World} {A : Around} {E : Value → Shared → Prop} {s : Shared} {K : PySem.W.Frag} {mg : Str → Option Value} {env : Env}
def gapBody (p0 p1 p2 p3 p4 p5 p6 p7 p8 p9 p10 : Pos) : List Stmt := [.Return (some (.BoolOp .And [.Call (.Name "is_whole" p0) [.Name "thing" p1] [] p2, .Compare (.Constant (.int 0) 0 p3) [.LtE, .LtE] [.Name "thing" p4, .BinOp (.Name "many" p5) .Sub (.Constant (.int 2) 0 p6) p7] p8] p9)) p10]
theorem lo_gap {f fW : Addr} {fd fdW : FuncData} {st stW : Stmt} {u : Value} {t : String} {Pk : Heap → Prop} {x : V} {m : Int} {tk : Tok} {H : Hp} {Q : Value → Shared → Prop} {env : Env} (F : FnP K "is_gap" st f fd) (FW : FnP K "is_whole" stW fW fdW) (gW : mg "is_whole" = some (.ref fW)) (L : Lo K mg env s.heap) (hroom : A.depth + 1 < recursionLimit)
    (mi : mg "isinstance" = none) (m1 : mg "int" = none) (m2 : mg "bool" = none)
    (hs : (defScope st) = { kind := .function, names := [(Str.ofString "thing", .local), (Str.ofString "many", .local), (Str.ofString "is_whole", .globalImplicit)], isGenerator := false, isCoroutine := false, more := [] })
    (hb : ∃ p0 p1 p2 p3 p4 p5 p6 p7 p8 p9 p10, defBody st = gapBody p0 p1 p2 p3 p4 p5 p6 p7 p8 p9 p10)
    (hbind : ∀ (kV doc pm : Value) (an : Option Addr) (cdv ct : Value) (us : List Value), us.length = 2 → bindArgs (PySem.W.fnOf "is_gap" "is_gap" (defArgs st) (defBody st) (defScope st) .none kV doc pm an cdv ct) ⟨us, []⟩ = pure ((["thing", "many"] : List Str).zip us))
    (hsW : (defScope stW) = { kind := .function, names := [(Str.ofString "thing", .local), (Str.ofString "isinstance", .globalImplicit), (Str.ofString "int", .globalImplicit), (Str.ofString "bool", .globalImplicit)], isGenerator := false, isCoroutine := false, more := [] })
    (hbW : ∃ p0 p1 p2 p3 p4 p5 p6 p7 p8 p9 p10 p11, defBody stW = wholeBody p0 p1 p2 p3 p4 p5 p6 p7 p8 p9 p10 p11)
    (hbindW : ∀ (kV doc pm : Value) (an : Option Addr) (cdv ct : Value) (us : List Value), us.length = 1 → bindArgs (PySem.W.fnOf "is_whole" "is_whole" (defArgs stW) (defBody stW) (defScope stW) .none kV doc pm an cdv ct) ⟨us, []⟩ = pure ((["thing"] : List Str).zip us))
    (k : Kd K H x t) (rv : RelV x u) (Z : PySem.W.KitX K u (.type t) Pk) (pk : Pk s.heap) (pkm : ∀ h' : Heap, (∀ b o, s.heap.get? b = some o → h'.get? b = some o) → Pk h') (hx : u ≠ .builtin "__main__.__loader__#opaque") (h : ∀ s', Keeps s s' → Q (.bool (gapV m x)) s') :
    wpAny (model prog w) A (call (.ref f) [u, .int m tk]) Q E s := by
  have b := F.bindsN (ps := ["thing", "many"]) hbind
  obtain ⟨oc, od, dV, kV, doc, pm, an, cdv, ct, osl, rfl, lk, hcd, _, _⟩ := F.ex
  have hbu := b s [u, .int m tk] L.kin rfl
  obtain ⟨p0, p1, p2, p3, p4, p5, p6, p7, p8, p9, p10, hb⟩ := hb
  refine wpAny_call (Att.call_fn L.kin L.lim lk hcd (by omega) hbu (by rw [hs]; rfl) (fun s1 IC => ?_) (by rw [hs]) (by rw [hs]) (by rw [hs]))
  obtain ⟨h1, tk1, e1, k1⟩ := IC.done
  have hn := IC.toInCall.ns
  have k1' := IC.toInCall.keep
  rw [hb]
  have sc : (envOfC "is_gap" (defScope st) s.heap.objs.size f cdv).scope = defScope st := rfl
  have ko : ∀ y, (envOfC "is_gap" (defScope st) s.heap.objs.size f cdv).kindOf y = (defScope st).names.lookup y := fun _ => rfl
  have L1 : Lo K mg (envOfC "is_gap" (defScope st) s.heap.objs.size f cdv) s1.heap := ⟨L.kin.keeps k1', L.glob.keeps k1', let ⟨mb, a, b⟩ := L.blt; ⟨mb, a.keeps k1', b⟩, L.lim.keeps k1', by rw [sc, hs], rfl, rfl⟩
  have kk : ∀ y, (envOfC "is_gap" (defScope st) s.heap.objs.size f cdv).kindOf y = ([(Str.ofString "thing", NameKind.local), (Str.ofString "many", .local), (Str.ofString "is_whole", .globalImplicit)] : List (Str × NameKind)).lookup y := fun y => by rw [ko, hs]
  have hm : bindL (envOfC "is_gap" (defScope st) s.heap.objs.size f cdv).kindOf ((["thing", "many"] : List Str).zip ([u, .int m tk] ++ [])) (fun _ => none) "thing" = some u := bindL_get (P := ["thing", "many"]) (vs := [u, .int m tk]) (i := 0) (by decide) rfl rfl (by rw [kk]; rfl)
  have hm2 : bindL (envOfC "is_gap" (defScope st) s.heap.objs.size f cdv).kindOf ((["thing", "many"] : List Str).zip ([u, .int m tk] ++ [])) (fun _ => none) "many" = some (.int m tk) := bindL_get (P := ["thing", "many"]) (vs := [u, .int m tk]) (i := 1) (by decide) rfl rfl (by rw [kk]; rfl)
  show wpAny _ _ (execs [_] _) _ _ s1
  have he : starEach [.Name "thing" p1] (envOfC "is_gap" (defScope st) s.heap.objs.size f cdv) = (false, eval (.Name "thing" p1) (envOfC "is_gap" (defScope st) s.heap.objs.size f cdv)) :: starEach [] (envOfC "is_gap" (defScope st) s.heap.objs.size f cdv) := rfl
  refine wpAny_execs_cons (wpAny_Return_some (BoolOp_and ?_))
  refine wpAny_Call_Name_kw (lo_glob L1 (by rw [kk]; rfl) gW ?_)
  refine PySem.W.callWith_K (h₀ := s1.heap) L1.kin FW.kp ?_ he rfl
  rw [he]
  show wpAny _ _ (spliced ((false, _) :: backTo p2 (starEach [] _))) _ _ s1
  refine Calls.spliced_cons (lo_loc L1.kind (by rw [kk]; rfl) hn hm (Calls.spliced_nil ⟨L1.kin, ?_⟩))
  refine lo_whole FW L1 (by show A.depth + 1 < recursionLimit; exact hroom) mi m1 m2 hsW hbW hbindW k Z (pkm _ k1') (fun h' k' => pkm h' fun b o e => k' b o (k1' b o e)) hx fun s2 K2 => wpAny_truthy_bool ?_
  obtain ⟨h2, tk2, e2, k2⟩ := K2
  have kall : ∀ b o, s.heap.get? b = some o → s2.heap.get? b = some o := fun b o e => by rw [e2]; exact k2 b o (k1' b o e)
  cases hI : isW x with
  | false =>
    rw [show gapV m x = false from gapV_isW hI] at h
    refine (show Q (.bool false) s2 from h _ ⟨h2, tk2, by rw [e2, e1], fun b o e => k2 b o (k1' b o e)⟩)
  | true =>
    obtain ⟨i, rfl⟩ := isW_int hI
    obtain ⟨ti, rfl⟩ : ∃ ti, u = .int i ti := rv
    have L2' : Lo K mg (envOfC "is_gap" (defScope st) s.heap.objs.size f cdv) s2.heap := L1.keeps fun b o e => by rw [e2]; exact k2 b o e
    have hn2 : s2.heap.Ns (envOfC "is_gap" (defScope st) s.heap.objs.size f cdv).locals (bindL (envOfC "is_gap" (defScope st) s.heap.objs.size f cdv).kindOf ((["thing", "many"] : List Str).zip ([.int i ti, .int m tk] ++ [])) (fun _ => none)) := by rw [e2]; exact hn.keeps k2
    refine BoolOp_one (Compare_chain (wpAny_Constant_int (chain_link (lo_loc L2'.kind (by rw [kk]; rfl) hn2 hm (le_int (wpAny_truthy_bool ?_))))) rfl)
    have fin : ∀ (b : Bool) tk', b = gapV m (.int i) → Q (.bool b) { s2 with toks := tk' } := fun b tk' e => by
      rw [e]; exact h _ ⟨h2, tk', by rw [e2, e1], fun b o e => k2 b o (k1' b o e)⟩
    by_cases h0 : (0 : Int) ≤ i
    · rw [decide_eq_true h0]
      refine ite_tt (chain_last (wpAny_BinOp (lo_loc L2'.kind (by rw [kk]; rfl) hn2 hm2 (wpAny_Constant_int (sub_int (le_int ?_))))))
      exact fin _ _ (by unfold gapV; rw [Bool.eq_iff_iff]; simp [h0])
    · rw [decide_eq_false h0]
      refine ite_ff ?_
      exact fin _ _ (by unfold gapV; rw [Bool.eq_iff_iff]; simp [h0])
/-- a name of the def's frame, seen from the generator -/
theorem cap_loc {X : Cx} {P : Addr} {scope : Scope} {pins : List (Addr × Obj)} {σ : L2.St} {H1 : Hp} {s1 s2 : Shared} {cenv : Env} {z : Str} {i : Nat} {v : V} {pos : Pos} {A' : Around} {E' : Value → Shared → Prop} {Q : Value → Shared → Prop} (G : GenIn X P scope s1 cenv s2) (I : Inv X pins σ H1 s1) (hP : ∃ ps, H1 P = some (.tbl ps)) (hk : scope.kind = .function)
    (hz : scope.names.lookup z = some .free) (hc : X.env.kindOf z = some .cell) (cl : ∀ c, X.env.cells.lookup z = some c → (cloFrom X.env.cells scope.names []).lookup z = some c) (hi : X.N[i]? = some z) (hv : σ[i]? = some (some v))
    (h : ∀ u, RelV v u → Q u s2) (hd : (z == ("__debug__" : Str)) = false := by decide) (hn : (z == ("__classdict__" : Str)) = false := by decide) : wpAny (model X.prog X.w) A' (eval (.Name z pos) cenv) Q E' s2 := by
  obtain ⟨mm, _, hl⟩ := I.loc
  obtain ⟨u, ru, hu⟩ := hl i z v hi hv (.inr (.inl hc))
  rcases hu with ⟨k1, _⟩ | ⟨_, c, hcl, hcell⟩
  · rw [hc] at k1; cases k1
  · obtain ⟨ps, hP⟩ := hP
    have cell2 : s2.heap.IsCell c (some u) := by
      obtain ⟨o, eo, ed⟩ := hcell
      exact ⟨o, G.keep c o (tab_ne I hP eo fun xs z => by rw [ed] at z; cases z) eo, ed⟩
    refine wpAny_Name (wpAny_loadName_free (c := c) (by rw [G.sco]; exact hk) (by show cenv.scope.names.lookup z = _; rw [G.sco]; exact hz) (by rw [G.cells]; exact cl c hcl) cell2 (h u ru) hn) hd
end
section
variable {X : Cx}
def gapAt (j : Nat) (σ : L2.St) (v : V) : Bool := match σ[j]? with
  | some (some (.int m)) => gapV m v
  | _ => false
/-- is_gap(x, many) of the generator's name and a name of the def -/
theorem elt_gap {P f fW : Addr} {fd fdW : FuncData} {st stW : Stmt} {scope : Scope} {y z : Str} {p1 p2 p3 pos : Pos} {k j : Nat} (F : FnP X.K "is_gap" st f fd) (FW : FnP X.K "is_whole" stW fW fdW) (hr : Room k X.A)
    (g : X.mg "is_gap" = some (.ref f)) (gW : X.mg "is_whole" = some (.ref fW)) (mi : X.mg "isinstance" = none) (m1 : X.mg "int" = none) (m2 : X.mg "bool" = none)
    (hs : (defScope st) = { kind := .function, names := [(Str.ofString "thing", .local), (Str.ofString "many", .local), (Str.ofString "is_whole", .globalImplicit)], isGenerator := false, isCoroutine := false, more := [] })
    (hb : ∃ p0 p1 p2 p3 p4 p5 p6 p7 p8 p9 p10, defBody st = gapBody p0 p1 p2 p3 p4 p5 p6 p7 p8 p9 p10)
    (hbind : ∀ (kV doc pm : Value) (an : Option Addr) (cdv ct : Value) (us : List Value), us.length = 2 → bindArgs (PySem.W.fnOf "is_gap" "is_gap" (defArgs st) (defBody st) (defScope st) .none kV doc pm an cdv ct) ⟨us, []⟩ = pure ((["thing", "many"] : List Str).zip us))
    (hsW : (defScope stW) = { kind := .function, names := [(Str.ofString "thing", .local), (Str.ofString "isinstance", .globalImplicit), (Str.ofString "int", .globalImplicit), (Str.ofString "bool", .globalImplicit)], isGenerator := false, isCoroutine := false, more := [] })
    (hbW : ∃ p0 p1 p2 p3 p4 p5 p6 p7 p8 p9 p10 p11, defBody stW = wholeBody p0 p1 p2 p3 p4 p5 p6 p7 p8 p9 p10 p11)
    (hbindW : ∀ (kV doc pm : Value) (an : Option Addr) (cdv ct : Value) (us : List Value), us.length = 1 → bindArgs (PySem.W.fnOf "is_whole" "is_whole" (defArgs stW) (defBody stW) (defScope stW) .none kV doc pm an cdv ct) ⟨us, []⟩ = pure ((["thing"] : List Str).zip us))
    (sk : scope.kind = .function) (sy : scope.names.lookup y = some .local) (sg : scope.names.lookup ("is_gap" : Str) = some .globalImplicit)
    (hz : scope.names.lookup z = some .free) (hc : X.env.kindOf z = some .cell) (cl : ∀ c, X.env.cells.lookup z = some c → (cloFrom X.env.cells scope.names []).lookup z = some c) (hj : X.N[j]? = some z)
    (hd : (y == ("__debug__" : Str)) = false := by decide) (hdz : (z == ("__debug__" : Str)) = false := by decide) (hnz : (z == ("__classdict__" : Str)) = false := by decide) :
    EltT X P scope y (.Call (.Name "is_gap" p1) [.Name y p2, .Name z p3] [] pos) (fun σ H v => (∃ T, Kd X.K H v T) ∧ ∃ m : Int, σ[j]? = some (some (.int m))) (gapAt j) := by
  intro pins σ H1 s1 I cenv A' E' v u s2 mm G ⟨ps, hPt, _⟩ hA hD hU rv ⟨⟨T, kd⟩, m, hm0⟩ hn hm
  have hP : H1 P ≠ none := by rw [hPt]; exact fun z => nomatch z
  have L := G.lo I hP sk
  have kk : ∀ z, cenv.kindOf z = scope.names.lookup z := fun z => by show cenv.scope.names.lookup z = _; rw [G.sco]
  obtain ⟨Pk, Z, pk, pkm, hx⟩ := kd.kit (h2 := s2.heap) I rv fun b o _ n e => G.keep b o (tab_ne I hPt e n) e
  have he : starEach [.Name y p2, .Name z p3] cenv = (false, eval (.Name y p2) cenv) :: starEach [.Name z p3] cenv := rfl
  have he2 : starEach [.Name z p3] cenv = (false, eval (.Name z p3) cenv) :: starEach [] cenv := rfl
  refine wpAny_Call_Name_kw (lo_glob L (by rw [kk]; exact sg) g ?_)
  refine PySem.W.callWith_K (h₀ := s2.heap) L.kin F.kp ?_ he (by rw [he2]; rfl)
  rw [he]
  show wpAny _ _ (spliced ((false, _) :: backTo pos (starEach [.Name z p3] cenv))) _ _ s2
  refine Calls.spliced_cons (lo_loc L.kind (by rw [kk]; exact sy) hn hm ?_ hd)
  rw [he2]
  show wpAny _ _ (spliced ((false, _) :: backTo pos (starEach [] cenv))) _ _ s2
  refine Calls.spliced_cons (cap_loc G I ⟨ps, hPt⟩ sk hz hc cl hj hm0 (fun um rum => Calls.spliced_nil ⟨L.kin, ?_⟩) hdz hnz)
  obtain ⟨tk, rfl⟩ : ∃ tk, um = .int m tk := rum
  have e : gapAt j σ v = gapV m v := by unfold gapAt; rw [hm0]
  rw [e]
  exact lo_gap F FW gW L (by have := hr.dp; omega) mi m1 m2 hs hb hbind hsW hbW hbindW kd rv Z pk pkm hx fun s' K' => ⟨rfl, K'⟩
end
end MM
namespace MM
open PySem PySem.Spec PyProof.Rows L2 GxR
/-! ### isinstance(x, bool) within a generator; t * k; t.index(x) -/
section
variable {X : Cx}
theorem free_one {l : List (Str × NameKind)} {cells : List (Str × Addr)} {z : Str} {c : Addr} (h : (l.all fun y => y.2 != .free || y.1 == z) = true) (hc : cells.lookup z = some c) : ∀ y ∈ l, y.2 = .free → ∃ c, cells.lookup y.1 = some c := fun y hy e => by
  have := List.all_eq_true.mp h y hy
  rw [e] at this
  have e2 : y.1 = z := by simpa using this
  exact ⟨c, by rw [e2]; exact hc⟩
end
/-- a block within a block -/
theorem blkOk_in {X : Cx} {s : Shared} {H : Hp} {scope inner sc : Scope} {cl : List (Str × Addr)} {C : Addr} {fp : List Addr} {own : List (Str × Nat)} {N : List Str} (hN : X.N = N) (hs : X.env.scope = sc) (h : blkC N (relS scope sc) inner own = true) : BlkOk (X.blk s H scope (compEnvC scope cl C X.env) fp).N (X.blk s H scope (compEnvC scope cl C X.env) fp).env.scope inner own := by
  subst hN
  subst hs
  exact blkOk_by h
end MM
namespace MM
open PySem PySem.Spec PyProof.Rows L2 GxR
/-! ### a new tuple whose object is known; a method of it -/
/-- a tuple of no dict -/
def FTup (H : Hp) (a : Addr) (xs : List V) : Prop := ∃ ob : Obj, ob.cls = .type "tuple" ∧ ob.dict = none ∧ H a = some (.frz ob (.tup xs))
theorem FTup.sqt {K : PySem.W.Frag} {H : Hp} {a : Addr} {xs : List V} (h : FTup H a xs) : SqT K H a xs := let ⟨o, _, _, e⟩ := h; .inl (.inr ⟨o, e⟩)
theorem FTup.ex {B : Addr → Prop} {H H' : Hp} {a : Addr} {xs : List V} (h : FTup H a xs) (e : ExB B H H') : FTup H' a xs := let ⟨o, c, d, q⟩ := h; ⟨o, c, d, e.fix _ _ q trivial⟩
section
variable {X : Cx} {K : PySem.W.Frag} {e o a : Expr} {es : List Expr} {te to ta : TE} {t : TA} {id : String} {name : Str} {r : V → List V → Hp → VK → Prop} {apos cpos pos p p2 : Pos}
end
end MM
namespace MM
open PySem PySem.Spec PyProof.Rows L2 GxR
/-! ### a call by keywords alone; isinstance of one of two classes; s[i] of either kind; a def that calls itself -/
section
variable {X : Cx} {K : PySem.W.Frag} {a b : Expr} {pos : Pos}
end
section
variable {P : Program} {w : World} {K : PySem.W.Frag} {mg : Str → Option Value} {base : Heap} {f : Addr} {fd : FuncData} {x : Str} {st : Stmt} {ps N ks : List Str} {k : Nat} {sp : Sp} {g : List Value → List Value → List Value} {gV : List V → List V → List V}
/-- a def that is called by keywords -/
def CallK (P : Program) (w : World) (K : PySem.W.Frag) (mg : Str → Option Value) (base : Heap) (k : Nat) (x : Str) (ps ks : List Str) (g : List Value → List Value → List Value) (gV : List V → List V → List V) (sp : Sp) : Prop :=
  ∃ f fd, FnG P w K mg base CX0 k f fd ps sp ∧ mg x = some (.ref f) ∧ PySem.W.keepIn K (.ref f) = true ∧ KBinds K fd ps ks g gV
theorem CallK.le {j : Nat} (C : CallK P w K mg base j x ps ks g gV sp) (h : j ≤ k) : CallK P w K mg base k x ps ks g gV sp := let ⟨f, fd, F, r⟩ := C; ⟨f, fd, F.mono h, r⟩
theorem callK (F : FnP K x st f fd) (hg : mg x = some (.ref f)) (S : FnScope N ps (defScope st))
    (hb : ∀ (kV doc pm : Value) (an : Option Addr) (cdv ct : Value) (us ws : List Value), (g us ws).length = ps.length → bindArgs (PySem.W.fnOf x x (defArgs st) (defBody st) (defScope st) .none kV doc pm an cdv ct) ⟨us, ks.zip ws⟩ = pure (ps.zip (g us ws)))
    (rel : ∀ {vs : List V} {us : List Value} {zs : List V} {ws : List Value}, Vals vs us → Vals zs ws → Vals (gV vs zs) (g us ws))
    (len : ∀ vs H Q E, sp vs H Q E → vs.length = ps.length)
    (body : ∀ (cdv : Value) (A : Around) (outer : List Env) (s : Shared) (H : Hp) (vs : List V) (Q : VK) (E : XK), (∀ oc od fd osl, K.lookup f = some ⟨oc, od, .func fd, osl⟩ → fd.code = cdv) → Room k (A.deeper (envOfC x (defScope st) s.heap.objs.size f cdv)) → (A.deeper (envOfC x (defScope st) s.heap.objs.size f cdv)).guards = some [] → sp vs H Q E →
      ∃ t, PSs (cxOf CX0 P w K mg base N x (defScope st) f cdv A outer s H E).nox (defBody st) t ∧ t { nx := fun _ H' => Q .non H', rt := Q } (start N vs) H) : CallK P w K mg base (k + 1) x ps ks g gV sp := by
  have kp := F.kp
  obtain ⟨oc, od, dV, kV, doc, pm, an, cdv, ct, osl, rfl, lk, hcd, hD, _⟩ := F.ex
  rcases hD with ⟨_, rfl⟩ | ⟨e, _⟩
  · refine ⟨f, _, fn_ofG lk hcd S len fun A outer s H vs Q E hr hG hsp => ?_, hg, kp, ⟨fun s us ws _ hl => .of_eq (hb kV doc pm an cdv ct us ws hl), rel⟩⟩
    obtain ⟨t, h1, h2⟩ := body cdv A outer s H vs Q E (fun _ _ _ _ e => by rw [lk] at e; cases e; rfl) hr hG hsp
    exact ⟨t, h1.nox, h2⟩
  · exact absurd rfl e
end
section
variable {X : Cx} {k : Nat} {x : Str} {ps ks : List Str} {sp : Sp} {g : List Value → List Value → List Value} {gV : List V → List V → List V} {kws : List Keyword} {tk : TA} {p pos : Pos}
end
end MM
namespace MM
open PySem PySem.Spec PyProof.Rows L2 GxR
/-! ### sums and slices of tuples that the program made: what comes of them is such a tuple -/
section
variable {X : Cx}
def rCatU : R2 := fun x y H Q => ∃ a b xs ys, x = .ref a ∧ y = .ref b ∧ H a = some (.tup xs) ∧ H b = some (.tup ys) ∧ xs.length + ys.length ≤ sizeLine ∧ ∀ p H', Ex H H' → H' p = some (.tup (xs ++ ys)) → Q (.ref p) H'
theorem k_catU : OpR X (binaryOp .Add) rCatU := by
  intro pins s σ H x y v u Q I rx ry ⟨a, b, xs, ys, ex, ey, hT, hT2, hz, q⟩
  refine op_catA pins s σ H x y v u Q I rx ry ⟨a, b, xs, ys, ex, ey, SqT.of hT, SqT.of hT2, hz, fun e => ?_, fun _ e => ?_, fun _ _ p np => q p _ (ex_new np) upd_same⟩
  · subst e; exact q b H ExB.refl hT2
  · subst e; exact q a H ExB.refl (by rw [List.append_nil]; exact hT)
def rSlU : V → Option Int → Option Int → Hp → VK → Prop := fun x lo hi H Q => ∃ a xs, x = .ref a ∧ H a = some (.tup xs) ∧ ∀ p H', Ex H H' → H' p = some (.tup (cutV xs lo hi)) → Q (.ref p) H'
theorem k_slU : SlR X rSlU := by
  intro pins s σ H x v vl vu lo hi sl Q I rx hs pl pu ⟨a, xs, ex, hT, q⟩
  refine sl_tupA pins s σ H x v vl vu lo hi sl Q I rx hs pl pu ⟨a, xs, ex, SqT.of hT, fun hw => ?_, fun hw p np => q p _ (ex_new np) upd_same⟩
  have e : cutV xs lo hi = xs := by unfold cutV; rw [hw.1, hw.2]; simp
  exact q a H ExB.refl (by rw [e]; exact hT)
end
end MM
namespace MM
open PySem PySem.Spec PyProof.Rows L2 GxR
/-! ### a dict written with one pair, whose key is a tuple that the program made -/
def tDisp1T (tk tv : TE) : TE := fun σ H Q => ∀ p, H p = none → tk σ (upd H p (.dT [])) fun x H1 => tv σ H1 fun y H2 => H2 p = some (.dT []) ∧ ∃ (b : Addr) (k : List Key), x = .ref b ∧ H2 b = some (.tup (k.map kV)) ∧ Q (.ref p) (upd H2 p (.dT (putK [] k y)))
theorem pe_disp1T {X : Cx} {pos : Pos} {k v : Expr} {tk tv : TE} (hu : X.A.units + 1 < cLine) (hk : PE X k tk) (hv : PE X v tv) : PE X (.Dict [some k] [v] pos) (tDisp1T tk tv) := by
  refine ⟨fun pins s σ H Q I q => ?_⟩
  have hn := I.hok.fresh (Nat.le_refl s.heap.objs.size)
  have I1 := I.laid (a := s.heap.objs.size) (o := .dT []) (h' := s.heap.push { cls := .type "dict", data := .dict #[] }) (t' := s.toks) (fun _ _ q => Heap.get?_push_of_some _ q) (Nat.le_refl _) (dt_empty s.heap I.big)
  refine wpAny_Dict_any (by rfl) (by rfl) (by simp) (by show 1 ≤ 15; omega) (pairTrees_cons_walk (thn (hk.run pins _ σ _ _ I1 (q _ hn)) fun u s1 ⟨x, H1, I1', rx, q1⟩ => thn (hv.run pins s1 σ H1 _ I1' q1) fun w2 s2 ⟨y, H2, I2, ry, e, b, kk, ex, eb, q2⟩ => pairTrees_nil_walk ?_))
  subst ex
  cases (show u = Value.ref b from rx)
  obtain ⟨z, hd, xs, rel, dd⟩ := dt_of I2.hok e
  cases rel
  show wpAny _ _ (storeAll _ [(Value.ref b, w2)]) _ _ _
  unfold storeAll
  rw [List.forIn_cons]
  refine wpAny_bind (wpAny_bind (wpAny_dictSet_heap (hsz := Nat.zero_le _) (show (tupleKind (mixKind X.prog X.w)).room X.A from (show X.A.units < cLine by omega)) (key_of I2.hok eb) dd fun h' dd' hs => wpAny_pure ?_))
  show wpAny _ _ (forIn [] PUnit.unit _) _ _ _
  rw [List.forIn_nil]
  refine wpAny_pure ⟨.ref s.heap.objs.size, _, ?_, rfl, q2⟩
  obtain ⟨o, es, ep, hq, h2, h3, h4, _, h5⟩ := dd'
  refine d_write I2 (by rw [e]; exact True.intro) hs ⟨o, hq⟩ ⟨?_, hd, _, ((show KT H2 [] [] from .nil).put kk eb ry).keeps fun c ys ec => ?_, o, es, ep, hq, h2, h3, h4, h5⟩
  · have := length_putK ([] : List (List Key × V)) kk y
    rw [List.length_nil] at this
    rw [sizeLine_eq]; omega
  · rw [upd_ne (ne_of ec e (fun z => nomatch z))]
    exact ec
end MM
namespace MM
open PySem PySem.Spec PyProof.Rows L2 GxR
/-! ### a generator over a tuple or a range, with tests and values, handed to tuple or sum -/
/-- what the generator goes through: xs -/
def SrcG (X : Cx) (P : Addr) (s1 : Shared) (u : Value) (xs : List V) : Prop := ∃ (o : Obj) (fpx : List Addr) (Pf : Nat → Value → Prop) (St0 : Nat → Heap → Prop), o.isFreed = false ∧
  (∀ Q : Value → Shared → Prop, Q (.ref s1.heap.objs.size) { s1 with heap := s1.heap.push o } → wpAny (model X.prog X.w) X.A (pyIter u) Q X.xe s1) ∧
  (∀ b ∈ fpx, b < s1.heap.objs.size ∧ b ≠ P) ∧
  (∀ A' : Around, A'.handled = none → Walks X.prog X.w A' s1.heap.objs.size (s1.heap.objs.size :: fpx) [s1.heap.objs.size] xs.length Pf St0) ∧
  (∀ h : Heap, h.get? s1.heap.objs.size = some o → (∀ b ∈ fpx, ∀ ob, s1.heap.get? b = some ob → h.get? b = some ob) → St0 0 h) ∧
  (∀ i u, Pf i u → ∃ x, xs[i]? = some x ∧ RelV x u)
theorem src_tup {X : Cx} {pins : List (Addr × Obj)} {σ : L2.St} {H1 : Hp} {s1 : Shared} {P a : Addr} {xs : List V} (I1 : Inv X pins σ H1 s1) (hP : ∃ ps, H1 P = some (.tbl ps)) (hT : SqT X.K H1 a xs) : SrcG X P s1 (.ref a) xs := by
  obtain ⟨ps, hP⟩ := hP
  obtain ⟨its, rv, htup, hsz⟩ := I1.tuple hT
  have htl : s1.heap.IsTuple a its.toArray := by first | exact htup | (obtain ⟨o, e1, e2, e3⟩ := htup; exact ⟨o, e1, e2, e3⟩)
  have hPs : s1.heap.get? P = some { cls := .none, data := .fields ps } := I1.hok P _ hP
  have alt : a < s1.heap.objs.size := by obtain ⟨_, e1, _⟩ := htl; exact Heap.lt_size e1
  have aneP : a ≠ P := by
    intro z; obtain ⟨oo, e1, e2, _⟩ := htl; rw [z, hPs] at e1; cases e1; cases e2
  refine ⟨{ cls := .type "tuple_iterator", data := .fields #[.ref a, .int 0 0] }, [a], (fun i u => its.toArray[i]? = some u), (fun i h => h.IsTupleIter s1.heap.objs.size a i ∧ h.IsTuple a its.toArray), rfl, fun Q q => wpAny_pyIter_tuple htl q, fun b hb => ?_, fun A' hA => ?_, fun h e1 e2 => ?_, fun i u e => ?_⟩
  · rw [List.mem_singleton.mp hb]; exact ⟨alt, aneP⟩
  · have W := Walks.tuple (prog := X.prog) (w := X.w) (A := A') hA s1.heap.objs.size a (Nat.ne_of_lt alt) its.toArray
    have : its.toArray.size = xs.length := by rw [List.size_toArray]; exact rv.length.symm
    rw [this] at W; exact W
  · refine ⟨⟨_, e1, rfl, rfl⟩, htl.at fun u e => e2 a List.mem_cons_self u e⟩
  · have hi2 : i < its.length := by have := (Array.getElem?_eq_some_iff.mp e).1; simpa using this
    have hix : i < xs.length := by rw [rv.length]; exact hi2
    obtain ⟨u', hu', ru⟩ := rv.get (List.getElem?_eq_getElem hix)
    have eu : u' = u := by
      have q : its.toArray[i]? = some u := e
      rw [List.getElem?_toArray, hu'] at q; exact Option.some.inj q
    subst eu
    exact ⟨_, List.getElem?_eq_getElem hix, ru⟩
theorem src_rng {X : Cx} {pins : List (Addr × Obj)} {σ : L2.St} {H1 : Hp} {s1 : Shared} {P a : Addr} {n : Nat} (I1 : Inv X pins σ H1 s1) (hn : n ≤ 1000000) (hT : H1 a = some (.rng 0 n)) : SrcG X P s1 (.ref a) ((List.range n).map fun (k : Nat) => V.int (k : Int)) := by
  obtain ⟨t, u, v, hr⟩ := (show ObjOk X.prog X.w H1 s1.heap a (.rng 0 n) from I1.hok a _ hT)
  have hsz : Builtin.Range.rangeSize 0 (n : Int) 1 = (n : Int) := by
    unfold Builtin.Range.rangeSize
    simp
    try omega
  have hsm : Builtin.Range.small 0 (n : Int) 1 = true := by
    unfold Builtin.Range.small
    rw [hsz]
    unfold Builtin.Range.rangeFitsLong
    simp
    try omega
  refine ⟨_, [], (fun i v => i < n ∧ ∃ t, v = .int (0 + i * 1) t), (fun i h => IsRangeIter h s1.heap.objs.size (0 + (i : Nat) * 1) ((n : Int) - (i : Nat)) 1), rfl, fun Q q => wpAny_pyIter_range hr hsm q, (fun _ h => nomatch h), fun A' hA => ?_, fun h e1 _ => ?_, fun i u ⟨hi, t, e⟩ => ?_⟩
  · have W := (Walks.range (prog := X.prog) (w := X.w) (A := A') hA s1.heap.objs.size 0 1 n).bound
    rw [List.length_map, List.length_range]; exact W
  · show IsRangeIter _ _ _ _ _
    rw [hsz] at e1; simpa using e1
  · subst e
    refine ⟨.int (i : Int), by rw [List.getElem?_map, List.getElem?_range hi]; rfl, t, ?_⟩
    rw [Int.zero_add, Int.mul_one]

def SrcV (K : PySem.W.Frag) (H1 : Hp) (v : V) (xs : List V) : Prop := (∃ a, v = .ref a ∧ SqT K H1 a xs) ∨ ∃ (a : Addr) (n : Nat), v = .ref a ∧ n ≤ 1000000 ∧ H1 a = some (.rng 0 n) ∧ xs = (List.range n).map fun (k : Nat) => V.int (k : Int)
theorem SrcV.g {X : Cx} {σ : L2.St} {P : Addr} {H1 : Hp} {v : V} {xs : List V} (h : SrcV X.K H1 v xs) (hP : TabG H1 P) (pins' : List (Addr × Obj)) (s1 : Shared) (u : Value) (I : Inv X pins' σ H1 s1) (r : RelV v u) : SrcG X P s1 u xs := by
  rcases h with ⟨a, rfl, hT⟩ | ⟨a, n, rfl, hn, ha, rfl⟩
  · obtain rfl : u = .ref a := r
    exact src_tup I ⟨_, hP.choose_spec.1⟩ hT
  · obtain rfl : u = .ref a := r
    exact src_rng I hn ha
/-- the element at an item v: nothing where a test fails, else the value y -/
def EltG (X : Cx) (P : Addr) (scope : Scope) (x : Str) (ifs : List Expr) (elt : Expr) (ok : L2.St → Hp → V → Option V → Prop) : Prop :=
  ∀ (pins : List (Addr × Obj)) (σ : L2.St) (H1 : Hp) (s1 : Shared), Inv X pins σ H1 s1 → ∀ (cenv : Env) (A' : Around) (E' : Value → Shared → Prop) (v : V) (u : Value) (s2 : Shared) (m2 : Str → Option Value) (r : Option V), GenIn X P scope s1 cenv s2 → TabG H1 P → A'.handled = none → A'.depth ≤ X.A.depth + 1 → A'.units ≤ X.A.units + 8 →
    RelV v u → ok σ H1 v r → s2.heap.Ns cenv.locals m2 → m2 x = some u →
    wpAny (model X.prog X.w) A' (forIn ifs true fun c r => if r = true then do let ok ← isTrue c cenv (eval c cenv); pure (ForInStep.yield ok) else pure (ForInStep.yield r)) (fun b s3 => b = r.isSome ∧ Keeps s2 s3) E' s2 ∧
    ∀ y, r = some y → wpAny (model X.prog X.w) A' (eval elt cenv) (fun w s3 => RelV y w ∧ Keeps s2 s3) E' s2
/-- the generator g, ready to tell ys -/
def ReadyG (X : Cx) (pins : List (Addr × Obj)) (σ : L2.St) (H1 : Hp) (P : Addr) (ys : List V) (g : Addr) (s5 : Shared) : Prop :=
  ∃ (fp wr : List Addr) (G : Array GenState → Array GenState → Prop) (F : Nat → Value → Prop) (St : Nat → Shared → Prop),
    WalksS X.prog X.w X.A.in4 g fp wr G ys.length F St ∧ St 0 s5 ∧ g ∈ fp ∧ (∀ b ∈ fp, b < s5.heap.objs.size) ∧ (∀ i s, St i s → s.TypeIs (.ref g) "generator") ∧ (∀ j y, F j y → ∃ v, ys[j]? = some v ∧ RelV v y) ∧ ∀ s', Moved wr G s5 s' → ∃ H2, Tabbed P H1 H2 ∧ Inv X pins σ H2 s'
theorem pass_all (f : Nat → Option V) : ∀ l : List Nat, (l.filter fun i => (f i).isSome).map f = (l.filterMap f).map some
  | [] => rfl
  | i :: l => by
    have h := pass_all f l
    cases e : f i with
    | none => rw [List.filter_cons_of_neg (by rw [e]; decide), List.filterMap_cons_none e]; exact h
    | some y => rw [List.filter_cons_of_pos (by rw [e]; rfl), List.filterMap_cons_some e, List.map_cons, List.map_cons, h, e]
theorem pass_at {rs : List (Option V)} : (passing (fun i => ((rs[i]?).getD none).isSome) rs.length 0).map (fun i => (rs[i]?).getD none) = (rs.filterMap id).map some := by
  have e : rs = (List.range rs.length).map fun i => (rs[i]?).getD none := by
    refine List.ext_getElem (by simp) fun i h1 h2 => ?_
    rw [List.getElem_map, List.getElem_range, List.getElem?_eq_getElem h1]; rfl
  unfold passing
  rw [List.drop_zero, pass_all]
  have e2 : rs.filterMap id = (List.range rs.length).filterMap fun i => (rs[i]?).getD none := by
    conv => lhs; rw [e]
    rw [List.filterMap_map]; rfl
  rw [e2]
section
variable {X : Cx} {pins : List (Addr × Obj)} {σ : L2.St} {H : Hp} {s : Shared}
theorem gen_any {c P : Addr} {elt iter : Expr} {ifs : List Expr} {x : Str} {px gpos : Pos} {scope : Scope} {ok : L2.St → Hp → V → Option V → Prop} {te : TE} {k : Nat} {Q' : Value → Shared → Prop} {R : List (Option V) → Hp → Prop}
    (hr : Room k X.A) (TB : TabB X.base X.mg c P) (hcode : X.env.code = .ref c) (S : GenS X.env scope x) (hi : PE X iter te) (hel : EltG X P scope x ifs elt ok)
    (hs : ∀ v, genFold iter X.env v = pure v) (I : Inv X pins σ H s) (h : te σ H fun v H1 => TabG H1 P ∧ ∃ (xs : List V) (rs : List (Option V)), SrcV X.K H1 v xs ∧ rs.length = xs.length ∧ (∀ (j : Nat) (x : V) (r : Option V), xs[j]? = some x → rs[j]? = some r → ok σ H1 x r) ∧ R rs H1)
    (hQ : ∀ rs H1 g s5, R rs H1 → ReadyG X pins σ H1 P (rs.filterMap id) g s5 → Q' (.ref g) s5) :
    wpAny (model X.prog X.w) X.A (eval (.GeneratorExp elt [⟨.Name x px, iter, ifs, 0⟩] scope gpos) X.env) Q' X.xe s := by
  refine wpAny_GeneratorExp_walksQD hr.hd S.co (closure_ok S.free) S.cell S.dot S.loc S.kind (by have := hr.dp; omega) ?_ hs
  refine thn (hi.run pins s σ H _ I h) fun xv s1 ⟨v, H1, I1, r1, ⟨ps, hP, ht⟩, xs, rs, hsrc, hlen, hok, q1⟩ => ?_
  obtain ⟨o, fpx, Pf, St0, hfr, hit, hlow, hW, hst0, hitem⟩ := hsrc.g ⟨ps, hP, ht⟩ pins s1 xv I1 r1
  refine hit _ ?_
  have hPs : s1.heap.get? P = some { cls := .none, data := .fields ps } := I1.hok P _ hP
  have sz2 : (s1.heap.push o).objs.size = s1.heap.objs.size + 1 := Heap.size_push ..
  have hPlt := Heap.lt_size hPs
  have old : ∀ b u, s1.heap.get? b = some u → (s1.heap.push o).get? b = some u := fun b u e => Heap.get?_push_of_some _ e
  have cd : PySem.W.CodeHd (s1.heap.push o) c P := TB.code.keeps fun b u e => old b u (I1.bk b u e)
  have lim2 : (s1.heap.push o).NoLimit := I1.nolimit.push o
  have cont : ∀ (code : Value) (h3 : Heap) (tk : Nat) (ps' : Array Value), Heap.ExtBut P (s1.heap.push o) h3 → (s1.heap.push o).objs.size ≤ h3.objs.size → h3.get? P = some { cls := .none, data := .fields ps' } → (∃ more, ps' = ps ++ more) → TriplesOk ps'.toList → wpAny (model X.prog X.w) X.A (builtinsFor X.env.globals X.env.builtins) (fun bi s₄ =>
        ∃ Ia fp wr n₀ Pf St₀ pz F, Value.ref s1.heap.objs.size = .ref Ia ∧ (∀ A' : Around, A'.handled = none → Walks X.prog X.w A' Ia fp wr n₀ Pf St₀) ∧ St₀ 0 s₄.heap ∧ (∀ b ∈ fp, b < s₄.heap.objs.size) ∧ s₄.heap.NoLimit ∧ cStatics ∉ wr ∧
          (∀ href : Heap, (∀ b o, s₄.heap.get? b = some o → href.get? b = some o) → QuietGenD X.prog X.w (genEnv scope (cloFrom X.env.cells scope.names []) s₄.heap.objs.size code bi X.env) x ifs elt (List.range s₄.heap.objs.size) wr Pf pz F href (X.A.depth + 1) (X.A.units + 8)) ∧
          (∀ a h₅ tk gs, gs.bare = true → s₄.heap.objs.size < a → h₅.objs.size = a + 1 → (∀ b o, s₄.heap.get? b = some o → h₅.get? b = some o) →
            WalksS X.prog X.w X.A.in4 a (a :: s₄.heap.objs.size :: List.range s₄.heap.objs.size) (s₄.heap.objs.size :: wr) (GenOnlyQ s₄.gens.size) (passing pz n₀ 0).length (fun j y => ∃ i, (passing pz n₀ 0)[j]? = some i ∧ F i y) (GenAt X.prog X.w X.A.in4 a s₄.gens.size s₄.heap.objs.size (List.range s₄.heap.objs.size) wr pz n₀ F) →
            GenAt X.prog X.w X.A.in4 a s₄.gens.size s₄.heap.objs.size (List.range s₄.heap.objs.size) wr pz n₀ F 0 { s₄ with gens := s₄.gens.push gs, toks := tk, heap := h₅ } → Q' (.ref a) { s₄ with gens := s₄.gens.push gs, toks := tk, heap := h₅ })) X.xe { s1 with heap := h3, toks := tk } := by
    intro code h3 tk ps' hx hsz3 hP3 hmore ht3
    obtain ⟨bm, ob, e1, e2, e3, e4, e5, e6, e7, e8⟩ := TB.bm
    have hcP : cStatics ≠ P := by
      intro e; obtain ⟨_, ⟨o', es, ep, ho', hd', _⟩, _⟩ := I1.nolimit; rw [e, hPs] at ho'; cases ho'; cases hd'
    have hsz4 : s1.heap.objs.size + 1 ≤ h3.objs.size := by rw [← sz2]; exact hsz3
    have hcl : cStatics < s1.heap.objs.size := let ⟨_, hns, _⟩ := I1.nolimit; hns.lt
    have keep3 : ∀ b u, b ≠ P → s1.heap.get? b = some u → h3.get? b = some u := fun b u hb e => hx b u hb (old b u e)
    have lim3 : h3.NoLimit := lim2.extBut hx hcP
    refine wpAny_builtinsFor (m := X.mg) (by rw [I1.ok.glob]; exact ((I1.mod.glob.keeps I1.bk).push o).extBut hx TB.gP) e1 e2 (keep3 _ _ e4 (I1.bk _ _ e5)) e6 e7 e8 ?_
    refine ⟨s1.heap.objs.size, s1.heap.objs.size :: fpx, [s1.heap.objs.size], xs.length, Pf, St0, (fun i => ((rs[i]?).getD none).isSome), (fun i y => ∃ v, rs[i]? = some (some v) ∧ RelV v y), rfl, hW, ?_, ?_, lim3, ?_, ?_, ?_⟩
    · exact hst0 _ (hx _ _ (Nat.ne_of_gt hPlt) (Heap.get?_push_size _ hfr)) fun b hb ob e => keep3 b ob (hlow b hb).2 e
    · intro b hb
      show b < h3.objs.size
      rcases List.mem_cons.mp hb with z | z
      · rw [z]; exact hsz4
      · exact Nat.lt_of_lt_of_le (hlow b z).1 (Nat.le_trans (Nat.le_succ _) hsz4)
    · intro z; exact Nat.ne_of_lt hcl (List.mem_singleton.mp z)
    · intro href hhref
      have item : ∀ i u, Pf i u → ∃ y r, RelV y u ∧ rs[i]? = some r ∧ ok σ H1 y r := fun i u e => by
        obtain ⟨y, hy, ry⟩ := hitem i u e
        have hil : i < rs.length := by rw [hlen]; exact (List.getElem?_eq_some_iff.mp hy).1
        exact ⟨y, rs[i], ry, List.getElem?_eq_getElem hil, hok i y _ hy (List.getElem?_eq_getElem hil)⟩
      refine ⟨fun A' E' i u s₂ m₂ hA hD hU hPv hn hm hk => ?_, fun A' E' i u s₂ m₂ hA hD hU hPv hpz hn hm hk => ?_⟩
      all_goals
        obtain ⟨y, r, ry, hri, hyr⟩ := item i u hPv
        have kp : ∀ b ob, b ≠ P → s1.heap.get? b = some ob → s₂.heap.get? b = some ob := fun b ob hb e => by
          have hlt := Heap.lt_size e
          exact hk b (List.mem_range.mpr (Nat.lt_of_lt_of_le hlt (Nat.le_trans (Nat.le_succ _) hsz4))) (fun z => Nat.ne_of_lt hlt (List.mem_singleton.mp z)) ob (hhref b ob (keep3 b ob hb e))
        have hlimS : s₂.heap.NoLimit := I1.nolimit.at fun ob e => kp _ ob hcP e
        obtain ⟨t1, t2⟩ := hel pins σ H1 s1 I1 (genEnv scope (cloFrom X.env.cells scope.names []) h3.objs.size code builtinsNs X.env) A' E' y u s₂ m₂ r ⟨rfl, rfl, rfl, rfl, kp, hlimS⟩ ⟨ps, hP, ht⟩ hA hD hU ry hyr hn hm
      · refine wpAny_mono t1 (fun b s3 q => ⟨?_, q.2⟩) fun _ _ e => e
        rw [q.1]
        show r.isSome = ((rs[i]?).getD none).isSome
        rw [hri]; rfl
      · have hpz' : ((rs[i]?).getD none).isSome = true := hpz
        rw [hri] at hpz'
        cases r with
        | none => cases hpz'
        | some z => exact wpAny_mono (t2 z rfl) (fun w s3 q => ⟨⟨z, hri, q.1⟩, q.2⟩) fun _ _ e => e
    · intro g h5 tk5 gs hgb hag hsz5 hk5 W5 hat
      have pl : (passing (fun i => ((rs[i]?).getD none).isSome) xs.length 0).length = (rs.filterMap id).length := by
        have := congrArg List.length (pass_at (rs := rs))
        rw [List.length_map, List.length_map, hlen] at this; exact this
      rw [pl] at W5
      refine hQ rs H1 g _ q1 ⟨_, _, _, _, _, W5, hat, List.mem_cons_self, fun b hb => ?_, fun i s' hst => ?_, fun j y hy => ?_, fun s' hm => ?_⟩
      · show b < h5.objs.size
        rcases List.mem_cons.mp hb with z | z
        · rw [z, hsz5]; exact Nat.lt_succ_self _
        · have h2 : h3.objs.size < g := hag
          rw [hsz5]
          rcases List.mem_cons.mp z with z | z
          · rw [z]; exact Nat.lt_succ_of_lt h2
          · exact Nat.lt_succ_of_lt (Nat.lt_trans (show b < h3.objs.size from List.mem_range.mp z) h2)
      · obtain ⟨⟨o, _, _, e1, e2, _⟩, _⟩ := hst
        exact ⟨o, e1, e2⟩
      · obtain ⟨i, hij, v, hv, rv⟩ := hy
        refine ⟨v, ?_, rv⟩
        have h1 := congrArg (fun l => l[j]?) (pass_at (rs := rs))
        simp only [List.getElem?_map] at h1
        rw [hlen, hij] at h1
        simp only [Option.map_some, hv, Option.getD_some] at h1
        cases e : (rs.filterMap id)[j]? with
        | none => rw [e] at h1; cases h1
        | some y' => rw [e] at h1; simp at h1; rw [h1]
      · obtain ⟨more, em⟩ := hmore
        have nwr : ∀ b u, s1.heap.get? b = some u → b ∉ h3.objs.size :: [s1.heap.objs.size] := fun b u e hb => by
          have hl := Heap.lt_size e
          rcases List.mem_cons.mp hb with z | z
          · exact absurd (Nat.lt_of_lt_of_le hl (Nat.le_trans (Nat.le_succ _) hsz4)) (by rw [z]; exact Nat.lt_irrefl _)
          · exact Nat.ne_of_lt hl (List.mem_singleton.mp z)
        have J := inv_tab (more := more) (h' := s'.heap) (g' := s'.gens) (d' := s'.drawn) (t' := s'.toks) I1 hP (fun b u hb e => hm.heap b u (nwr b u e) (hk5 b u (keep3 b u hb e))) (by rw [← em]; exact hm.heap P _ (nwr P _ hPs) (hk5 P _ hP3)) (AllBare.movedS (I1.bare.push hgb) hm)
        rw [sh_eta s1 s' hm.os] at J
        exact ⟨upd H1 P (.tbl (ps ++ more)), ⟨⟨ps ++ more, upd_same, by rw [← em]; exact ht3⟩, fun b hb => upd_ne hb⟩, J⟩
  refine ⟨lim2, ?_⟩
  have hP2 := old P _ hPs
  cases hf : codeAmong gpos ps.toList with
  | none =>
    refine wpAny_genexprCodeX hcode (cd.code hP2 ht) (cd.tab hP2) hf fun c' h' tk hx hge hlt hco' _ htab' _ => ?_
    obtain ⟨_, _, _, _, _, _, _, _, _, _, _, _, _, _, _, _, _, _, _, htr, _⟩ := hco'
    exact cont _ h' tk _ hx (Nat.le_trans hge (Nat.le_of_lt hlt)) htab'.2 ⟨_, rfl⟩ htr
  | some cv => exact wpAny_genexprCode_hit hcode (cd.code hP2 ht) hf (cont cv (s1.heap.push o) s1.toks ps (Heap.ExtBut.refl _ _) (Nat.le_refl _) hP2 ⟨#[], by simp⟩ ht)
/-- tuple(elt for x in e if ..) -/
def tGen (K : PySem.W.Frag) (P : Addr) (ok : L2.St → Hp → V → Option V → Prop) (te : TE) (R : List (Option V) → Hp → VK → Prop) : TE := fun σ H Q => te σ H fun v H1 => TabG H1 P ∧ ∃ (xs : List V) (rs : List (Option V)), SrcV K H1 v xs ∧ rs.length = xs.length ∧ (∀ (j : Nat) (x : V) (r : Option V), xs[j]? = some x → rs[j]? = some r → ok σ H1 x r) ∧ R rs H1 Q
def rTupG (P : Addr) : List (Option V) → Hp → VK → Prop := fun rs H1 Q => rs.length ≤ 1000000 ∧ ∀ H2, Tabbed P H1 H2 → ∀ q H3, Ex H2 H3 → H2 q = none → FTup H3 q (rs.filterMap id) → Q (.ref q) H3
theorem vals_acc {ys : List V} {acc : Array Value} {F : Nat → Value → Prop} (h : ItemsOf F acc ys.length) (hF : ∀ j y, F j y → ∃ v, ys[j]? = some v ∧ RelV v y) : Vals ys acc.toList := by
  have go : ∀ (ys : List V) (us : List Value), ys.length = us.length → (∀ (j : Nat) (u : Value), us[j]? = some u → ∃ v, ys[j]? = some v ∧ RelV v u) → Vals ys us := by
    intro ys
    induction ys with
    | nil => intro us hl _; rw [List.length_eq_zero_iff.mp hl.symm]; exact .nil
    | cons y ys ih =>
      intro us hl h
      cases us with
      | nil => cases hl
      | cons u us =>
        obtain ⟨v, hv, rv⟩ := h 0 u rfl
        cases hv
        exact .cons rv (ih us (by simpa using hl) fun j u' hu' => h (j + 1) u' hu')
  refine go ys acc.toList (by rw [Array.length_toList]; exact h.1.symm) fun j u hu => hF j u (h.2 j u (by rw [← Array.getElem?_toList]; exact hu))
theorem pe_tupG {K : PySem.W.Frag} {c P : Addr} {elt iter : Expr} {ifs : List Expr} {x : Str} {px p pos gpos : Pos} {scope : Scope} {ok : L2.St → Hp → V → Option V → Prop} {te : TE} {k : Nat} (hK : X.K = K)
    (hr : Room k X.A) (hg : Gl X "tuple") (hm : X.mg "tuple" = none) (TB : TabB X.base X.mg c P) (hcode : X.env.code = .ref c) (S : GenS X.env scope x) (hi : PE X iter te) (hel : EltG X P scope x ifs elt ok)
    (hs : ∀ v, genFold iter X.env v = pure v) (he : starEach [.GeneratorExp elt [⟨.Name x px, iter, ifs, 0⟩] scope gpos] X.env = (false, eval (.GeneratorExp elt [⟨.Name x px, iter, ifs, 0⟩] scope gpos) X.env) :: starEach [] X.env := by rfl) :
    PE X (.Call (.Name "tuple" p) [.GeneratorExp elt [⟨.Name x px, iter, ifs, 0⟩] scope gpos] [] pos) (tGen K P ok te (rTupG P)) := by
  subst hK
  refine ⟨fun pins s σ H Q I h => wpAny_Call_Name_kw (ld_blt I hg hm boot_tuple (PyProof.Rows.callWith_type1 ?_ he))⟩
  rw [he]
  show wpAny _ _ (spliced ((false, eval (.GeneratorExp elt [⟨.Name x px, iter, ifs, 0⟩] scope gpos) X.env) :: backTo pos (starEach [] X.env))) _ _ s
  refine Calls.spliced_cons (gen_any (R := fun rs H1 => rTupG P rs H1 Q) hr TB hcode S hi hel hs I h fun rs H1 g s5 hR hG => Calls.spliced_nil ?_)
  obtain ⟨fp, wr, G, F, St, W, hst, hgm, hb, hT, hF, hI⟩ := hG
  obtain ⟨hl, hR⟩ := hR
  have hle : (rs.filterMap id).length ≤ 1000000 := Nat.le_trans (List.length_filterMap_le _ _) hl
  have hsz : (rs.filterMap id).length ≤ sizeLine := by rw [sizeLine_eq]; omega
  refine call_tuple_gen W.in4_3 hT hst hb hgm (fun s' acc hmv hacc => ?_) hsz
  obtain ⟨H2, tb, J⟩ := hI s' hmv
  have rv := vals_acc hacc hF
  have J2 : Inv X pins σ (upd H2 s'.heap.objs.size (.frz { cls := .type "tuple", data := .seq acc } (.tup (rs.filterMap id)))) { s' with heap := s'.heap.push { cls := .type "tuple", data := .seq acc } } :=
    J.laid (t' := s'.toks) (fun b o e => Heap.get?_push_of_some _ e) (Nat.le_refl _) (show ObjOk X.prog X.w _ _ _ (.frz _ (.tup (rs.filterMap id))) from ⟨Heap.get?_push_size _ rfl, hsz, acc.toList, rv, IsTup.new _ _⟩)
  exact ⟨.ref s'.heap.objs.size, _, J2, rfl, hR H2 tb _ _ (ex_new (J.hok.fresh (Nat.le_refl _))) (J.hok.fresh (Nat.le_refl _)) ⟨_, rfl, rfl, upd_same⟩⟩
end
end MM
namespace MM
open PySem PySem.Spec PyProof.Rows L2 GxR
/-! ### what a generator of the program tells of its item -/
section
variable {X : Cx}
/-- t.index(x), by the machine's own rules -/
theorem index_raw {prog : Program} {w : World} {A : Around} {E : Value → Shared → Prop} {Q : Value → Shared → Prop} {s : Shared} {a : Addr} {ys : List V} {its : List Value} {y : V} {uy : Value} {j : Nat} {z : V} (ht : IsTup s.heap a its.toArray) (rv : Vals ys its) (ry : RelV y uy) (fy : flatV y = true) (fys : ys.all flatV = true) (hz : ys[j]? = some z) (hzj : eqV z y = true)
    (hno : ∀ (m : Nat) (z' : V), m < j → ys[m]? = some z' → eqV z' y = false) (q : ∀ t k, Q (.int (j : Nat) t) { s with toks := k }) : wpAny (model prog w) A (call (.builtin "tuple.index") [.ref a, uy]) Q E s := by
  obtain ⟨⟨cls, dd, data, sl⟩, ho, hc, n, hd⟩ := ht
  simp only at hc hd
  subst hc hd
  obtain ⟨u, hu, ru⟩ := rv.get hz
  obtain ⟨hjl, hje⟩ := List.getElem?_eq_some_iff.mp hu
  have hvl := rv.length
  have hj : j < its.toArray.size := by simpa using hjl
  refine call_meets PySem.F.slot_tuple_index ⟨_, ho, rfl⟩ PySem.F.entry_tuple_index (PySem.F.args_tuple_index_2 _ _) (TI.tuple_indexAt a its.toArray n dd sl uy (eqU y) j hj ?_ ?_) ⟨ho, fun u' hu' => mem_eqAt ry fy rv fys u' (by simpa using hu'), ?_⟩
  · have e1 : its.toArray[j] = u := by simpa using hje
    rw [e1, eqU_of ru (flat_at fys hz)]
    exact hzj
  · intro m hm hmj
    have hml : m < its.length := by simpa using hm
    have hmy : m < ys.length := by omega
    have hy' : ys[m]? = some ys[m] := List.getElem?_eq_getElem hmy
    obtain ⟨u2, hu2, ru2⟩ := rv.get hy'
    obtain ⟨_, hme⟩ := List.getElem?_eq_some_iff.mp hu2
    have e1 : its.toArray[m] = u2 := by simpa using hme
    rw [e1, eqU_of ru2 (flat_at fys hy')]
    exact hno m _ hmj hy'
  · exact q _ _
theorem ints_flat (ns : List Int) : (ns.map V.int).all flatV = true := by
  rw [List.all_eq_true]; intro x hx; obtain ⟨i, _, rfl⟩ := List.mem_map.mp hx; rfl
/-- row.index(person): row a name of the def, person the generator's -/
def okIndex (j : Nat) : L2.St → Hp → V → Option V → Prop := fun σ H v r => ∃ (a : Addr) (ns : List Int) (p : Int) (k : Nat), σ[j]? = some (some (.ref a)) ∧ FTup H a (ns.map V.int) ∧ v = .int p ∧ ns[k]? = some p ∧ (∀ m, m < k → ns[m]? ≠ some p) ∧ r = some (.int (k : Nat))
theorem elt_index {P : Addr} {scope : Scope} {z y : Str} {p1 p2 apos cpos : Pos} {j : Nat}
    (sk : scope.kind = .function) (sy : scope.names.lookup y = some .local)
    (hz : scope.names.lookup z = some .free) (hc : X.env.kindOf z = some .cell) (cl : ∀ c, X.env.cells.lookup z = some c → (cloFrom X.env.cells scope.names []).lookup z = some c) (hj : X.N[j]? = some z) (hline : (apos.endLine == cpos.line) = true)
    (hd : (y == ("__debug__" : Str)) = false := by decide) (hdz : (z == ("__debug__" : Str)) = false := by decide) (hnz : (z == ("__classdict__" : Str)) = false := by decide) :
    EltG X P scope y [] (.Call (.Attribute (.Name z p1) "index" apos) [.Name y p2] [] cpos) (okIndex j) := by
  intro pins σ H1 s1 I cenv A' E' v u s2 mm r G ⟨ps, hPt, _⟩ hA hD hU rv ⟨a, ns, p, k, hs, ⟨ob, oc, od, hob⟩, ev, hk, hno, er⟩ hn hm
  refine ⟨by simp only [List.forIn_nil]; exact wpAny_pure ⟨by rw [er]; rfl, keeps_refl _⟩, fun w hw => ?_⟩
  have kk : ∀ z, cenv.kindOf z = scope.names.lookup z := fun z => by show cenv.scope.names.lookup z = _; rw [G.sco]
  have sk' : cenv.scope.kind = .function := by rw [G.sco]; exact sk
  refine wpAny_Call_method_late (by rfl) (by rfl) hline rfl (cap_loc G I ⟨ps, hPt⟩ sk hz hc cl hj hs (fun ur rr => ?_) hdz hnz)
  obtain rfl : ur = .ref a := rr
  obtain ⟨e1, hlen, its, rvs, htup⟩ := I.hok a _ hob
  have aneP : a ≠ P := fun z => by
    have q : s1.heap.get? P = some { cls := .none, data := .fields ps } := I.hok P _ hPt
    rw [z, q] at e1; cases e1; cases oc
  have e2 := G.keep a _ aneP e1
  have htup2 : IsTup s2.heap a its.toArray := by
    obtain ⟨o, t1, t2, t3⟩ := htup
    exact ⟨o, G.keep a o aneP t1, t2, t3⟩
  refine ⟨"tuple", "tuple.index", PySem.F.plainAttrs_tuple, PySem.F.slot_tuple_index, PySem.F.type_tuple_index, ⟨ob, e2, oc⟩, fun b eb => by cases eb; exact ⟨ob, e2, od⟩, ?_⟩
  have he : starEach [.Name y p2] cenv = (false, eval (.Name y p2) cenv) :: starEach [] cenv := rfl
  rw [he]
  refine Calls.callWith_builtin (by rfl) (Calls.evalArgs_plain ?_)
  show wpAny _ _ (spliced ((false, eval (.Name y p2) cenv) :: backTo cpos (starEach [] cenv))) _ _ s2
  refine Calls.spliced_cons (lo_loc sk' (by rw [kk]; exact sy) hn hm (Calls.spliced_nil ?_) hd)
  subst ev
  refine index_raw (ys := ns.map V.int) (y := .int p) (j := k) (z := .int p) htup2 rvs rv rfl (ints_flat ns) (by rw [List.getElem?_map, hk]; rfl) (by show (p == p) = true; simp) (fun m z' hmk hz' => ?_) fun t kk => ?_
  · rw [List.getElem?_map] at hz'
    cases e : ns[m]? with
    | none => rw [e] at hz'; cases hz'
    | some q =>
      rw [e] at hz'
      cases hz'
      have := hno m hmk
      show (q == p) = false
      rw [beq_eq_false_iff_ne]
      intro z; exact this (by rw [e, z])
  · rw [er] at hw
    cases hw
    exact ⟨⟨t, rfl⟩, keeps_tok _ _⟩
end
end MM
namespace MM
open PySem PySem.Spec PyProof.Rows L2 GxR
/-! ### displays, sums and slices whose object is known to have no dict -/
section
variable {X : Cx} {t : TA} {es : List Expr} {pos : Pos}
def tTupD (t : TA) : TE := fun σ H Q => t σ H fun xs H1 => xs.length ≤ sizeLine ∧ ∀ p H', Ex H1 H' → H1 p = none → FTup H' p xs → Q (.ref p) H'
theorem laidF {pins : List (Addr × Obj)} {σ : L2.St} {H : Hp} {s : Shared} {xs : List V} {us : List Value} (I : Inv X pins σ H s) (hz : xs.length ≤ sizeLine) (rv : Vals xs us) :
    Inv X pins σ (upd H s.heap.objs.size (.frz { cls := .type "tuple", data := .seq us.toArray } (.tup xs))) { s with heap := s.heap.push { cls := .type "tuple", data := .seq us.toArray } } ∧ Ex H (upd H s.heap.objs.size (.frz { cls := .type "tuple", data := .seq us.toArray } (.tup xs))) ∧ H s.heap.objs.size = none ∧ FTup (upd H s.heap.objs.size (.frz { cls := .type "tuple", data := .seq us.toArray } (.tup xs))) s.heap.objs.size xs :=
  have hf : H s.heap.objs.size = none := I.hok.fresh (Nat.le_refl _)
  ⟨I.laid (t' := s.toks) (fun _ _ e => Heap.get?_push_of_some _ e) (Nat.le_refl _) (show ObjOk X.prog X.w _ _ _ (.frz _ (.tup xs)) from ⟨Heap.get?_push_size _ rfl, hz, us, rv, IsTup.new _ _⟩), ex_new hf, hf, ⟨_, rfl, rfl, upd_same⟩⟩
theorem pe_tupF {x1} (h : PA X es t) : PE X (.Tuple es x1 pos) (tTupD t) := by
  refine ⟨fun pins s σ H Q I hq => ?_⟩
  refine wpAny_Tuple_spliced (thn (h.run pos pins s σ H _ I hq) fun us s1 ⟨xs, H1, I1, r, z, q⟩ => ⟨by rw [← r.length]; exact z, ?_⟩)
  obtain ⟨J, x, hf, f⟩ := laidF I1 z r
  exact ⟨.ref s1.heap.objs.size, _, J, rfl, q _ _ x hf f⟩
def rCatF : R2 := fun x y H Q => ∃ a b xs ys, x = .ref a ∧ y = .ref b ∧ FTup H a xs ∧ FTup H b ys ∧ xs.length + ys.length ≤ sizeLine ∧ ∀ p H', Ex H H' → FTup H' p (xs ++ ys) → Q (.ref p) H'
theorem k_catF : OpR X (binaryOp .Add) rCatF := by
  intro pins s σ H x y v u Q I rx ry ⟨a, b, xs, ys, ex, ey, hT, hT2, hz, q⟩
  subst ex ey
  cases rx
  cases ry
  obtain ⟨its, r1, p1, _⟩ := I.tuple hT.sqt
  obtain ⟨its2, r2, p2, _⟩ := I.tuple hT2.sqt
  by_cases hx : xs = []
  · subst hx
    cases r1
    exact cat_tup0 p1 p2 ⟨.ref b, H, I, rfl, q b H ExB.refl hT2⟩
  · refine HT.cat_tup p1 p2 (fun z => hx (r1.nil_iff.mp z)) (fun z => ⟨.ref a, H, I, rfl, q a H ExB.refl (by rw [r2.nil_iff.mp z, List.append_nil]; exact hT)⟩) (fun z => ?_) (by rw [← r1.length, ← r2.length]; exact hz)
    obtain ⟨J, x, hf, f⟩ := laidF I (by rw [List.length_append]; exact hz) (r1.append r2)
    exact ⟨.ref s.heap.objs.size, _, J, rfl, q _ _ x f⟩
def rSlF : V → Option Int → Option Int → Hp → VK → Prop := fun x lo hi H Q => ∃ a xs, x = .ref a ∧ FTup H a xs ∧ ∀ p H', Ex H H' → FTup H' p (cutV xs lo hi) → Q (.ref p) H'
theorem k_slF : SlR X rSlF := by
  intro pins s σ H x v vl vu lo hi sl Q I rx hs pl pu ⟨a, xs, ex, hT, q⟩
  subst ex
  cases rx
  obtain ⟨its, r, ht, hz⟩ := I.tuple hT.sqt
  have hlen : its.toArray.size = xs.length := by rw [List.size_toArray]; exact r.length.symm
  refine ⟨"tuple", _, PyProof.Rows.slot_tuple_getitem.lookup, ht.typeIs, ?_⟩
  by_cases hw : HT.sIx xs.length 0 lo = 0 ∧ HT.sIx xs.length xs.length hi = xs.length
  · have e : cutV xs lo hi = xs := by unfold cutV; rw [hw.1, hw.2]; simp
    exact getItem_tuple_whole ht hs pl pu (by rw [hlen]; exact hw) ⟨.ref a, H, I, rfl, q a H ExB.refl (by rw [e]; exact hT)⟩
  · refine HT.getItem_tuple_cut ht hs pl pu (by rw [hlen]; exact hw) ?_ (by rw [hlen]; exact hz)
    rw [hlen]
    obtain ⟨J, x, hf, f⟩ := laidF I (Nat.le_trans (cutV_length xs lo hi) hz) ((r.drop (HT.sIx xs.length 0 lo)).take (HT.sIx xs.length xs.length hi - HT.sIx xs.length 0 lo))
    exact ⟨.ref s.heap.objs.size, _, J, rfl, q _ _ x f⟩
end
end MM
namespace MM
open PySem PySem.Spec PyProof.Rows L2 GxR
section
variable {P : Program} {w : World} {A : Around} {E : Value → Shared → Prop} {s : Shared}
end
end MM
namespace MM
open PySem PySem.Spec PyProof.Rows L2 GxR
theorem rise_eq : ∀ {a b : List Int}, a.Pairwise (· < ·) → b.Pairwise (· < ·) → (∀ x, x ∈ a ↔ x ∈ b) → a = b
  | [], [], _, _, _ => rfl
  | [], y :: b, _, _, h => absurd ((h y).mpr List.mem_cons_self) (by simp)
  | x :: a, [], _, _, h => absurd ((h x).mp List.mem_cons_self) (by simp)
  | x :: a, y :: b, ha, hb, h => by
    obtain ⟨a1, a2⟩ := List.pairwise_cons.mp ha
    obtain ⟨b1, b2⟩ := List.pairwise_cons.mp hb
    have e : x = y := by
      rcases List.mem_cons.mp ((h x).mp List.mem_cons_self) with z | z
      · exact z
      · rcases List.mem_cons.mp ((h y).mpr List.mem_cons_self) with w | w
        · exact w.symm
        · have := b1 x z; have := a1 y w; omega
    subst e
    rw [rise_eq a2 b2 fun z => ⟨fun hz => ?_, fun hz => ?_⟩]
    · rcases List.mem_cons.mp ((h z).mp (List.mem_cons_of_mem _ hz)) with w | w
      · have := a1 z hz; omega
      · exact w
    · rcases List.mem_cons.mp ((h z).mpr (List.mem_cons_of_mem _ hz)) with w | w
      · have := b1 z hz; omega
      · exact w
section
variable {X : Cx} {a : Expr} {ta : TE} {p p2 q pos : Pos}
end
end MM
namespace MM
open PySem PySem.Spec PyProof.Rows L2 GxR
/-! ### enumerate(t), t a tuple -/
def EnT (K : PySem.W.Frag) (a : Addr) : It :=
  ⟨fun i H => ∃ (xs : List V) (x : V), SqT K H a xs ∧ xs[i]? = some x, fun i H v H' => ∃ T x, v = .ref T ∧ H T = none ∧ H' = upd H T (.tup [.int (i : Nat), x]) ∧ ∀ xs, SqT K H a xs → xs[i]? = some x, fun i H => ∃ xs : List V, SqT K H a xs ∧ xs.length ≤ i⟩
theorem turn_enT {P : Program} {w : World} {K : PySem.W.Frag} {elts : List Expr} {kk : Nat} {tpos : Pos} (a e it : Addr) (na : a ≠ it) (nae : a ≠ e) :
    Turn P w K (.Tuple elts kk tpos) (EnT K a) [e, it] e (fun i h => (∃ old, IsEnum h e it ((i : Nat) : Int) old) ∧ h.IsTupleIter it a i ∧ e ≠ it) where
  mem := by simp
  obj := by
    rintro i h ⟨⟨old, he⟩, ⟨o, ho, hc, hd⟩, _⟩ b hb
    rcases List.mem_cons.mp hb with z | z
    · subst z; exact ⟨_, he, fun v q => nomatch q⟩
    · rw [List.mem_singleton.mp z]; exact ⟨o, ho, fun v q => by rw [hd] at q; cases q⟩
  keep := by
    rintro i h h' ⟨⟨old, he⟩, hi, hne⟩ k
    exact ⟨⟨old, k e (by simp) _ he⟩, hi.at fun o q => k it (by simp) o q, hne⟩
  item := by
    intro X hP hw hK hc i pins s σ H E I hf st hg
    subst hP hw hK
    obtain ⟨⟨old, he⟩, hit, hne⟩ := st
    obtain ⟨xs, x, hq, hx⟩ := hg
    obtain ⟨its, rv, pt, hz⟩ := I.tuple hq
    have pt' : s.heap.IsTuple a its.toArray := by first | exact pt | (obtain ⟨o, e1, e2, e3⟩ := pt; exact ⟨o, e1, e2, e3⟩)
    obtain ⟨u, hu, ru⟩ := rv.get hx
    have hil : i < its.toArray.size := by obtain ⟨h1, _⟩ := List.getElem?_eq_some_iff.mp hu; simpa using h1
    have elt : e < s.heap.objs.size := Heap.lt_size he
    have ilt : it < s.heap.objs.size := by obtain ⟨_, q, _⟩ := hit; exact Heap.lt_size q
    have D := Draws.tuple (prog := X.prog) (w := X.w) (A := X.A.in1) (by simp [I.ok.hd hc]) it a na its.toArray
    refine wpAny_pyNext_enum_itemD D he ⟨hit, pt'⟩ hil hne (by intro z; rcases List.mem_cons.mp z with z | z; exact hne z; exact nae (List.mem_singleton.mp z).symm) fun y g tk hy ho hst hT hsz hk => ?_
    have ey : y = u := by
      rw [List.getElem?_toArray, hu] at hy; exact (Option.some.inj hy).symm
    subst ey
    refine ⟨_, rfl, wpAny_letOwnedTupleGo_enum (s := { s with heap := g, toks := tk + 1 }) ho fun g2 he' sb => ?_⟩
    have hT2 : g2.get? s.heap.objs.size = some { cls := .type "tuple", data := .seq #[.int i tk, y] } := (sb.2 _ (Nat.ne_of_gt elt)).trans hT
    have I1 : Inv X pins σ (upd H s.heap.objs.size (.tup [.int (i : Nat), x])) { s with heap := g2, toks := tk + 1 } :=
      I.turnedNew (ch := [e, it]) (fun b ob hb q => (sb.2 b (fun z => hb (by simp [z]))).trans (hk b ob (fun z => hb (by simp [z])) (fun z => hb (by simp [z])) q)) hf (Nat.le_refl _) ⟨by show 2 ≤ sizeLine; decide, [.int i tk, y], .cons ⟨_, rfl⟩ (.cons ru .nil), ⟨_, hT2, rfl, _, rfl⟩⟩
    refine ⟨.ref s.heap.objs.size, _, I1, rfl, ⟨_, x, rfl, I.hok.fresh (Nat.le_refl _), rfl, fun ys hy => by rw [I.tuple_inj hy hq]; exact hx⟩, ⟨⟨y, by rw [show ((i + 1 : Nat) : Int) = (i : Int) + 1 by omega]; exact he'⟩, hst.1.at fun o q => (sb.2 it (Ne.symm hne)).trans q, hne⟩, fun b hb => ?_⟩
    have lt : b < s.heap.objs.size := by
      rcases List.mem_cons.mp hb with z | z
      · rw [z]; exact elt
      · rw [List.mem_singleton.mp z]; exact ilt
    rw [upd_ne (Nat.ne_of_lt lt)]
    exact (hf b hb).1
  done := by
    intro X hP hw hK hc i pins s σ H E I hf st hg
    subst hP hw hK
    obtain ⟨⟨old, he⟩, hit, hne⟩ := st
    obtain ⟨xs, hq, hx⟩ := hg
    obtain ⟨its, rv, pt, hz⟩ := I.tuple hq
    have pt' : s.heap.IsTuple a its.toArray := by first | exact pt | (obtain ⟨o, e1, e2, e3⟩ := pt; exact ⟨o, e1, e2, e3⟩)
    obtain ⟨f0, f1, f2, f3, f4, f5⟩ := hf it (by simp)
    have over : its.toArray[i]? = none := by
      rw [List.getElem?_toArray]; exact List.getElem?_eq_none (by have := rv.length; omega)
    have D : Draws X.prog X.w X.A.in1 it [it, a] 0 (fun _ _ => True) (fun _ h => h.IsTupleIter it a i ∧ h.IsTuple a its.toArray) :=
      ⟨fun _ _ st => let ⟨o, ho, _⟩ := st.1; ⟨o, ho⟩, fun _ _ _ st hk => ⟨st.1.at fun o e => hk it (by simp) o e, st.2.at fun o e => hk a (by simp) o e⟩, fun _ _ _ _ h => absurd h (Nat.not_lt_zero _), fun s Q E st hE => wpAny_nextOf_tuple_end (by simp [I.ok.hd hc]) st.1 st.2 over hE⟩
    exact wpAny_pyNext_enum_endD D he ⟨hit, pt'⟩ fun g eb => ⟨rfl, I.turned (t' := s.toks) (fun b o hb q => eb b o hb q) f0 f1 f3 f4 f5⟩
  self := by
    rintro A i s Q E ⟨⟨_, he⟩, _⟩ q
    exact wpAny_pyIter_enum he q
/-- enumerate(v): its two new cells -/
abbrev enumO (it : Addr) : Obj := { cls := .type "enumerate", data := .fields #[.none, .bool false, .ref it, rawInt 0, .none, .none] }
theorem enum_new1 {v : Value} {o : Obj} {G : Heap → Prop} (B : Begins v o G) : Meets (Builtin.«enumerate.__new__» ⟨[.type "enumerate", v], []⟩) (fun _ R s => G s.heap ∧ R (.ok (.ret (.ref (s.heap.push o).objs.size))) { s with heap := (s.heap.push o).push (enumO s.heap.objs.size) }) := .of_wp fun prog w A R s h => by
  obtain ⟨hp, g, d, tk, os⟩ := s; obtain ⟨g1, h⟩ := h; have sub := sub_enumerate
  have it1 : ∀ {A' : Around} {E : Value → Shared → Prop} {Q : Value → Shared → Prop}, Q (.ref hp.objs.size) ⟨hp.push o, g, d, tk, os⟩ → wpAny (model prog w) A' (pyIter v) Q E ⟨hp, g, d, tk, os⟩ := fun q => B.iter prog w _ _ ⟨hp, g, d, tk, os⟩ _ g1 q
  wp_walk using it1
  refine wpAny_stack_any fun st => wpAny_pure ?_; split
  · rename_i c _ _ _ _ _; cases (c == Value.type "enumerate")
    all_goals (wp_walk using it1; exact ⟨_, rfl, h⟩)
  · wp_walk using it1; exact ⟨_, rfl, h⟩
theorem enum_call1 {prog : Program} {w : World} {A : Around} {E : Value → Shared → Prop} {s : Shared} {v : Value} {o : Obj} {G : Heap → Prop} {Q : Value → Shared → Prop} (B : Begins v o G) (g1 : G s.heap)
    (q : ∀ g, IsEnum g (s.heap.objs.size + 1) s.heap.objs.size 0 .none → g.get? s.heap.objs.size = some o → (∀ b o, s.heap.get? b = some o → g.get? b = some o) → Q (.ref (s.heap.objs.size + 1)) { s with heap := g }) : wpAny (model prog w) A (call (.type "enumerate") [v]) Q E s := by
  refine callType_new F.called_enumerate (by decide) (F.typeCall_enumerate_1 _) (F.newCall_enumerate_1 _) (fun y => F.args_object_init_2 y _) F.entry_enumerate_new (enum_new1 B) ⟨g1, ?_⟩
  have sz : (s.heap.push o).objs.size = s.heap.objs.size + 1 := Heap.size_push ..
  have at1 : IsEnum ((s.heap.push o).push (enumO s.heap.objs.size)) (s.heap.objs.size + 1) s.heap.objs.size 0 .none := by
    have := Heap.get?_push_size (s.heap.push o) (o := enumO s.heap.objs.size) rfl
    rw [sz] at this; exact this
  show _ ∧ _
  rw [sz]
  exact ⟨⟨_, at1, rfl⟩, q _ at1 (Heap.get?_push_of_some _ (Heap.get?_push_size _ B.free)) fun b u x => Heap.get?_push_of_some _ (Heap.get?_push_of_some _ x)⟩
def iEnT (K : PySem.W.Frag) (ta : TA) : TI := fun σ H R => ta σ H fun vs H1 => ∃ a xs, vs = [.ref a] ∧ SqT K H1 a xs ∧ R (EnT K a) H1
theorem pi_enT {X : Cx} {K : PySem.W.Frag} {e : Expr} {ta : TA} {p pos tpos : Pos} {elts : List Expr} {kk : Nat} (hK : X.K = K) (hg : Gl X "enumerate") (hm : X.mg "enumerate" = none) (ha : PA X [e] ta) (hs : starEach [e] X.env = [(false, eval e X.env)] := by rfl) :
    PI X (.Tuple elts kk tpos) (.Call (.Name "enumerate" p) [e] [] pos) (iEnT K ta) := by
  subst hK
  refine ⟨fun pins s σ H R I h => Call_ (ld_blt I hg hm boot_enumerate (PyProof.Rows.callWith_type1 (thn (ha.run pos pins s σ H _ I h) fun us s1 ⟨vs, H1, I1, r1, a, xs, ex, hq, q⟩ => ?_) hs rfl))⟩
  subst ex
  cases r1 with
  | cons r rr =>
    cases rr
    cases r
    obtain ⟨its, rv, pt, hz⟩ := I1.tuple hq
    have pt' : s1.heap.IsTuple a its.toArray := by first | exact pt | (obtain ⟨o, e1, e2, e3⟩ := pt; exact ⟨o, e1, e2, e3⟩)
    have alt : a < s1.heap.objs.size := by obtain ⟨_, e1, _⟩ := pt'; exact Heap.lt_size e1
    refine enum_call1 (begins_tuple a its.toArray) pt' fun g he hit hk => wpAny_pyIter_enum he ?_
    have I2 : Inv X pins σ H1 { s1 with heap := g } := I1.kept (t' := s1.toks) hk
    refine ⟨s1.heap.objs.size + 1, [s1.heap.objs.size + 1, s1.heap.objs.size], _, _, H1, rfl, I2, turn_enT a (s1.heap.objs.size + 1) s1.heap.objs.size (Nat.ne_of_lt alt) (Nat.ne_of_lt (Nat.lt_succ_of_lt alt)), ⟨⟨.none, he⟩, ⟨_, hit, rfl, rfl⟩, Nat.succ_ne_self _⟩, fun b hb => ?_, q⟩
    have le : s1.heap.objs.size ≤ b := by
      rcases List.mem_cons.mp hb with z | z
      · rw [z]; exact Nat.le_succ _
      · rw [List.mem_singleton.mp z]; exact Nat.le_refl _
    exact I1.fpOk le (I1.hok.fresh le)
theorem walk_enT {K : PySem.W.Frag} {a : Addr} {xs : List V} : Walk (EnT K a) xs.length (fun H => SqT K H a xs) (YPair (fun i => some (.int (i : Nat))) (fun i => xs[i]?)) := by
  refine ⟨fun i _ hi q => ⟨xs, xs[i], q, List.getElem?_eq_getElem hi⟩, fun _ q => ⟨xs, q, Nat.le_refl _⟩, fun i H v H' _ q ⟨T, x, h1, h2, h3, h4⟩ => ⟨T, .int (i : Nat), x, h1, h2, h3, rfl, h4 xs q⟩⟩
end MM
namespace MM
open PySem PySem.Spec PyProof.Rows L2 GxR
section
variable {X : Cx} {a b c : Expr} {ta : TA} {p p2 pos pos2 : Pos}
theorem walk_revT {K : PySem.W.Frag} {a : Addr} {xs : List V} : Walk (RT.ItvT K a xs.length) xs.length (fun H => SqT K H a xs) (fun i H x H' => H' = H ∧ xs[xs.length - 1 - i]? = some x) :=
  ⟨fun i _ hi q => ⟨hi, xs, xs[xs.length - 1 - i]'(by omega), q, List.getElem?_eq_getElem _⟩, fun _ _ => Nat.le_refl _, fun _ _ _ _ _ q y => ⟨y.1, y.2 xs q⟩⟩
theorem k_revA {K : PySem.W.Frag} {X : Cx} {tg e : Expr} {te : TE} (hK : X.K = K) (h : PI X tg e (RT.iRevA X.K te)) : PI X tg e (RT.iRevA K te) := hK ▸ h
end
end MM
namespace MM
open PySem PySem.Spec PyProof.Rows L2 GxR
/-! ### data that can be compared and shown -/
structure Nice (k L : Nat) (d : PyData) : Prop where
  lay : d.canLay0 = true
  dep : d.depth ≤ k
  dic : d.hasDict = false
  sho : d.showable = true
  len : d.shown.length ≤ L
theorem Nice.mono {k L k' L' : Nat} {d : PyData} (n : Nice k L d) (h : k ≤ k') (h' : L ≤ L') : Nice k' L' d := ⟨n.lay, Nat.le_trans n.dep h, n.dic, n.sho, Nat.le_trans n.len h'⟩
theorem Nice.shaped {k L : Nat} {d : PyData} (n : Nice k L d) (h : k ≤ 64) : SeqAt.shaped d = true := by unfold SeqAt.shaped; rw [n.lay, decide_eq_true (Nat.le_trans n.dep h)]; rfl
theorem Nice.refl {k L : Nat} {d : PyData} (n : Nice k L d) : PyData.eqv d d = true := SeqAt.eqv_refl d n.lay
theorem small_log {i : Int} (h : i.natAbs < 10 ^ 15) : i.natAbs.log2 < 50 := by
  by_cases h0 : i.natAbs = 0
  · rw [h0]; decide
  · exact (Nat.log2_lt h0).mpr (Nat.lt_trans h (by decide))
theorem nice_int {i : Int} (h : i.natAbs < 10 ^ 15) : Nice 0 51 (.int i) := by
  have hl := small_log h
  refine ⟨rfl, Nat.le_refl _, by simp only [PyData.hasDict], ?_, ?_⟩
  · simp only [PyData.showable, decide_eq_true_eq]; omega
  · simp only [PyData.shown]
    have e : (Str.ofString (toString i)).length = (toString i).length := by
      exact PySem.ofString_length _
    rw [e]; exact int_text_length_le (by decide) hl
theorem nice_all {k L : Nat} : ∀ {ds : List PyData}, (∀ d ∈ ds, Nice k L d) → PyData.canLayAll0 ds = true ∧ PyData.depthAll ds ≤ k ∧ PyData.hasDictAll ds = false ∧ PyData.showableAll ds = true ∧ ((PyData.shownAll ds).map (·.length)).sum ≤ ds.length * L ∧ (PyData.shownAll ds).length = ds.length
  | [], _ => ⟨rfl, Nat.zero_le _, by simp only [PyData.hasDictAll], by simp only [PyData.showableAll], by simp [PyData.shownAll], by simp [PyData.shownAll]⟩
  | d :: ds, h => by
    have n := h d List.mem_cons_self
    obtain ⟨a, b, c, e, f, g⟩ := nice_all (ds := ds) fun x hx => h x (List.mem_cons_of_mem _ hx)
    refine ⟨by show (d.canLay0 && PyData.canLayAll0 ds) = true; rw [n.lay, a]; rfl, by show max d.depth (PyData.depthAll ds) ≤ k; have := n.dep; omega, by simp only [PyData.hasDictAll, n.dic, c, Bool.or_self], by simp only [PyData.showableAll, n.sho, e, Bool.and_self], ?_, by simp only [PyData.shownAll, List.length_cons, g]⟩
    simp only [PyData.shownAll, List.map_cons, List.sum_cons, List.length_cons, Nat.succ_mul]
    have := n.len; omega
theorem nice_list {k L m : Nat} {ds : List PyData} (h : ∀ d ∈ ds, Nice k L d) (hm : ds.length ≤ m) : Nice (k + 1) (m * (L + 2) + 3) (.list ds) := by
  obtain ⟨a, b, c, e, f, g⟩ := nice_all h
  refine ⟨a, Nat.succ_le_succ b, by simp only [PyData.hasDict, c], by simp only [PyData.showable, e], ?_⟩
  simp only [PyData.shown]
  refine Nat.le_trans (listText_len_le _) ?_
  rw [g]
  have h1 : ds.length * (L + 2) ≤ m * (L + 2) := Nat.mul_le_mul_right _ hm
  have h2 : ds.length * (L + 2) = ds.length * L + ds.length * 2 := Nat.mul_add ..
  omega
theorem nice_tuple {k L m : Nat} {ds : List PyData} (h : ∀ d ∈ ds, Nice k L d) (hm : ds.length ≤ m) : Nice (k + 1) (m * (L + 2) + 3) (.tuple ds) := by
  obtain ⟨a, b, c, e, f, g⟩ := nice_all h
  refine ⟨a, Nat.succ_le_succ b, by simp only [PyData.hasDict, c], by simp only [PyData.showable, e], ?_⟩
  simp only [PyData.shown]
  refine Nat.le_trans (tupleText_len_le _) ?_
  rw [g]
  have h1 : ds.length * (L + 2) ≤ m * (L + 2) := Nat.mul_le_mul_right _ hm
  have h2 : ds.length * (L + 2) = ds.length * L + ds.length * 2 := Nat.mul_add ..
  omega
theorem nice_ints {ns : List Int} (h : ∀ i ∈ ns, i.natAbs < 10 ^ 15) : ∀ d ∈ ns.map PyData.int, Nice 0 51 d := fun d hd => by
  obtain ⟨i, hi, rfl⟩ := List.mem_map.mp hd; exact nice_int (h i hi)
/-! ### ints compared -/
theorem eqv_ints : ∀ ns ms : List Int, PyData.eqv (.list (ns.map PyData.int)) (.list (ms.map PyData.int)) = decide (ns = ms) := by
  have key : ∀ ns ms : List Int, PyData.eqvAll (ns.map PyData.int) (ms.map PyData.int) = decide (ns = ms) := by
    intro ns
    induction ns with
    | nil => intro ms; cases ms <;> simp [PyData.eqvAll]
    | cons n ns ih =>
      intro ms
      cases ms with
      | nil => simp [PyData.eqvAll]
      | cons m ms =>
        simp only [List.map_cons, PyData.eqvAll, PyData.eqv, ih, List.cons.injEq]
        by_cases h1 : n = m <;> by_cases h2 : ns = ms <;> simp [h1, h2]
  intro ns ms
  rw [PyData.eqv]; exact key ns ms
theorem eqv_rows (ns ms : List Int) : PyData.eqv (.tuple (ns.map PyData.int)) (.tuple (ms.map PyData.int)) = decide (ns = ms) := by
  rw [← eqv_ints]; simp only [PyData.eqv]
/-! ### rows -/
def IsRow (ns : List Int) : Prop := 1 ≤ ns.length ∧ ns.length ≤ 9 ∧ ns.Perm ((List.range ns.length).map Int.ofNat)
theorem rgV_ints (n : Nat) : rgV 0 n = ((List.range n).map Int.ofNat).map V.int := by
  unfold rgV
  rw [List.map_map]
  have e : ((n : Int) - 0).toNat = n := by omega
  rw [e]
  apply List.map_congr_left
  intro i _
  show V.int (0 + (i : Int)) = V.int (Int.ofNat i)
  rw [Int.zero_add]; rfl
theorem range_up (n : Nat) : ((List.range n).map Int.ofNat).Pairwise (· ≤ ·) := by
  rw [List.pairwise_map]
  exact (List.pairwise_lt_range (n := n)).imp fun {a b} h => Int.ofNat_le.mpr (Nat.le_of_lt h)
theorem sorted_same {a b : List Int} (hp : a.Perm b) (ha : a.Pairwise (· ≤ ·)) (hb : b.Pairwise (· ≤ ·)) : a = b :=
  List.Perm.eq_of_pairwise (fun _ _ _ _ h1 h2 => Int.le_antisymm h1 h2) ha hb hp
theorem IsRow.sorted {ns ns' : List Int} (r : IsRow ns) (hp : ns'.Perm ns) (hs : ns'.Pairwise (· ≤ ·)) : ns' = (List.range ns.length).map Int.ofNat := sorted_same (hp.trans r.2.2) hs (range_up _)
theorem IsRow.mem {ns : List Int} (r : IsRow ns) {i : Int} (h : i ∈ ns) : 0 ≤ i ∧ i < ns.length := by
  have := r.2.2.mem_iff.mp h
  obtain ⟨j, hj, rfl⟩ := List.mem_map.mp this
  have := List.mem_range.mp hj
  exact ⟨Int.natCast_nonneg _, by show (j : Int) < _; omega⟩
end MM
namespace MM
open PySem PySem.Spec PyProof.Rows L2 GxR
section
variable {X : Cx} {pins : List (Addr × Obj)} {σ : L2.St} {H : Hp} {s : Shared} {a : Addr} {y v : V} {u r : Value} {o : Option V} {A : Around} {E : Value → Shared → Prop}
end
section
variable {X : Cx} {o i : Expr} {pos : Pos} {td ty : TE}
end
section
variable {X : Cx} {K : PySem.W.Frag}
end
theorem alike_ints : ∀ xs ys : List Int, PySem.W.alikeAll (xs.map PyData.int) (ys.map PyData.int) = true
  | [], _ => by simp [PySem.W.alikeAll]
  | _ :: _, [] => by simp [PySem.W.alikeAll]
  | x :: xs, y :: ys => by
    have := alike_ints xs ys
    simp [PySem.W.alikeAll, PySem.W.alike, this]
end MM
namespace MM
open PySem PySem.Spec PyProof.Rows L2 GxR
/-! ### tuple(range(a, b)), known to have no dict -/
def tTupRgF (te : L2.St → Hp → (Int → Int → Hp → Prop) → Prop) : TE := fun σ H Q => te σ H fun a b H1 => RgOk a b ∧ ∀ q H', Ex H1 H' → H1 q = none → FTup H' q (rgV a b) → Q (.ref q) H'
theorem pe_tupRgF {X : Cx} {e : Expr} {te : L2.St → Hp → (Int → Int → Hp → Prop) → Prop} {p pos : Pos} (hc : X.calm = true) (hg : Gl X "tuple") (hm : X.mg "tuple" = none) (he : PRg X e te) (na : starEach [e] X.env = (false, eval e X.env) :: starEach [] X.env := by rfl) : PE X (.Call (.Name "tuple" p) [e] [] pos) (tTupRgF te) := by
  refine ⟨fun pins s σ H Q I h => ?_⟩
  refine Call_ (ld_blt I hg hm boot_tuple (PyProof.Rows.callWith_type1 (args_cons (thn (he pins s σ H _ I h) fun x s1 ⟨r, a, b, t, u, v, H1, ex, hr, I1, ok, q⟩ => args_nil ?_) na) na))
  subst ex
  obtain ⟨b1, b2, b3, b4, b5⟩ := ok
  refine call_tuple_range (n := (b - a).toNat) (I1.ok.hd hc) hr (small_one b1 b2 b3 b4) (rangeSize_nat a b) b5 fun h' tk acc hk hi => ?_
  have I2 : Inv X pins σ H1 { s1 with heap := h', toks := tk } := I1.kept hk
  obtain ⟨J, x, hf, f⟩ := laidF I2 (by rw [rgV_length, sizeLine_eq]; omega) (vals_rg hi)
  rw [Array.toArray_toList] at J x f
  exact ⟨.ref h'.objs.size, _, J, rfl, q _ _ x hf f⟩
end MM
namespace MM
open PySem
open Sem (wp)
section
variable {prog : Program} {w : World} {A : Around} {R : Result → Shared → Prop} {I S : Addr} {n : Nat} {val : Nat → Int} {St : Nat → Shared → Prop} {Mv : Shared → Shared → Prop}
end
section
variable {prog : Program} {w : World} {A : Around} {E : Value → Shared → Prop} {s : Shared}
end
end MM
namespace MM
open PySem
open Sem (wp)
/-! ### a generator with two fors -/
def KeepS (S : Addr) (s s' : Shared) : Prop := (∀ b o, b ≠ S → s.heap.get? b = some o → s'.heap.get? b = some o) ∧ ∃ o, s'.heap.get? S = some o
theorem KeepS.trans {S : Addr} {a b c : Shared} (x : KeepS S a b) (y : KeepS S b c) : KeepS S a c := ⟨fun i o hi e => y.1 i o hi (x.1 i o hi e), y.2⟩
section
variable {prog : Program} {w : World} {A : Around}
end
end MM
namespace MM
open PySem PySem.Spec PyProof.Rows L2 GxR
section
variable {P : Program} {w : World} {K : PySem.W.Frag} {mg : Str → Option Value} {base : Heap} {f : Addr} {fd : FuncData} {x : Str} {st : Stmt} {ps N ks : List Str} {k : Nat} {sp : Sp} {gg : List Value → List Value → List Value} {gV : List V → List V → List V}
theorem callDK (F : FnP K x st f fd) (g : mg x = some (.ref f)) (S : FnScope N ps (defScope st))
    (hb : ∀ (kV doc pm : Value) (an : Option Addr) (cdv ct : Value) (us : List Value), us.length = ps.length → bindArgs (PySem.W.fnOf x x (defArgs st) (defBody st) (defScope st) .none kV doc pm an cdv ct) ⟨us, []⟩ = pure (ps.zip us))
    (hk : ∀ (kV doc pm : Value) (an : Option Addr) (cdv ct : Value) (us ws : List Value), (gg us ws).length = ps.length → bindArgs (PySem.W.fnOf x x (defArgs st) (defBody st) (defScope st) .none kV doc pm an cdv ct) ⟨us, ks.zip ws⟩ = pure (ps.zip (gg us ws)))
    (rel : ∀ {vs : List V} {us : List Value} {zs : List V} {ws : List Value}, Vals vs us → Vals zs ws → Vals (gV vs zs) (gg us ws))
    (len : ∀ vs H Q E, sp vs H Q E → vs.length = ps.length)
    (body : ∀ (cdv : Value) (A : Around) (outer : List Env) (s : Shared) (H : Hp) (vs : List V) (Q : VK) (E : XK), (∀ oc od fd osl, K.lookup f = some ⟨oc, od, .func fd, osl⟩ → fd.code = cdv) → Room k (A.deeper (envOfC x (defScope st) s.heap.objs.size f cdv)) → (A.deeper (envOfC x (defScope st) s.heap.objs.size f cdv)).guards = some [] → sp vs H Q E →
      ∃ t, PSs (cxOf CX0 P w K mg base N x (defScope st) f cdv A outer s H E).nox (defBody st) t ∧ t { nx := fun _ H' => Q .non H', rt := Q } (start N vs) H) : CallD P w K mg base (k + 1) x ps sp ∧ CallK P w K mg base (k + 1) x ps ks gg gV sp :=
  ⟨callD F g S hb len body, callK F g S hk rel len body⟩
end
end MM
namespace MM
open PySem PySem.Spec PyProof.Rows L2 GxR
theorem rise_eqT : ∀ {a b : List Int}, a.Pairwise (· < ·) → b.Pairwise (· < ·) → (∀ x, x ∈ a ↔ x ∈ b) → a = b
  | [], [], _, _, _ => rfl
  | [], y :: b, _, _, h => absurd ((h y).mpr List.mem_cons_self) (by simp)
  | x :: a, [], _, _, h => absurd ((h x).mp List.mem_cons_self) (by simp)
  | x :: a, y :: b, ha, hb, h => by
    obtain ⟨a1, a2⟩ := List.pairwise_cons.mp ha
    obtain ⟨b1, b2⟩ := List.pairwise_cons.mp hb
    have e : x = y := by
      rcases List.mem_cons.mp ((h x).mp List.mem_cons_self) with z | z
      · exact z
      · rcases List.mem_cons.mp ((h y).mpr List.mem_cons_self) with w | w
        · exact w.symm
        · have := b1 x z; have := a1 y w; omega
    subst e
    rw [rise_eqT a2 b2 fun z => ⟨fun hz => ?_, fun hz => ?_⟩]
    · rcases List.mem_cons.mp ((h z).mp (List.mem_cons_of_mem _ hz)) with w | w
      · have := a1 z hz; omega
      · exact w
    · rcases List.mem_cons.mp ((h z).mpr (List.mem_cons_of_mem _ hz)) with w | w
      · have := b1 z hz; omega
      · exact w

section
variable {X : Cx} {a : Expr} {ta : TE} {p p2 q pos : Pos}
/-! ### sorted(set(t)) of a tuple that rises; 0 <= x < len(z) within a generator -/
def tSortSetT (K : PySem.W.Frag) (ta : TE) : TE := fun σ H Q => ta σ H fun x H1 => ∃ (l : Addr) (ns : List Int), x = V.ref l ∧ SqT K H1 l (ns.map V.int) ∧ ns.length < 64 ∧ ns.Pairwise (· < ·) ∧ ∀ r H', Ex H1 H' → H1 r = none → H' r = some (.lst (ns.map V.int)) → Q (.ref r) H'
theorem pe_sortSetT {K : PySem.W.Frag} (hK : X.K = K) (hc : X.calm = true) (hg : Gl X "sorted") (hm : X.mg "sorted" = none) (hb : bootBuiltins "sorted" = some (.builtin "sorted")) (hg2 : Gl X "set") (hm2 : X.mg "set" = none) (ha : PE X a ta)
    (na : starEach [a] X.env = (false, eval a X.env) :: starEach [] X.env := by rfl) : PE X (.Call (.Name "sorted" p) [.Call (.Name "set" p2) [a] [] q] [] pos) (tSortSetT K ta) := by
  subst hK
  refine ⟨fun pins s σ H Q I h => Call_ (ld_blt I hg hm hb (PyProof.Rows.callWith_builtin1 (PyProof.Rows.args_cons ?_ rfl) rfl rfl))⟩
  refine Call_ (ld_blt I hg2 hm2 PyProof.Rows.boot_set (PyProof.Rows.callWith_type1 (PyProof.Rows.args_cons (thn (ha.run pins s σ H _ I h) fun v s1 ⟨x, H1, I1, r1, w1⟩ => PyProof.Rows.args_nil ?_) na) na rfl))
  obtain ⟨l, ns, ex, hq, h64, hri, w1⟩ := w1
  subst ex
  obtain rfl : v = .ref l := r1
  obtain ⟨its, rv, pl, hz⟩ := I1.tuple hq
  refine call_set_tupI ns (I1.ok.hd hc) (show s1.heap.IsTuple l its.toArray from pl) (ints_of_vals rv) (by unfold scanBound; omega) fun g k c R hcl hk => PyProof.Rows.args_nil ?_
  have I2 : Inv X pins σ H1 { s1 with heap := g, toks := k } := I1.kept hk
  have hcn : c ≤ 63 := by omega
  have R2 : SetR X.w ({ s1 with heap := g, toks := k } : Shared).heap s1.heap.objs.size (fun j => decide (j ∈ ns)) c := R
  generalize ({ s1 with heap := g, toks := k } : Shared) = s2 at I2 R2 ⊢
  refine sorted_set R2 (I2.ok.hd hc) (by omega) fun s' r out c2 ms k2 g2 o2 hp hg3 hi hs2 hm3 hl2 => ?_
  have em : ms = ns := rise_eqT hs2 hri fun x => by rw [hm3 x, decide_eq_true_iff]
  subst em
  have hf : H1 r = none := I2.hok.fresh hp
  have hlen : (ms.map V.int).length ≤ sizeLine := by rw [List.length_map, sizeLine_eq]; omega
  have J : Inv X pins σ (upd H1 r (.lst (ms.map V.int))) { s2 with heap := s'.heap, gens := s'.gens, drawn := s'.drawn, toks := s'.toks } :=
    Inv.call (ch := []) I2 (Un.laid k2 hp hf) (I2.hok.laid k2 hp ⟨hlen, out.toList, c2, vals_of_ints hi, hg3⟩) (by rw [g2]; exact I2.bare) (fun _ z => nomatch z)
  have es : s' = { s2 with heap := s'.heap, gens := s'.gens, drawn := s'.drawn, toks := s'.toks } := by
    cases s'; cases s2; cases o2; rfl
  rw [es]
  exact ⟨.ref r, _, J, rfl, w1 r _ (ex_new hf) hf upd_same⟩

def inN (N : Nat) (_ : L2.St) : V → Bool
  | .int i => decide (0 ≤ i ∧ i < (N : Int))
  | _ => false
def okInN (X : Cx) (j N : Nat) : L2.St → Hp → V → Prop := fun σ H v => (∃ i, v = .int i) ∧ N < 1000000 ∧ ∃ (b : Addr) (xs : List V), σ[j]? = some (some (.ref b)) ∧ SqT X.K H b xs ∧ xs.length = N
theorem elt_inlen {P : Addr} {scope : Scope} {y z : Str} {p1 p2 p3 p4 p5 p6 : Pos} {n j N : Nat} (ml : X.mg "len" = none)
    (sk : scope.kind = .function) (sy : scope.names.lookup y = some .local) (sl : scope.names.lookup ("len" : Str) = some .globalImplicit)
    (hz : scope.names.lookup z = some .free) (hc : X.env.kindOf z = some .cell) (cl : ∀ c, X.env.cells.lookup z = some c → (cloFrom X.env.cells scope.names []).lookup z = some c) (hj : X.N[j]? = some z)
    (hd : (y == ("__debug__" : Str)) = false := by decide) (hdz : (z == ("__debug__" : Str)) = false := by decide) (hnz : (z == ("__classdict__" : Str)) = false := by decide) :
    EltT X P scope y (.Compare (.Constant (.int 0) n p1) [.LtE, .Lt] [.Name y p2, .Call (.Name "len" p3) [.Name z p4] [] p5] p6) (okInN X j N) (inN N) := by
  intro pins σ H1 s1 I cenv A' E' v u s2 mm G ⟨ps, hPt, _⟩ hA hD hU rv ⟨⟨i, ei⟩, hN, b, xs, hs, hT, hl⟩ hn hm
  subst ei
  have hP : H1 P ≠ none := by rw [hPt]; exact fun z => nomatch z
  have L := G.lo I hP sk
  have kk : ∀ z, cenv.kindOf z = scope.names.lookup z := fun z => by show cenv.scope.names.lookup z = _; rw [G.sco]
  have sk' : cenv.scope.kind = .function := by rw [G.sco]; exact sk
  obtain ⟨ti, rfl⟩ : ∃ t, u = .int i t := rv
  obtain ⟨its, rvs, htup, hlen⟩ := I.tuple hT
  have aneP : b ≠ P := fun z => by
    have q : s1.heap.get? P = some { cls := .none, data := .fields ps } := I.hok P _ hPt
    obtain ⟨o, t1, t2, _⟩ := htup
    rw [z, q] at t1; cases t1; cases t2
  have htup2 : IsTup s2.heap b its.toArray := by
    obtain ⟨o, t1, t2, t3⟩ := htup
    exact ⟨o, G.keep b o aneP t1, t2, t3⟩
  have il : its.length = N := by rw [← rvs.length]; exact hl
  have ln := line63
  refine Compare_chain (wpAny_Constant_int (chain_link (lo_loc (s := { s2 with toks := s2.toks + 1 }) sk' (by rw [kk]; exact sy) hn hm (le_int (wpAny_truthy_bool ?_)) hd))) rfl
  by_cases h0 : (0 : Int) ≤ i
  · rw [decide_eq_true h0]
    have he : starEach [.Name z p4] cenv = (false, eval (.Name z p4) cenv) :: starEach [] cenv := by rfl
    refine ite_tt (chain_last (wpAny_Call_Name_kw (lo_blt (s := { s2 with toks := s2.toks + 1 }) ⟨L.kin, L.glob, L.blt, L.lim, L.kind, L.eg, L.eb⟩ (by rw [kk]; exact sl) ml PySem.boot_len (PyProof.Rows.callWith_builtin1 ?_ he (by rfl)))))
    rw [he]
    show wpAny _ _ (spliced ((false, eval (.Name z p4) cenv) :: backTo p5 (starEach [] cenv))) _ _ _
    refine Calls.spliced_cons (cap_loc (s2 := { s2 with toks := s2.toks + 1 }) ⟨G.sco, G.glob, G.blt, G.cells, G.keep, G.lim⟩ I ⟨ps, hPt⟩ sk hz hc cl hj hs (fun ub rb => Calls.spliced_nil ?_) hdz hnz)
    obtain rfl : ub = .ref b := rb
    refine len_tuple htup2 (by simp only [List.size_toArray]; omega) ?_
    refine lt_int ?_
    refine ⟨?_, ⟨_, _, rfl, fun b o e => e⟩⟩
    show Value.bool _ = Value.bool _
    unfold inN
    rw [List.size_toArray, il]
    congr 1
    rw [Bool.eq_iff_iff, decide_eq_true_iff, decide_eq_true_iff]
    exact ⟨fun h => ⟨h0, h⟩, fun h => h.2⟩
  · rw [decide_eq_false h0]
    refine ite_ff ⟨?_, keeps_tok _ _⟩
    show Value.bool _ = Value.bool _
    unfold inN
    congr 1
    rw [Bool.eq_iff_iff, decide_eq_true_iff]
    exact ⟨(fun h => nomatch h), fun h => absurd h.1 h0⟩
end
end MM
namespace MM
open PySem PySem.Spec PyProof.Rows L2 GxR
/-! ### three keywords, turned about -/
def gR3 {α : Type} : List α → List α → List α
  | [], [a, b, c] => [c, b, a]
  | _, _ => []
theorem gR3_rel {vs : List V} {us : List Value} {zs : List V} {ws : List Value} (a : Vals vs us) (b : Vals zs ws) : Vals (gR3 vs zs) (gR3 us ws) := by
  cases a with
  | nil => cases b with
    | nil => exact .nil
    | cons r t => cases t with
      | nil => exact .nil
      | cons r2 t => cases t with
        | nil => exact .nil
        | cons r3 t => cases t with
          | nil => exact .cons r3 (.cons r2 (.cons r .nil))
          | cons _ _ => exact .nil
  | cons _ _ => cases b <;> exact .nil
end MM
namespace MM
open PySem PySem.Spec PyProof.Rows L2 GxR
/-! ### what is told is locked for good (a dict that is walked and that nobody else has) -/
section
variable {X : Cx} {e : Expr} {te : TE}
end
/-! ### dicts with rows as keys, held and changed -/
section
variable {B : Addr → Prop} {H H' H1 : Hp} {p d : Addr} {kvs kvs' : List (List Key × V)} {o : HO}
theorem ex_setD (h : H p = some (.dT kvs)) : ExB (fun a => a = p) H (upd H p o) :=
  ⟨fun a o q f => by rw [upd_ne (fun z => by rw [z, h] at q; cases q; exact f)]; exact q, fun a o q _ n => by rw [upd_ne n]; exact q, fun P ps q => ⟨ps, by rw [upd_ne (fun z => by rw [z, h] at q; cases q)]; exact q, id⟩,
    fun a q z => by by_cases e : a = p; (rw [e, upd_same] at z; cases z); rw [upd_ne e] at z; exact q z⟩
theorem ExB.dct (e : ExB B H H') (h : H p = some (.dT kvs)) (n : ¬ B p) : H' p = some (.dT kvs) := e.keep _ _ h (fun _ z => nomatch z) n
theorem Ex.dct (e : Ex H H') (h : H p = some (.dT kvs)) : H' p = some (.dT kvs) := e.keep _ _ h (fun _ z => nomatch z) id
theorem ExB.frzT {od : Obj} {u : HO} (e : ExB B H H') (h : H p = some (.frz od u)) : H' p = some (.frz od u) := e.fix _ _ h trivial
theorem mut_dT : Mut (some (HO.dT kvs)) := trivial
end
end MM
namespace MM
open PySem PySem.Spec PyProof.Rows L2 GxR
/-! ### {k: v for target in iter}: the keys are tuples that the program made -/
section
variable {Y : Cx} {ps : List (Addr × Obj)} {τ : L2.St} {G : Hp} {t : Shared} {E : Value → Shared → Prop}
end
end MM
namespace MM
open PySem PySem.Spec PyProof.Rows L2 GxR
/-! ### any(e for x in ..), all(e for x in ..): the element told as any expression, in the generator's own context -/
theorem inv_gens {X : Cx} {pins : List (Addr × Obj)} {σ : L2.St} {H : Hp} {s s' : Shared} (I : Inv X pins σ H s) (hh : s'.heap = s.heap) (ho : s'.os = s.os) (hb : AllBare s'.gens) : Inv X pins σ H s' :=
  ⟨I.ok, ho.trans I.os, hb, by rw [hh]; exact I.base, by rw [hh]; exact I.loc, by rw [hh]; exact I.cell, I.free, I.freeC, by rw [hh]; exact I.pin, by rw [hh]; exact I.hok, I.len⟩
/-- the context of a generator's frame over a def's -/
abbrev gxC (X : Cx) (s : Shared) (H : Hp) (N : List Str) (cenv : Env) (A : Around) (fp : List Addr) : Cx :=
  { X with A := A, N := N, s_0 := s, H_0 := H, env := cenv, outer := X.stack, stack := cenv :: X.stack, ex := fp, fn := fun _ => false, calm := true, pn := [], xe := fun _ _ => False }
/-- the generator's names: its own x, those captured with their places in the def's -/
structure GenK (N : List Str) (sc scope : Scope) (x : Str) (caps : List (Str × Nat)) : Prop where
  kind : scope.kind = .function
  co : scope.isCoroutine = false
  cell : ∀ y ∈ scope.names, y.2 ≠ .cell
  dot : scope.names.lookup (".0" : Str) = some NameKind.local
  loc : scope.names.lookup x = some .local
  uniq : ∀ y ∈ scope.names, scope.names.lookup y.1 = some y.2
  free : ∀ y ∈ scope.names, y.2 = .free → sc.names.lookup y.1 = some .cell ∨ sc.names.lookup y.1 = some .free
  at_ : ∀ p ∈ caps, N[p.2]? = some p.1 ∧ scope.names.lookup p.1 = some .free
  nd : (x :: caps.map (·.1)).Nodup
def gst (σ : L2.St) (caps : List (Str × Nat)) : L2.St := none :: caps.map fun p => (σ[p.2]?).join
section
variable {X : Cx} {pins : List (Addr × Obj)} {σ : L2.St} {H : Hp} {s : Shared} {scope : Scope} {x : Str} {caps : List (Str × Nat)} {fp : List Addr}
theorem gst_some {j : Nat} {v : V} (h : (gst σ caps)[j]? = some (some v)) : ∃ i p, j = i + 1 ∧ caps[i]? = some p ∧ σ[p.2]? = some (some v) := by
  cases j with
  | zero => cases h
  | succ i =>
    rw [gst, List.getElem?_cons_succ, List.getElem?_map] at h
    cases q : caps[i]? with
    | none => rw [q] at h; cases h
    | some p =>
      rw [q] at h
      refine ⟨i, p, rfl, q, ?_⟩
      simp only [Option.map_some, Option.some.injEq] at h
      cases r : σ[p.2]? with
      | none => rw [r] at h; cases h
      | some w => rw [r] at h; simp only [Option.join] at h; first | (rw [show w = some v from h]) | (cases h; rfl)
theorem gen_start {A : Around} {code : Value} {it : Value} {h' : Heap} {go : Obj} {gs : GenState} {tk : Nat} (I : Inv X pins σ H s) (G : GenK X.N X.env.scope scope x caps) (hfp : ∀ b ∈ fp, FpOk X pins H b ∧ b < s.heap.objs.size)
    (hA : A.handled = none) (hF : A.frames = some (genEnv scope (cloFrom X.env.cells scope.names []) s.heap.objs.size code builtinsNs X.env :: X.stack)) (hgs : gs.bare = true) (hgo : ∀ v, go.data ≠ .cell v) (hgf : go.isFreed = false)
    (hn' : h'.Ns s.heap.objs.size (fun y => if y = ".0" then some it else none)) (hs' : Heap.SameBut s.heap.objs.size (s.heap.push { cls := .type "frame", data := .dict #[] }) h') :
    Inv (gxC X s H (x :: caps.map (·.1)) (genEnv scope (cloFrom X.env.cells scope.names []) s.heap.objs.size code builtinsNs X.env) A fp) [(h'.objs.size, go)] (gst σ caps) H { s with gens := s.gens.push gs, toks := tk, heap := h'.push go } := by
  have hfree : ∀ y ∈ scope.names, y.2 = .free → ∃ c, X.env.cells.lookup y.1 = some c := fun y hy e => by
    rcases G.free y hy e with k | k
    · exact I.ok.has _ (.inl k)
    · exact I.ok.has _ (.inr k)
  generalize hcenv : genEnv scope (cloFrom X.env.cells scope.names []) s.heap.objs.size code builtinsNs X.env = cenv at hF
  have hsz' : h'.objs.size = s.heap.objs.size + 1 := by rw [hs'.1, Heap.size_push]
  have keep' : ∀ b u, s.heap.get? b = some u → h'.get? b = some u := fun b u e => hs'.extBut b u (Nat.ne_of_lt (Heap.lt_size e)) (Heap.get?_push_of_some _ e)
  have kp : ∀ b o, s.heap.get? b = some o → (h'.push go).get? b = some o := fun b o e => Heap.get?_push_of_some _ (keep' b o e)
  have hL : cenv.locals = s.heap.objs.size := by rw [← hcenv]; rfl
  have hcl : cenv.cells = cloFrom X.env.cells scope.names [] := by rw [← hcenv]; rfl
  have hsc : cenv.scope = scope := by rw [← hcenv]; rfl
  have hfr : cenv.frame = some cenv.locals := by rw [← hcenv]; rfl
  have cm : ∀ {y c}, (y, c) ∈ cloFrom X.env.cells scope.names [] → X.env.cells.lookup y = some c ∧ c < s.heap.objs.size := fun {y c} hm => by
    rcases cloFrom_mem hm with hm | ⟨h1, rfl⟩
    · cases hm
    · obtain ⟨c, hc⟩ := hfree _ h1 rfl
      rw [hc]
      obtain ⟨w, z⟩ := I.cell _ _ hc
      exact ⟨rfl, z.lt⟩
  have mem : ∀ {y c}, cenv.cells.lookup y = some c → X.env.cells.lookup y = some c ∧ c < s.heap.objs.size := fun {y c} e => by
    rw [hcl] at e
    exact cm (PySem.mem_of_lookup e)
  have look : ∀ {y}, scope.names.lookup y = some .free → ∃ c, cenv.cells.lookup y = some c ∧ X.env.cells.lookup y = some c := fun {y} hl => by
    have hy : (y, NameKind.free) ∈ scope.names := PySem.mem_of_lookup hl
    obtain ⟨c', e'⟩ := mem_lookup (cloFrom_has (cells := X.env.cells) (acc := []) hy)
    rw [← hcl] at e'
    exact ⟨c', e', (mem e').1⟩
  have stkne : ∀ b ∈ frs X.stack, b < s.heap.objs.size := fun b hb => by
    rcases List.mem_cons.mp (I.stkSub b hb) with z | z
    · rw [z]; exact I.lt
    · exact Nat.lt_of_not_le fun hz => I.nofs hz z
  have okB : (gxC X s H (x :: caps.map (·.1)) cenv A fp).Ok := by
    refine ⟨I.ok.mod, by show cenv.scope.kind = _; rw [hsc]; exact G.kind, by show cenv.globals = _; rw [← hcenv]; exact I.ok.glob, by show cenv.builtins = _; rw [← hcenv]; rfl, by show s.heap.objs.size ≤ cenv.locals; rw [hL]; exact Nat.le_refl _,
      fun y z c e1 e2 => I.ok.inj y z c (mem e1).1 (mem e2).1, fun y hy => ?_, fun y c z e => ?_, fun _ => hA, hF, .inr ⟨rfl, hfr⟩, fun b hb => ⟨?_, fun y c e z => ?_⟩, I.bs, Nat.le_trans I.ok.bsz I.sz, fun b o e hb => ?_, fun b hb z => ?_, I.stack, I.stkFree⟩
    · show ∃ c, cenv.cells.lookup y = some c
      have hy : cenv.kindOf y = some .cell ∨ cenv.kindOf y = some .free := hy
      unfold Env.kindOf at hy
      rw [hsc] at hy
      rcases hy with hy | hy
      · exact absurd rfl (G.cell _ (PySem.mem_of_lookup hy))
      · obtain ⟨c, h1, _⟩ := look hy
        exact ⟨c, h1⟩
    · cases z
    · show b ≠ cenv.locals
      rw [hL]; exact Nat.ne_of_lt (hfp b hb).2
    · exact (hfp b hb).1.2.2.2.2.1 y c (mem (show cenv.cells.lookup y = some c from e)).1 z
    · rcases (hfp b hb).1.2.2.2.1 with z | z
      · exact I.ok.noex b o e z
      · exact absurd (Nat.lt_of_lt_of_le (Heap.lt_size e) (Nat.le_trans I.ok.bsz z)) (Nat.lt_irrefl _)
    · rcases List.mem_cons.mp (I.stkSub b z) with z | z
      · exact (hfp b hb).1.2.1 z
      · exact (hfp b hb).1.2.2.1 z
  refine ⟨okB, rfl, I.bare.push hgs, Un.kept kp, ⟨fun y => if y = ".0" then some it else none, ?_, fun i y av e1 e2 e3 => ?_⟩, fun y c e => ?_, ?_, fun y c e => ?_, fun p hp => ?_, I.hok.kept kp, by simp [gst]⟩
  · show Heap.Ns _ cenv.locals _
    rw [hL]
    exact hn'.push _
  · obtain ⟨j, p, rfl, hp, hv⟩ := gst_some e2
    have e1 : (caps.map (·.1))[j]? = some y := e1
    rw [List.getElem?_map, hp] at e1
    simp only [Option.map_some, Option.some.injEq] at e1
    subst e1
    obtain ⟨hN, hf⟩ := G.at_ p (List.mem_of_getElem? hp)
    obtain ⟨m, hn, hl⟩ := I.loc
    have hk := G.free _ (PySem.mem_of_lookup hf) rfl
    have hvis : Vis X.env.scope p.1 := hk.elim (fun k => .inr (.inl k)) (fun k => .inr (.inr k))
    obtain ⟨w, r, q⟩ := hl p.2 p.1 av hN hv hvis
    obtain ⟨c, h1, h2⟩ := look hf
    have hkf : cenv.kindOf p.1 = some .free := by unfold Env.kindOf; rw [hsc]; exact hf
    refine ⟨w, r, .inr ⟨.inr hkf, ?_⟩⟩
    rcases q with ⟨k, _⟩ | ⟨_, c', e', z⟩
    · have k : X.env.scope.names.lookup p.1 = some .local := k
      rcases hk with k' | k' <;> rw [show X.env.scope.names.lookup p.1 = _ from k'] at k <;> cases k
    · rw [h2] at e'; cases e'
      exact ⟨c, h1, z.keeps kp⟩
  · have e : cenv.cells.lookup y = some c := e
    obtain ⟨w, z⟩ := I.cell y c (mem e).1
    exact ⟨w, z.keeps kp⟩
  · show H cenv.locals = none
    rw [hL]; exact I.hok.fresh (Nat.le_refl _)
  · have e : cenv.cells.lookup y = some c := e
    exact I.freeC y c (mem e).1
  · have hp : p ∈ [(h'.objs.size, go)] := by simpa using hp
    rw [List.mem_singleton.mp hp]
    refine ⟨Heap.get?_push_size _ hgf, I.hok.fresh (by rw [hsz']; exact Nat.le_succ _), ?_, fun z => ?_, hgo⟩
    · show h'.objs.size ≠ cenv.locals
      rw [hL, hsz']; exact Nat.succ_ne_self _
    · have := stkne _ z
      have e : (h'.objs.size, go).1 = s.heap.objs.size + 1 := hsz'
      rw [e] at this
      exact absurd this (Nat.not_lt_of_le (Nat.le_succ _))
end
end MM
namespace MM
open PySem PySem.Spec PyProof.Rows L2 GxR
/-! ### the generator's turns -/
section
variable {XG : Cx} {pn : List (Addr × Obj)} {σG : L2.St} {fp : List Addr} {tn : Nat → Heap → Prop} {gsz : Nat} {stop : Bool} {W : Nat → Nat → Hp → Prop} {Qs Qe : Hp → Prop}
/-- what is handed out: a truth; where it doesn't stop the asker, what is needed to go on -/
def gproto (XG : Cx) (pn : List (Addr × Obj)) (σG : L2.St) (fp : List Addr) (tn : Nat → Heap → Prop) (gsz : Nat) (stop : Bool) (W : Nat → Nat → Hp → Prop) (Qs : Hp → Prop) : Protocol := fun k s₀ v s kap =>
  ∃ (b : Bool) (H : Hp), v = .bool b ∧ Inv XG pn σG H s ∧ gsz ≤ s.gens.size ∧ (b = stop → Qs H) ∧ (b ≠ stop → (∃ i m, m < k ∧ W i m H ∧ tn i s.heap ∧ ∀ b ∈ fp, H b = none) ∧ ∀ s'' : Shared, s''.heap = s.heap → s''.os = s.os → AllBare s''.gens → s.gens.size ≤ s''.gens.size → kap (.send .none) s'')
def gendP (XG : Cx) (pn : List (Addr × Obj)) (σG : L2.St) (gsz : Nat) (Qe : Hp → Prop) (s₁ : Shared) : Prop := ∃ H, Inv XG pn σG H s₁ ∧ gsz ≤ s₁.gens.size ∧ Qe H
def gend (XG : Cx) (pn : List (Addr × Obj)) (σG : L2.St) (gsz : Nat) (Qe : Hp → Prop) : GenEnd := fun _ _ r s₁ => r = .ok .next ∧ gendP XG pn σG gsz Qe s₁
/-- one turn: from W, what the iterator and the element do -/
def gturn (J : It) (te : TE) (stop : Bool) (σt : List (Option V)) (W : Nat → Nat → Hp → Prop) (Qs Qe : Hp → Prop) : Prop := ∀ i m H, W i m H →
  (J.stop i H ∧ Qe H) ∨ (J.go i H ∧ ∀ x H', J.yld i H x H' → te (some x :: σt) H' fun y H4 => ∃ b, y = .bl b ∧ (b = stop → Qs H4) ∧ (b ≠ stop → ∃ m', m' < m ∧ W (i + 1) m' H4))
theorem seg_gx {A : Around} {elt iter : Expr} {x : Str} {px : Pos} {scope : Scope} {pos : Pos} {it : Addr} {J : It} {te : TE} {σt : List (Option V)} (hA : XG.A = A.over (.compLoop (.GeneratorExp elt [⟨.Name x px, iter, [], 0⟩] scope pos) 0 (.ref it) .none XG.env) [])
    (hc : XG.calm = true) (hfn : XG.fn = fun _ => false) (hx0 : XG.xe = fun _ _ => False) (hpn0 : XG.pn = []) (hco : XG.env.scope.isCoroutine = false) (hN : XG.N.Nodup) (hN0 : XG.N[0]? = some x) (hxl : XG.env.scope.names.lookup x = some .local) (hfp : XG.ex = fp) (hpfp : ∀ b ∈ fp, ∀ p ∈ pn, p.1 ≠ b)
    (T : Turn XG.prog XG.w XG.K (.Name x px) J fp it tn) (he : PE XG elt te) (hσ : σG = none :: σt) (turn : gturn J te stop σt W Qs Qe) :
    ∀ (n : Nat) (s₀ s : Shared), (∃ i m H, Inv XG pn σG H s ∧ tn i s.heap ∧ (∀ b ∈ fp, H b = none) ∧ gsz ≤ s.gens.size ∧ m < n ∧ W i m H) →
      Seg (model XG.prog XG.w) A (gend XG pn σG gsz Qe) (gproto XG pn σG fp tn gsz stop W Qs) n s₀ (.compLoop (.GeneratorExp elt [⟨.Name x px, iter, [], 0⟩] scope pos) 0 (.ref it) .none XG.env)
        ((model XG.prog XG.w).den (.compLoop (.GeneratorExp elt [⟨.Name x px, iter, [], 0⟩] scope pos) 0 (.ref it) .none XG.env)) [] s := by
  subst hσ
  have stat : ∀ {σ' : L2.St} {H' : Hp} {s' : Shared}, Inv XG pn σ' H' s' → (∀ b ∈ fp, H' b = none) → ∀ b ∈ fp, FpOk XG pn H' b := fun {σ' H' s'} I' hn b hb =>
    ⟨hn b hb, (I'.ok.exf b (by rw [hfp]; exact hb)).1, I'.ok.exfs b (by rw [hfp]; exact hb), .inl (by rw [hfp]; exact hb), fun x c e => (I'.ok.exf b (by rw [hfp]; exact hb)).2 x c e, fun p hp => by
      rw [hpn0] at hp; exact hpfp b hb p (by simpa using hp)⟩
  intro n
  induction n with
  | zero => rintro s₀ s ⟨i, m, H, _, _, _, _, h, _⟩; exact absurd h (Nat.not_lt_zero _)
  | succ k ih =>
    rintro s₀ s ⟨i, m, H, I, st, nf, hg, hm, w⟩
    show Seg _ A _ _ _ s₀ _ ((compTurn (.GeneratorExp elt [⟨.Name x px, iter, [], 0⟩] scope pos) 0 (.ref it) .none XG.env).onRaise (leaving XG.env)) [] s
    rw [compTurn_gen, Sem.onRaise_eq_wrap]
    refine seg_bind_wrap (wpAny_standAt ?_)
    rcases turn i m H w with ⟨hstop, qe⟩ | ⟨go, step⟩
    · refine seg_bind_wrap ?_
      rw [← hA]
      refine GenW.wpAny_gsz hg (thnF (T.done XG rfl rfl rfl hc i pn s _ H (fun _ _ => False) I (stat I nf) st hstop) fun r s6 ⟨hr, I6⟩ hg6 => ?_)
      subst hr
      exact seg_end (.ok .next) ⟨rfl, H, I6, hg6, qe⟩
    · refine seg_bind_wrap ?_
      rw [← hA]
      refine GenW.wpAny_gsz hg (thnF (T.item XG rfl rfl rfl hc i pn s _ H (fun _ _ => False) I (stat I nf) st go) fun r s6 ⟨u, hr, h6⟩ hg6 => ?_)
      subst hr
      refine seg_bind_wrap ?_
      rw [← hA]
      refine GenW.wpAny_gsz hg6 (thnF h6 fun _ s7 ⟨xv, H7, I7, r7, y7, st7, n7⟩ hg7 => ?_)
      have I7' := I7.pinned (stat I7 n7) (T.obj _ _ st7)
      refine seg_bind_wrap ?_
      rw [← hA]
      have pg : PG XG (.Name x px) (gName 0) := pg_name hN hN0 (.inl hxl) (.inr hxl)
      have run := pg.run _ s7 _ H7 xv u (fun σ2 H2 => σ2 = some xv :: σt ∧ H2 = H7) I7' r7 ⟨rfl, rfl⟩
      refine GenW.wpAny_gsz hg7 (wpAny_mono run (fun _ s8 ⟨σ8, H8, I8, e8, e8'⟩ hg8 => ?_) fun e s' he' => by rw [hx0] at he'; exact False.elim he')
      subst e8; subst e8'
      refine seg_bind_wrap (wpAny_tests_nil ?_)
      simp only [if_true]
      have hy : ∀ v, yieldOut XG.env v = yieldValue v := fun v => by simp only [yieldOut, hco, Bool.false_eq_true, if_false]
      simp only [hy]
      rw [Sem.bind_eq_wrap', Sem.bind_eq_wrap', Sem.wrap_wrap, Sem.wrap_wrap]
      refine seg_wrap ?_
      rw [← hA]
      refine GenW.wpAny_gsz hg8 (wpAny_mono (he.run _ s8 _ H8 _ I8 (step xv H8 y7)) (fun y s9 ⟨yv, H9, I9, r9, b, eb, q1, q2⟩ hg9 => ?_) fun e s' he' => by rw [hx0] at he'; exact False.elim he')
      subst eb
      obtain rfl : y = Value.bool b := r9
      have pin' : ∀ b ∈ fp, ∀ o, s7.heap.get? b = some o → s9.heap.get? b = some o ∧ H9 b = none := fun b hb o e =>
        let z := I9.pin (b, o) (List.mem_append_right _ (List.mem_append_right _ (mem_pinsAt hb e)))
        ⟨z.1, z.2.1⟩
      have I10 : Inv XG pn (none :: σt) H9 s9 := (I9.pins_of fun p hp => I9.pin p (List.mem_append_right _ (List.mem_append_left _ hp))).weak rfl fun j v e => by
        cases j with
        | zero => cases e
        | succ j => exact e
      have st9 : tn (i + 1) s9.heap := T.keep _ _ _ st7 fun b hb o e => (pin' b hb o e).1
      have nf9 : ∀ b ∈ fp, H9 b = none := fun b hb => by
        obtain ⟨o, e, _⟩ := T.obj _ _ st7 b hb
        exact (pin' b hb o e).2
      refine seg_at (seg_yield rfl rfl rfl ⟨b, H9, rfl, I10, hg9, q1, fun hne => ?_⟩)
      obtain ⟨m', hm', w'⟩ := q2 hne
      refine ⟨⟨i + 1, m', by omega, w', st9, nf9⟩, fun s'' hh ho hb hz => ?_⟩
      exact seg_again rfl (ih s'' s'' ⟨i + 1, m', H9, inv_gens I10 hh ho hb, by rw [hh]; exact st9, nf9, Nat.le_trans hg9 hz, by omega, w'⟩)
end
end MM
namespace MM
open PySem PySem.Spec PyProof.Rows L2 GxR
section
variable {XG : Cx} {pn : List (Addr × Obj)} {σG : L2.St} {fp : List Addr} {tn : Nat → Heap → Prop} {gsz g a : Nat} {stop : Bool} {W : Nat → Nat → Hp → Prop} {Qs Qe : Hp → Prop}
/-- the sleeping generator -/
def GSl (XG : Cx) (pn : List (Addr × Obj)) (σG : L2.St) (fp : List Addr) (tn : Nat → Heap → Prop) (gsz : Nat) (stop : Bool) (W : Nat → Nat → Hp → Prop) (Qs Qe : Hp → Prop) (A : Around) (a g n : Nat) (s : Shared) : Prop :=
  s.heap.IsGen a g ∧ s.heap.NoLimit ∧ g < gsz ∧ gsz ≤ s.gens.size ∧ AllBare s.gens ∧ ∃ gs, s.gens[g]? = some gs ∧ gs.Goes (model XG.prog XG.w) A.in1 (gend XG pn σG gsz Qe) (gproto XG pn σG fp tn gsz stop W Qs) n (.send .none) (s.setGen g .running)
theorem bare_set {gens : Array GenState} {g : Nat} {gs : GenState} (h : AllBare gens) (hb : gs.bare = true) : AllBare (gens.setIfInBounds g gs) := by
  intro y hy
  obtain ⟨i, hi, e⟩ := Array.mem_iff_getElem.mp hy
  rw [Array.getElem_setIfInBounds] at e
  · split at e
    · rw [← e]; exact hb
    · rw [← e]; exact h _ (Array.getElem_mem _)
  · simpa using hi
/-- one turn of the asker -/
theorem gs_next {A : Around} {n : Nat} {s : Shared} {Q : Option Value → Shared → Prop} {E : Value → Shared → Prop} (hh : A.handled = none) (hroom : A.depth < recursionLimit)
    (hgen : ∃ o, (a, o) ∈ pn ∧ ∀ h : Heap, h.get? a = some o → h.IsGen a g)
    (h : GSl XG pn σG fp tn gsz stop W Qs Qe A a g n s)
    (hY : ∀ s' H, Inv XG pn σG H s' → Qs H → Q (some (.bool stop)) s')
    (hN : ∀ s' m, m < n → GSl XG pn σG fp tn gsz stop W Qs Qe A a g m s' → Q (some (.bool (!stop))) s')
    (hE : ∀ s' H, Inv XG pn σG H s' → Qe H → Q none s') : wpAny (model XG.prog XG.w) A (pyNext (.ref a)) Q E s := by
  obtain ⟨hg, hl, hgz, hsz, hbr, gs, hgs, hgo⟩ := h
  refine wpAny_pyNext_genexpQ (P := fun _ _ s₁ => gendP XG pn σG gsz Qe s₁) hh hl hroom hg hgs hgo (fun v s₁ gs' hb hv => ?_) (fun s₁ hp h' hk => ?_)
  · obtain ⟨b, H, rfl, I, hz, q1, q2⟩ := hv
    have I2 : Inv XG pn σG H (s₁.setGen g gs') := inv_gens I rfl rfl (bare_set I.bare hb)
    by_cases e : b = stop
    · subst e
      exact hY _ H I2 (q1 rfl)
    · have eb : b = !stop := by cases b <;> cases stop <;> first | rfl | exact absurd rfl e
      subst eb
      obtain ⟨⟨i, m, hm, w, st, nf⟩, kap⟩ := q2 e
      cases n with
      | zero => exact absurd hm (Nat.not_lt_zero _)
      | succ k =>
        have hg2 : g < s₁.gens.size := Nat.lt_of_lt_of_le hgz hz
        obtain ⟨o, ho, hi⟩ := hgen
        refine hN _ k (Nat.lt_succ_self _) ⟨hi _ (I2.pin (a, o) (List.mem_append_right _ ho)).1, I2.nolimit, hgz, by show gsz ≤ (s₁.gens.setIfInBounds g gs').size; simpa using hz, I2.bare, gs', ?_, ?_⟩
        · show (s₁.gens.setIfInBounds g gs')[g]? = some gs'
          simp [hg2]
        · refine kap _ rfl rfl (bare_set (bare_set I.bare hb) rfl) ?_
          show s₁.gens.size ≤ ((s₁.gens.setIfInBounds g gs').setIfInBounds g _).size
          simp
  · obtain ⟨H, I, hz, q⟩ := hp
    have I2 : Inv XG pn σG H (s₁.setGen g .finished) := inv_gens I rfl rfl (bare_set I.bare rfl)
    exact hE _ H (I2.kept (t' := (s₁.setGen g .finished).toks) hk) q
theorem any_loop_g {A : Around} {R : Result → Shared → Prop} (hh : A.in1.handled = none) (hroom : A.in1.depth < recursionLimit) (hgen : ∃ o, (a, o) ∈ pn ∧ ∀ h : Heap, h.get? a = some o → h.IsGen a g)
    (hY : ∀ s' H, Inv XG pn σG H s' → Qs H → R (.ok (.ret (.bool true))) s') (hE : ∀ s' H, Inv XG pn σG H s' → Qe H → R (.ok (.ret (.bool false))) s') :
    ∀ (n : Nat) (s : Shared), GSl XG pn σG fp tn gsz true W Qs Qe A.in1 a g n s → codeAny (model XG.prog XG.w) A (.builtin "any.loop" ⟨[.ref a], []⟩) R s := by
  intro n
  induction n using Nat.strongRecOn with
  | ind n ih =>
    intro s h
    refine codeAny_builtin PySem.F.entry_any_loop ?_
    rw [Around.under_plainId PySem.F.plain_any_loop _]
    show wpAny _ A.in1 (pyNext (.ref a) >>= _) _ _ s
    refine wpAny_bind (gs_next hh hroom hgen h (fun s' H I q => ?_) (fun s' m hm h' => ?_) (fun s' H I q => ?_))
    · refine wpAny_bind (wpAny_holding (wpAny_truthy_bool ?_))
      refine wpAny_bind (wpAny_letGo ?_)
      simp only [if_true]
      exact wpAny_bind (wpAny_rule (wpAny_pure (hY s' H I q)))
    · refine wpAny_bind (wpAny_holding (wpAny_truthy_bool ?_))
      refine wpAny_bind (wpAny_letGo ?_)
      simp only [Bool.not_true, Bool.false_eq_true, if_false]
      exact wpAny_pure ⟨plainId_quiet PySem.F.plain_any_loop _, ih m hm s' h'⟩
    · exact wpAny_bind (wpAny_rule (wpAny_pure (hE s' H I q)))
end
/-! ### the rules -/
/-- the reading: W by the turn and a measure; what is asked behind a stop (Qs), behind the end (Qe) -/
def tGy (J : It) (te : TE) (P : Addr) (stop : Bool) (caps : List (Str × Nat)) (σ : L2.St) (H1 : Hp) (Q : VK) : Prop := TabG H1 P ∧ ∀ H2, Tabbed P H1 H2 → ∃ (W : Nat → Nat → Hp → Prop) (Qs Qe : Hp → Prop), (∃ m, W 0 m H2) ∧
  gturn J te stop (caps.map fun p => (σ[p.2]?).join) W Qs Qe ∧ (∀ H, Qs H → Q (.bl stop) H) ∧ ∀ H, Qe H → Q (.bl (!stop)) H
def tGx (wi : TI) (te : TE) (P : Addr) (stop : Bool) (caps : List (Str × Nat)) : TE := fun σ H Q => wi σ H fun J H1 => tGy J te P stop caps σ H1 Q
section
variable {X : Cx} {pins : List (Addr × Obj)} {σ : L2.St} {H : Hp} {s : Shared}
/-- the generator made, asleep -/
theorem gx_made {c P : Addr} {elt iter : Expr} {x : Str} {px gpos : Pos} {scope : Scope} {caps : List (Str × Nat)} {wi : TI} {te : TE} {stop : Bool} {k : Nat} {Q' : Value → Shared → Prop} {Q : VK}
    (hr : Room (k + 1) X.A) (hG : X.A.guards = some []) (TB : TabB X.base X.mg c P) (hcode : X.env.code = .ref c) (S : GenK X.N X.env.scope scope x caps) (hi : PI X (.Name x px) iter wi) (hcalm : X.calm = true)
    (he : ∀ (s : Shared) (H : Hp) (C : Addr) (code : Value) (A : Around) (fp : List Addr), Room k A → A.guards = some [] → PE (gxC X s H (x :: caps.map (·.1)) (genEnv scope (cloFrom X.env.cells scope.names []) C code builtinsNs X.env) A fp) elt te)
    (hs : ∀ v, genFold iter X.env v = pure v) (I : Inv X pins σ H s) (h : tGx wi te P stop caps σ H Q)
    (hQ : ∀ XG pn σG fp tn gsz W Qs Qe n a g s5, XG.prog = X.prog → XG.w = X.w → (∃ o, (a, o) ∈ pn ∧ ∀ h : Heap, h.get? a = some o → h.IsGen a g) → GSl XG pn σG fp tn gsz stop W Qs Qe X.A.in1 a g n s5 →
      (∀ s' H', Inv XG pn σG H' s' → Qs H' → Inv X pins σ H' s' ∧ Q (.bl stop) H') → (∀ s' H', Inv XG pn σG H' s' → Qe H' → Inv X pins σ H' s' ∧ Q (.bl (!stop)) H') → Q' (.ref a) s5) :
    wpAny (model X.prog X.w) X.A (eval (.GeneratorExp elt [⟨.Name x px, iter, [], 0⟩] scope gpos) X.env) Q' X.xe s := by
  have hfree : ∀ y ∈ scope.names, y.2 = .free → ∃ c, X.env.cells.lookup y.1 = some c := fun y hy e => by
    rcases S.free y hy e with k | k
    · exact I.ok.has _ (.inl k)
    · exact I.ok.has _ (.inr k)
  refine wpAny_GeneratorExp_make S.co (closure_ok hfree) S.cell S.dot S.kind (by have := hr.dp; omega) ?_ hs
  refine thn (hi.run pins s σ H _ I h) fun xv s1 hx => thn hx fun itv s2 h2 => ?_
  obtain ⟨it, fp, tn, J, H1, e, I2, T, st2, f2, ⟨ps, hP, ht⟩, rest⟩ := h2
  subst e
  refine ⟨I2.nolimit, ?_⟩
  have hPs : s2.heap.get? P = some { cls := .none, data := .fields ps } := I2.hok P _ hP
  have sz : ∀ b ∈ fp, b < s2.heap.objs.size := fun b hb => by
    obtain ⟨o, e, _⟩ := T.obj _ _ st2 b hb
    exact Heap.lt_size e
  have fpP : ∀ b ∈ fp, b ≠ P := fun b hb z => by have := (f2 b hb).1; rw [z, hP] at this; cases this
  have cd : PySem.W.CodeHd s2.heap c P := TB.code.keeps fun b u e => I2.bk b u e
  have cont : ∀ (code : Value) (h3 : Heap) (tk : Nat) (ps' : Array Value), Heap.ExtBut P s2.heap h3 → s2.heap.objs.size ≤ h3.objs.size → h3.get? P = some { cls := .none, data := .fields ps' } → (∃ more, ps' = ps ++ more) → TriplesOk ps'.toList →
      wpAny (model X.prog X.w) X.A (builtinsFor X.env.globals X.env.builtins) (fun bi s₄ =>
        ∀ h', h'.Ns s₄.heap.objs.size (fun y => if y = ".0" then some (.ref it) else none) → Heap.SameBut s₄.heap.objs.size (s₄.heap.push { cls := .type "frame", data := .dict #[] }) h' →
          Q' (.ref h'.objs.size) { s₄ with
            gens := s₄.gens.push (.fresh (.compStart (.GeneratorExp elt [⟨.Name x px, iter, [], 0⟩] scope gpos) 0 (.ref it) .none (genEnv scope (cloFrom X.env.cells scope.names []) s₄.heap.objs.size code bi X.env))),
            toks := s₄.toks + 1 + 1 + 1,
            heap := h'.push { cls := .type "generator", data := .fields #[.int s₄.gens.size 0, .str "<genexpr>" (s₄.toks + 1), .str (X.env.qual ++ "<genexpr>") (s₄.toks + 1 + 1)] } }) X.xe { s2 with heap := h3, toks := tk } := by
    intro code h3 tk ps' hx hsz3 hP3 hmore ht3
    obtain ⟨bm, ob, e1, e2, e3, e4, e5, e6, e7, e8⟩ := TB.bm
    obtain ⟨more, em⟩ := hmore
    have keep3 : ∀ b u, b ≠ P → s2.heap.get? b = some u → h3.get? b = some u := fun b u hb e => hx b u hb e
    refine wpAny_builtinsFor (m := X.mg) (by rw [I2.ok.glob]; exact ((I2.mod.glob.keeps I2.bk)).extBut hx TB.gP) e1 e2 (keep3 _ _ e4 (I2.bk _ _ e5)) e6 e7 e8 ?_
    intro h' hn' hs'
    have I4 : Inv X pins σ (upd H1 P (.tbl (ps ++ more))) { s2 with heap := h3, gens := s2.gens, drawn := s2.drawn, toks := tk } := inv_tab I2 hP keep3 (by rw [← em]; exact hP3) I2.bare
    have tb : Tabbed P H1 (upd H1 P (.tbl (ps ++ more))) := ⟨⟨ps ++ more, upd_same, by rw [← em]; exact ht3⟩, fun b hb => upd_ne hb⟩
    obtain ⟨W, Qs, Qe, ⟨m0, w0⟩, turn, hqs, hqe⟩ := rest _ tb
    have st3 : tn 0 h3 := T.keep _ _ _ st2 fun b hb o e => keep3 b o (fpP b hb) e
    have hAf : ∀ env : Env, (X.A.in1.in1.over (.compLoop (.GeneratorExp elt [⟨.Name x px, iter, [], 0⟩] scope gpos) 0 (.ref it) .none env) []).frames = some (env :: X.stack) := fun env => by
      show pushEnvs [env] (pushEnvs [] X.A.frames) = _
      rw [I.ok.frames]; rfl
    have hAg : ∀ env : Env, (X.A.in1.in1.over (.compLoop (.GeneratorExp elt [⟨.Name x px, iter, [], 0⟩] scope gpos) 0 (.ref it) .none env) []).guards = some [] := fun env => by
      show pushGuards [] (pushGuards [] X.A.guards) = _
      rw [hG]; rfl
    have hAr : ∀ env : Env, Room k (X.A.in1.in1.over (.compLoop (.GeneratorExp elt [⟨.Name x px, iter, [], 0⟩] scope gpos) 0 (.ref it) .none env) []) := fun env =>
      ⟨hr.hd, by have := hr.dp; show X.A.depth + 1 + 3 * k + 5 < _; omega, by have := hr.un; show X.A.units + 1 + 1 + 3 + 16 * k + 200 < _; omega⟩
    have fpok : ∀ b ∈ fp, FpOk X pins (upd H1 P (.tbl (ps ++ more))) b ∧ b < h3.objs.size := fun b hb => ⟨⟨by rw [upd_ne (fpP b hb)]; exact (f2 b hb).1, (f2 b hb).2⟩, Nat.lt_of_lt_of_le (sz b hb) hsz3⟩
    have hsz' : h'.objs.size = h3.objs.size + 1 := by rw [hs'.1, Heap.size_push]
    have keep' : ∀ b u, h3.get? b = some u → h'.get? b = some u := fun b u e => hs'.extBut b u (Nat.ne_of_lt (Heap.lt_size e)) (Heap.get?_push_of_some _ e)
    generalize hgo : ({ cls := .type "generator", data := .fields #[.int s2.gens.size 0, .str "<genexpr>" (tk + 1), .str (X.env.qual ++ "<genexpr>") (tk + 1 + 1)] } : Obj) = go
    have hIs : ∀ h : Heap, h.get? h'.objs.size = some go → h.IsGen h'.objs.size s2.gens.size := fun h e => by rw [← hgo] at e; exact ⟨_, _, _, e, rfl, rfl, rfl⟩
    generalize hGs : (GenState.fresh (.compStart (.GeneratorExp elt [⟨.Name x px, iter, [], 0⟩] scope gpos) 0 (.ref it) .none (genEnv scope (cloFrom X.env.cells scope.names []) h3.objs.size code builtinsNs X.env))) = gs0
    have G0 := gen_start (A := X.A.in1.in1.over (.compLoop (.GeneratorExp elt [⟨.Name x px, iter, [], 0⟩] scope gpos) 0 (.ref it) .none (genEnv scope (cloFrom X.env.cells scope.names []) h3.objs.size code builtinsNs X.env)) []) (code := code) (it := .ref it) (h' := h') (go := go) (gs := gs0) (tk := tk + 1 + 1 + 1) I4 S fpok hr.hd (hAf _) (by rw [← hGs]; rfl) (by rw [← hgo]; exact fun v z => nomatch z) (by rw [← hgo]; rfl) hn' hs'
    have pe := he { s2 with heap := h3, gens := s2.gens, drawn := s2.drawn, toks := tk } (upd H1 P (.tbl (ps ++ more))) h3.objs.size code _ fp (hAr (genEnv scope (cloFrom X.env.cells scope.names []) h3.objs.size code builtinsNs X.env)) (hAg _)
    have st5 : tn 0 (h'.push go) := T.keep _ _ _ st3 fun b hb o e => Heap.get?_push_of_some _ (keep' b o e)
    have back : ∀ s' H', Inv (gxC X { s2 with heap := h3, gens := s2.gens, drawn := s2.drawn, toks := tk } (upd H1 P (.tbl (ps ++ more))) (x :: caps.map (·.1)) (genEnv scope (cloFrom X.env.cells scope.names []) h3.objs.size code builtinsNs X.env) (X.A.in1.in1.over (.compLoop (.GeneratorExp elt [⟨.Name x px, iter, [], 0⟩] scope gpos) 0 (.ref it) .none (genEnv scope (cloFrom X.env.cells scope.names []) h3.objs.size code builtinsNs X.env)) []) fp) [(h'.objs.size, go)] (gst σ caps) H' s' → Inv X pins σ H' s' := fun s' H' I6 =>
      I4.call' (ch := fp) I6.os I6.base I6.hok I6.bare fun b hb => ⟨(fpok b hb).1.2.2.2.1, (fpok b hb).1.2.1, (fpok b hb).1.2.2.2.2.1, (fpok b hb).1.2.2.2.2.2⟩
    refine hQ (gxC X { s2 with heap := h3, gens := s2.gens, drawn := s2.drawn, toks := tk } (upd H1 P (.tbl (ps ++ more))) (x :: caps.map (·.1)) (genEnv scope (cloFrom X.env.cells scope.names []) h3.objs.size code builtinsNs X.env) (X.A.in1.in1.over (.compLoop (.GeneratorExp elt [⟨.Name x px, iter, [], 0⟩] scope gpos) 0 (.ref it) .none (genEnv scope (cloFrom X.env.cells scope.names []) h3.objs.size code builtinsNs X.env)) []) fp) [(h'.objs.size, go)] (gst σ caps) fp tn (s2.gens.size + 1) W Qs Qe (m0 + 1) _ s2.gens.size _ rfl rfl ⟨go, List.mem_singleton.mpr rfl, hIs⟩ ?_ (fun s' H' I6 q => ⟨back s' H' I6, hqs H' q⟩) fun s' H' I6 q => ⟨back s' H' I6, hqe H' q⟩
    refine ⟨hIs _ (Heap.get?_push_size _ (by rw [← hgo]; rfl)), G0.nolimit, Nat.lt_succ_self _, by show _ ≤ (s2.gens.push gs0).size; rw [Array.size_push]; exact Nat.le_refl _, G0.bare, gs0, Array.getElem?_push_size .., ?_⟩
    have hb1 : AllBare ((s2.gens.push gs0).setIfInBounds s2.gens.size GenState.running) := bare_set G0.bare rfl
    have hz1 : s2.gens.size + 1 ≤ ((s2.gens.push gs0).setIfInBounds s2.gens.size GenState.running).size := by simp
    generalize hS5 : Shared.setGen _ _ _ = S5
    have q1 : S5.heap = h'.push go := by rw [← hS5]; rfl
    have q2 : S5.os = s2.os := by rw [← hS5]; rfl
    have q3 : AllBare S5.gens := by rw [← hS5]; exact hb1
    have q4 : s2.gens.size + 1 ≤ S5.gens.size := by rw [← hS5]; exact hz1
    rw [← hGs]
    refine ⟨rfl, ?_⟩
    have loop := seg_gx (XG := gxC X { s2 with heap := h3, gens := s2.gens, drawn := s2.drawn, toks := tk } (upd H1 P (.tbl (ps ++ more))) (x :: caps.map (·.1)) (genEnv scope (cloFrom X.env.cells scope.names []) h3.objs.size code builtinsNs X.env) (X.A.in1.in1.over (.compLoop (.GeneratorExp elt [⟨.Name x px, iter, [], 0⟩] scope gpos) 0 (.ref it) .none (genEnv scope (cloFrom X.env.cells scope.names []) h3.objs.size code builtinsNs X.env)) []) fp)
      (pn := [(h'.objs.size, go)]) (σG := gst σ caps) (fp := fp) (tn := tn) (gsz := s2.gens.size + 1) (stop := stop) (W := W) (Qs := Qs) (Qe := Qe) (A := X.A.in1.in1) (elt := elt) (iter := iter) (px := px) (scope := scope) (pos := gpos) (it := it) (J := J) (te := te) (σt := caps.map fun p => (σ[p.2]?).join)
      rfl rfl rfl rfl rfl S.co S.nd rfl S.loc rfl (fun b hb p hp => by
        rw [List.mem_singleton.mp hp]
        show h'.objs.size ≠ b
        exact Nat.ne_of_gt (Nat.lt_trans (fpok b hb).2 (by rw [hsz']; exact Nat.lt_succ_self _))) T pe rfl turn (m0 + 1)
    have start : ∀ s'' : Shared, s''.heap = h'.push go → s''.os = s2.os → AllBare s''.gens → s2.gens.size + 1 ≤ s''.gens.size → ∀ s₀, Seg (model X.prog X.w) X.A.in1.in1 _ _ (m0 + 1) s₀ _ _ [] s'' := fun s'' hh ho hb hz s₀ => loop s₀ s'' ⟨0, m0, _, inv_gens G0 hh ho hb, by rw [hh]; exact st5, fun b hb => (fpok b hb).1.1, hz, Nat.lt_succ_self _, w0⟩
    have self : ∀ (Q : Value → Shared → Prop) (E : Value → Shared → Prop) (s : Shared), Q (.ref it) s → tn 0 s.heap → wpAny (model X.prog X.w) (X.A.in1.in1.over (.compStart (.GeneratorExp elt [⟨.Name x px, iter, [], 0⟩] scope gpos) 0 (.ref it) .none (genEnv scope (cloFrom X.env.cells scope.names []) h3.objs.size code builtinsNs X.env)) []) (pyIter (.ref it)) Q E s := fun Q E s q z => T.self _ 0 s Q E z q
    show Seg _ X.A.in1.in1 _ _ _ _ _ ((compStart (.GeneratorExp elt [⟨.Name x px, iter, [], 0⟩] scope gpos) 0 (.ref it) .none (genEnv scope (cloFrom X.env.cells scope.names []) h3.objs.size code builtinsNs X.env)).onRaise (leaving (genEnv scope (cloFrom X.env.cells scope.names []) h3.objs.size code builtinsNs X.env))) [] _
    unfold compStart
    rw [Sem.onRaise_eq_wrap]
    show Seg _ X.A.in1.in1 _ _ _ _ _ ((ask >>= _).wrap _ _ _ _) [] _
    refine seg_bind_wrap (wpAny_askSetting ?_)
    split
    · exact seg_again rfl (start S5 q1 q2 q3 q4 _)
    · first
        | exact seg_bind_wrap (wpAny_rule (seg_bind_wrap (wpAny_standAt (seg_bind_wrap (self _ _ _ (seg_again rfl (start S5 q1 q2 q3 q4 _)) (by rw [q1]; exact st5))))))
        | (refine seg_bind_wrap (wpAny_rule ?_); show Seg _ X.A.in1.in1 _ _ _ _ _ ((standAt iter.pos >>= _).wrap _ _ _ _) [] _; exact seg_bind_wrap (wpAny_standAt (seg_bind_wrap (self _ _ _ (seg_again rfl (start S5 q1 q2 q3 q4 _)) (by rw [q1]; exact st5)))))
  cases hf : codeAmong gpos ps.toList with
  | none =>
    refine wpAny_genexprCodeX hcode (cd.code hPs ht) (cd.tab hPs) hf fun c' h' tk hx hge hlt hco' _ htab' _ => ?_
    obtain ⟨_, _, _, _, _, _, _, _, _, _, _, _, _, _, _, _, _, _, _, htr, _⟩ := hco'
    exact cont _ h' tk _ hx (Nat.le_trans hge (Nat.le_of_lt hlt)) htab'.2 ⟨_, rfl⟩ htr
  | some cv => exact wpAny_genexprCode_hit hcode (cd.code hPs ht) hf (cont cv s2.heap s2.toks ps (Heap.ExtBut.refl _ _) (Nat.le_refl _) hPs ⟨#[], by simp⟩ ht)
theorem pe_anyG {c P : Addr} {elt iter : Expr} {x : Str} {px p pos gpos : Pos} {scope : Scope} {caps : List (Str × Nat)} {wi : TI} {te : TE} {k : Nat}
    (hr : Room (k + 1) X.A) (hG : X.A.guards = some []) (hg : Gl X "any") (hm : X.mg "any" = none) (hb : bootBuiltins "any" = some (.builtin "any")) (TB : TabB X.base X.mg c P) (hcode : X.env.code = .ref c) (S : GenK X.N X.env.scope scope x caps) (hi : PI X (.Name x px) iter wi) (hcalm : X.calm = true)
    (he : ∀ (s : Shared) (H : Hp) (C : Addr) (code : Value) (A : Around) (fp : List Addr), Room k A → A.guards = some [] → PE (gxC X s H (x :: caps.map (·.1)) (genEnv scope (cloFrom X.env.cells scope.names []) C code builtinsNs X.env) A fp) elt te)
    (hs : ∀ v, genFold iter X.env v = pure v) (hst : starEach [.GeneratorExp elt [⟨.Name x px, iter, [], 0⟩] scope gpos] X.env = (false, eval (.GeneratorExp elt [⟨.Name x px, iter, [], 0⟩] scope gpos) X.env) :: starEach [] X.env := by rfl) :
    PE X (.Call (.Name "any" p) [.GeneratorExp elt [⟨.Name x px, iter, [], 0⟩] scope gpos] [] pos) (tGx wi te P true caps) := by
  refine ⟨fun pins s σ H Q I h => wpAny_Call_Name_kw (ld_blt I hg hm hb (PyProof.Rows.callWith_builtin1 ?_ hst (by rfl)))⟩
  rw [hst]
  show wpAny _ _ (spliced ((false, eval (.GeneratorExp elt [⟨.Name x px, iter, [], 0⟩] scope gpos) X.env) :: backTo pos (starEach [] X.env))) _ _ s
  refine Calls.spliced_cons (gx_made hr hG TB hcode S hi hcalm he hs I h fun XG pn σG fp tn gsz W Qs Qe n a g s5 ep ew hgen hsl h1 h2 => Calls.spliced_nil ?_)
  refine call_function_tree PySem.F.kind_any PySem.F.plain_any PySem.F.entry_any (PySem.F.args_any1 _) ?_
  unfold Builtin.«any»
  refine wpAny_bind (m := oneArg "any" _) (wpAny_pure ?_)
  refine wpAny_bind (wpAny_pyIter_gen hsl.1 ?_)
  refine wpAny_pure ⟨plainId_quiet PySem.F.plain_any_loop _, ?_⟩
  rw [← ep, ← ew]
  refine any_loop_g (A := X.A) hr.hd (by have := hr.dp; show X.A.depth < _; omega) hgen (fun s' H' I' q => ?_) (fun s' H' I' q => ?_) n s5 hsl
  · obtain ⟨J, q'⟩ := h1 s' H' I' q
    exact ⟨.bl true, H', J, rfl, q'⟩
  · obtain ⟨J, q'⟩ := h2 s' H' I' q
    exact ⟨.bl false, H', J, rfl, q'⟩
end
end MM
namespace MM
open PySem PySem.Spec PyProof.Rows L2 GxR
def genkC (N : List Str) (sc scope : Scope) (x : Str) (caps : List (Str × Nat)) : Bool :=
  (match scope.kind with | .function => true | _ => false) && !scope.isCoroutine && (scope.names.all fun y => match y.2 with | .cell => false | _ => true) && decide (scope.names.lookup (".0" : Str) = some NameKind.local) && decide (scope.names.lookup x = some NameKind.local) &&
    (scope.names.all fun y => decide (scope.names.lookup y.1 = some y.2)) && (scope.names.all fun y => match y.2 with
      | .free => (match sc.names.lookup y.1 with | some .cell => true | some .free => true | _ => false)
      | _ => true) && (caps.all fun p => decide (N[p.2]? = some p.1) && decide (scope.names.lookup p.1 = some NameKind.free)) && decide (x :: caps.map (·.1)).Nodup
theorem genk_by {N : List Str} {sc scope : Scope} {x : Str} {caps : List (Str × Nat)} (h : genkC N sc scope x caps = true) : GenK N sc scope x caps := by
  unfold genkC at h
  simp only [Bool.and_eq_true, List.all_eq_true, decide_eq_true_eq, Bool.not_eq_true'] at h
  obtain ⟨⟨⟨⟨⟨⟨⟨⟨h1, h2⟩, h3⟩, h4⟩, h5⟩, h6⟩, h7⟩, h8⟩, h9⟩ := h
  refine ⟨?_, h2, fun y hy e => ?_, h4, h5, h6, fun y hy e => ?_, h8, h9⟩
  · split at h1
    · assumption
    · cases h1
  · have q := h3 y hy
    rw [e] at q; cases q
  · have q := h7 y hy
    simp only [e] at q
    split at q <;> first | exact .inl (by assumption) | exact .inr (by assumption) | cases q
/-- over what is walked: Pv by the turn and the heap -/
theorem gx_it {J : It} {n : Nat} {G : Hp → Prop} {Y : Nat → Hp → V → Hp → Prop} (w : Walk J n G Y) {te : TE} {stop : Bool} {σt : List (Option V)} {H2 : Hp} {Qs Qe : Hp → Prop} (Pv : Nat → Hp → Prop) (h0 : Pv 0 H2) (hG : ∀ i H, i ≤ n → Pv i H → G H)
    (hs : ∀ i x H H', i < n → Pv i H → Y i H x H' → te (some x :: σt) H' fun y H4 => ∃ b, y = .bl b ∧ (b = stop → Qs H4) ∧ (b ≠ stop → Pv (i + 1) H4)) (hd : ∀ H, Pv n H → Qe H) :
    ∃ W : Nat → Nat → Hp → Prop, (∃ m, W 0 m H2) ∧ gturn J te stop σt W Qs Qe := by
  refine ⟨fun i m H => m + i = n ∧ Pv i H, ⟨n, rfl, h0⟩, fun i m Hb ⟨hm, p⟩ => ?_⟩
  rcases Nat.lt_or_ge i n with lt | ge
  · refine .inr ⟨w.goes i Hb lt (hG i Hb (by omega) p), fun x Hc y => ?_⟩
    have := hs i x Hb Hc lt p (w.yields i Hb x Hc lt (hG i Hb (by omega) p) y)
    have mono : (fun (y : V) (H4 : Hp) => ∃ b, y = .bl b ∧ (b = stop → Qs H4) ∧ (b ≠ stop → Pv (i + 1) H4)) = fun y H4 => ∃ b, y = .bl b ∧ (b = stop → Qs H4) ∧ (b ≠ stop → ∃ m', m' < m ∧ m' + (i + 1) = n ∧ Pv (i + 1) H4) := by
      funext y H4
      refine propext ⟨fun ⟨b, e, h1, h2⟩ => ⟨b, e, h1, fun z => ⟨m - 1, by omega, by omega, h2 z⟩⟩, fun ⟨b, e, h1, h2⟩ => ⟨b, e, h1, fun z => let ⟨_, _, _, h⟩ := h2 z; h⟩⟩
    exact mono ▸ this
  · obtain rfl : i = n := by omega
    exact .inl ⟨w.stops Hb (hG i Hb (by omega) p), hd Hb p⟩
end MM
namespace MM
open PySem PySem.Spec PyProof.Rows L2 GxR
/-! ### corners -/
def cnt (ns : List Int) (i : Nat) (j : Int) : Nat := ((ns.take i).filter fun p => decide (j ≤ p)).length
def cl (ns : List Int) (i : Nat) : List Int := (List.range (ns.length + 1)).map fun (j : Nat) => (cnt ns i (j : Int) : Int)
theorem cl_length (ns : List Int) (i : Nat) : (cl ns i).length = ns.length + 1 := by unfold cl; rw [List.length_map, List.length_range]
theorem cnt_zero (ns : List Int) (j : Int) : cnt ns 0 j = 0 := rfl
theorem cnt_succ {ns : List Int} {i : Nat} {p : Int} (h : ns[i]? = some p) (j : Int) : cnt ns (i + 1) j = cnt ns i j + if j ≤ p then 1 else 0 := by
  unfold cnt
  rw [List.take_add_one, h, List.filter_append, List.length_append]
  by_cases hj : j ≤ p <;> simp [hj]
theorem cl_zero (ns : List Int) : cl ns 0 = List.replicate (ns.length + 1) 0 := by
  unfold cl
  rw [List.eq_replicate_iff]
  refine ⟨by simp, fun x hx => ?_⟩
  obtain ⟨j, _, rfl⟩ := List.mem_map.mp hx
  rfl
theorem cl_get (ns : List Int) (i : Nat) {j : Nat} (h : j < ns.length + 1) : (cl ns i)[j]? = some (cnt ns i j : Int) := by
  unfold cl; rw [List.getElem?_map, List.getElem?_range h]; rfl
theorem cl_pref {ns : List Int} {i j : Nat} (h : j < ns.length + 1) : (cl ns i).take (j + 1) = (cl ns i).take j ++ [(cnt ns i j : Int)] := by
  rw [List.take_add_one, cl_get ns i h]; rfl
theorem rep_one {α : Type} (x : α) : ∀ m : Nat, (List.replicate m [x]).flatten = List.replicate m x
  | 0 => rfl
  | m + 1 => by rw [List.replicate_succ, List.flatten_cons, rep_one x m, List.replicate_succ]; rfl
theorem yes_go {σ : L2.St} {H : Hp} {A B : Hp → Prop} (h : A H) : tYes σ H (fun b H3 => if b = true then A H3 else B H3) := by
  show (if true = true then A H else B H)
  rw [if_pos rfl]; exact h
end MM
namespace MM
open PySem PySem.Spec PyProof.Rows L2 GxR
/-- the corners of which ns has more, i by i, j by j -/
def moreAt (ns ms : List Int) (i : Nat) : List (Nat × Nat) := ((List.range (ns.length + 1)).filter fun (j : Nat) => decide (cnt ms i j < cnt ns i j)).map fun j => (i, j)
def moreTo (ns ms : List Int) (m : Nat) : List (Nat × Nat) := (List.range m).flatMap (moreAt ns ms)
def more (ns ms : List Int) : List (Nat × Nat) := moreTo ns ms (ns.length + 1)
theorem moreTo_succ (ns ms : List Int) (m : Nat) : moreTo ns ms (m + 1) = moreTo ns ms m ++ moreAt ns ms m := by
  unfold moreTo; rw [List.range_succ, List.flatMap_append]; simp
theorem mem_moreAt {ns ms : List Int} {i : Nat} {p : Nat × Nat} : p ∈ moreAt ns ms i ↔ p.1 = i ∧ p.2 < ns.length + 1 ∧ cnt ms i p.2 < cnt ns i p.2 := by
  unfold moreAt
  rw [List.mem_map]
  constructor
  · rintro ⟨j, hj, rfl⟩
    obtain ⟨h1, h2⟩ := List.mem_filter.mp hj
    exact ⟨rfl, List.mem_range.mp h1, of_decide_eq_true h2⟩
  · rintro ⟨h1, h2, h3⟩
    exact ⟨p.2, List.mem_filter.mpr ⟨List.mem_range.mpr h2, decide_eq_true h3⟩, by rw [← h1]⟩
theorem mem_moreTo {ns ms : List Int} {m : Nat} {p : Nat × Nat} : p ∈ moreTo ns ms m ↔ p.1 < m ∧ p.2 < ns.length + 1 ∧ cnt ms p.1 p.2 < cnt ns p.1 p.2 := by
  unfold moreTo
  rw [List.mem_flatMap]
  constructor
  · rintro ⟨i, hi, h⟩
    obtain ⟨h1, h2, h3⟩ := mem_moreAt.mp h
    rw [h1]; exact ⟨List.mem_range.mp hi, h2, h3⟩
  · rintro ⟨h1, h2, h3⟩
    exact ⟨p.1, List.mem_range.mpr h1, mem_moreAt.mpr ⟨rfl, h2, h3⟩⟩
theorem more_nil {ns ms : List Int} (h : ∀ i j : Nat, i < ns.length + 1 → j < ns.length + 1 → ¬ cnt ms i j < cnt ns i j) : more ns ms = [] := by
  unfold more
  rw [List.eq_nil_iff_forall_not_mem]
  intro p hp
  obtain ⟨h1, h2, h3⟩ := mem_moreTo.mp hp
  exact h _ _ h1 h2 h3
theorem filter_head {α : Type} {p : α → Bool} {x : α} : ∀ {l : List α} {j : Nat}, l[j]? = some x → p x = true → (∀ j' y, j' < j → l[j']? = some y → p y = false) → (l.filter p).head? = some x
  | [], _, h, _, _ => by simp at h
  | a :: l, 0, h, hp, _ => by
    have e : a = x := by simpa using h
    subst e; simp [hp]
  | a :: l, j + 1, h, hp, hn => by
    have ha := hn 0 a (Nat.succ_pos j) (by simp)
    rw [List.filter_cons_of_neg (by rw [ha]; simp)]
    exact filter_head (j := j) (by simpa using h) hp fun j' y hj hy => hn (j' + 1) y (Nat.succ_lt_succ hj) (by simpa using hy)
theorem more_head {ns ms : List Int} {i j : Nat} (hi : i < ns.length + 1) (hj : j < ns.length + 1) (h : cnt ms i j < cnt ns i j) (h1 : ∀ i' j' : Nat, i' < i → j' < ns.length + 1 → ¬ cnt ms i' j' < cnt ns i' j') (h2 : ∀ j' : Nat, j' < j → ¬ cnt ms i j' < cnt ns i j') : (more ns ms).head? = some (i, j) := by
  have e1 : moreTo ns ms i = [] := by
    rw [List.eq_nil_iff_forall_not_mem]; intro p hp
    obtain ⟨a, b, c⟩ := mem_moreTo.mp hp
    exact h1 _ _ a b c
  have e2 : ∀ k, moreTo ns ms (i + 1 + k) = moreAt ns ms i ++ (moreTo ns ms (i + 1 + k)).drop (moreAt ns ms i).length := by
    intro k
    induction k with
    | zero => rw [Nat.add_zero, moreTo_succ, e1, List.nil_append, List.drop_length, List.append_nil]
    | succ k ih =>
      rw [← Nat.add_assoc, moreTo_succ, ih, List.append_assoc, List.drop_left]
  have e3 : (moreAt ns ms i).head? = some (i, j) := by
    unfold moreAt
    rw [List.head?_map, filter_head (x := j) (j := j) (by rw [List.getElem?_range hj]) (decide_eq_true h) fun j' y hj' hy => ?_]
    · rfl
    · rw [List.getElem?_range (Nat.lt_trans hj' hj)] at hy
      cases hy; exact decide_eq_false (h2 j' hj')
  have := e2 (ns.length - i)
  rw [show i + 1 + (ns.length - i) = ns.length + 1 by omega] at this
  unfold more
  rw [this]
  cases q : moreAt ns ms i with
  | nil => rw [q] at e3; cases e3
  | cons x l => rw [q] at e3; simpa using e3
/-- what unlike_corner tells -/
def CornV (H : Hp) (v : V) : Option (Nat × Nat) → Prop
  | none => v = .non
  | some p => ∃ T, v = .ref T ∧ H T = some (.tup [.int p.1, .int p.2])
end MM
namespace MM
open PySem PySem.Spec PyProof.Rows L2 GxR
/-! ### the bag of draws -/
/-- a bag of which n draws at most were mixed -/
def Bag (n : Nat) (H : Hp) (b : Addr) : Prop := ∃ x y z : Int, H b = some (.lst [.int x, .int y, .int z]) ∧ 0 ≤ x ∧ 0 ≤ y ∧ y < 10 ^ 40 ∧ 0 ≤ z ∧ z ≤ n
abbrev At1 (b : Addr) : Addr → Prop := fun a => a = b
theorem Bag.mono {n m : Nat} {H : Hp} {b : Addr} (h : Bag n H b) (l : n ≤ m) : Bag m H b := let ⟨x, y, z, e, a, c, d, f, g⟩ := h; ⟨x, y, z, e, a, c, d, f, by omega⟩
theorem Bag.ex {n : Nat} {H H' : Hp} {b : Addr} (h : Bag n H b) (e : Ex H H') : Bag n H' b := let ⟨x, y, z, r⟩ := h; ⟨x, y, z, Ex.lst e r.1, r.2⟩
theorem Bag.exB {n : Nat} {H H' : Hp} {b : Addr} {B : Addr → Prop} (h : Bag n H b) (e : ExB B H H') (nb : ¬ B b) : Bag n H' b := let ⟨x, y, z, r⟩ := h; ⟨x, y, z, e.lst r.1 nb, r.2⟩
theorem pow_ok {i : Int} {k : Nat} {j : Int} (hj : 0 ≤ j) (h : i.natAbs < 2 ^ k) (hk : (k : Int) * j ≤ 2 ^ 27) : CPowW i j :=
  ⟨hj, Int.le_trans (Int.mul_le_mul_of_nonneg_right (by have := bits_le h; omega) hj) hk⟩
theorem mulW_small {i j : Int} (hi : i.natAbs < 2 ^ 200) (hj : j.natAbs < 2 ^ 200) : CMulW i j := wide_mul hi hj (by decide) (by decide) (by decide)
theorem divW_small {i j : Int} (h : 0 < j) (hj : j < 10 ^ 9) : CDivW i j := wide_div (b := 200) h (by
  have : j.natAbs < 10 ^ 9 := by have h2 : (10 : Int) ^ 9 = 1000000000 := by decide
                                 have h3 : (10 : Nat) ^ 9 = 1000000000 := by decide
                                 omega
  exact Nat.lt_trans this (by decide)) (by decide) (by decide)
theorem cutV_to {xs : List V} (i : Nat) : cutV xs none (some (i : Int)) = xs.take i := by
  unfold cutV
  rw [HT.sIx_none, HT.sIx_nat, List.drop_zero, Nat.sub_zero]
  by_cases h : i ≤ xs.length
  · rw [Nat.min_eq_left h]
  · rw [Nat.min_eq_right (by omega), List.take_length, List.take_of_length_le (by omega)]
theorem cutV_from {xs : List V} (i : Nat) : cutV xs (some (i : Int)) none = xs.drop i := by
  unfold cutV
  rw [HT.sIx_none, HT.sIx_nat]
  by_cases h : i ≤ xs.length
  · rw [Nat.min_eq_left h, List.take_of_length_le (by rw [List.length_drop]; omega)]
  · rw [Nat.min_eq_right (by omega), List.drop_length, List.take_nil, List.drop_eq_nil_of_le (by omega)]
end MM
namespace MM
open PySem PySem.Spec PyProof.Rows L2 GxR
/-! ### lists of data, item by item -/
theorem dpAll_of {K : PySem.W.Frag} {H : Hp} : ∀ {vs : List V} {ds : List PyData}, vs.length = ds.length → (∀ (k : Nat) v d, vs[k]? = some v → ds[k]? = some d → Dp K H v d) → DpAll K H vs ds
  | [], [], _, _ => .nil
  | [], _ :: _, h, _ => by simp at h
  | _ :: _, [], h, _ => by simp at h
  | v :: vs, d :: ds, h, f => .cons (f 0 v d (by simp) (by simp)) (dpAll_of (by simpa using h) fun k x e h1 h2 => f (k + 1) x e (by simpa using h1) (by simpa using h2))
/-- the tuples at ts are the pairs ps -/
structure Tups (H : Hp) (ps : List (Nat × Nat)) (ts : List Addr) : Prop where
  len : ts.length = ps.length
  at_ : ∀ (k : Nat) t p, ts[k]? = some t → ps[k]? = some p → H t = some (.tup [.int (p.1 : Nat), .int (p.2 : Nat)])
theorem Tups.ex {B : Addr → Prop} {H H' : Hp} {ps : List (Nat × Nat)} {ts : List Addr} (h : Tups H ps ts) (e : ExB B H H') : Tups H' ps ts := ⟨h.len, fun k t p a b => e.tup (h.at_ k t p a b)⟩
theorem Tups.app {H : Hp} {ps qs : List (Nat × Nat)} {ts us : List Addr} (h : Tups H ps ts) (g : Tups H qs us) : Tups H (ps ++ qs) (ts ++ us) := by
  refine ⟨by rw [List.length_append, List.length_append, h.len, g.len], fun k t p a b => ?_⟩
  by_cases hk : k < ts.length
  · rw [List.getElem?_append_left hk] at a
    rw [List.getElem?_append_left (by rw [← h.len]; exact hk)] at b
    exact h.at_ k t p a b
  · rw [List.getElem?_append_right (by omega)] at a
    rw [List.getElem?_append_right (by rw [← h.len]; omega), ← h.len] at b
    exact g.at_ _ t p a b
def prD2 (p : Nat × Nat) : PyData := .tuple [.int (p.1 : Nat), .int (p.2 : Nat)]
theorem dp_pair {K : PySem.W.Frag} {H : Hp} {t : Addr} {p : Nat × Nat} (h : H t = some (.tup [.int (p.1 : Nat), .int (p.2 : Nat)])) : Dp K H (.ref t) (prD2 p) := .tup (SqT.of h) (.cons (.int _) (.cons (.int _) .nil))
theorem Tups.dp {K : PySem.W.Frag} {H : Hp} {ps : List (Nat × Nat)} {ts : List Addr} {a : Addr} (h : Tups H ps ts) (ha : H a = some (.lst (ts.map V.ref))) : Dp K H (.ref a) (.list (ps.map prD2)) := by
  refine .lst (SqL.of ha) (dpAll_of (by rw [List.length_map, List.length_map, h.len]) fun k v d h1 h2 => ?_)
  rw [List.getElem?_map] at h1 h2
  cases e1 : ts[k]? with
  | none => rw [e1] at h1; cases h1
  | some t =>
    cases e2 : ps[k]? with
    | none => rw [e2] at h2; cases h2
    | some p =>
      rw [e1] at h1; rw [e2] at h2; cases h1; cases h2
      exact dp_pair (h.at_ k t p e1 e2)
theorem eqv_nil_refs {ds : List PyData} : PyData.eqv (.list ds) (.list []) = decide (ds = []) := by
  cases ds <;> simp [PyData.eqv, PyData.eqvAll]
end MM
namespace MM
open PySem PySem.Spec PyProof.Rows L2 GxR
/-- the script: frozen, or of the written part -/
def Script (K : PySem.W.Frag) (H : Hp) (a : Addr) (xs : List V) : Prop :=
  (∃ o, H a = some (.frz o (.lst xs))) ∨ ∃ (o : Obj) (its : Array Value) (n : Nat), K.lookup a = some o ∧ o.cls = .type "list" ∧ o.dict = none ∧ o.data = .seq its n ∧ its.size ≤ sizeLine ∧ Vals xs its.toList
section
variable {K : PySem.W.Frag} {H H' : Hp} {a : Addr} {xs : List V} {B : Addr → Prop}
theorem Script.sql (h : Script K H a xs) : SqL K H a xs := h.elim (fun z => .inl (.inr z)) .inr
theorem Script.ex (h : Script K H a xs) (e : ExB B H H') : Script K H' a xs := h.elim (fun ⟨o, z⟩ => .inl ⟨o, e.fix _ _ z trivial⟩) .inr
end
/-- pairs of rows of sz people -/
def Pairs (K : PySem.W.Frag) (H : Hp) (sz : Nat) (t : Addr) : Prop := ∃ (x y : Addr) (ns ms : List Int), H t = some (.tup [.ref x, .ref y]) ∧ SqT K H x (ns.map V.int) ∧ SqT K H y (ms.map V.int) ∧ IsRow ns ∧ IsRow ms ∧ ns.length = sz ∧ ms.length = sz
theorem Pairs.ex {K : PySem.W.Frag} {H H' : Hp} {B : Addr → Prop} {sz : Nat} {t : Addr} (h : Pairs K H sz t) (e : ExB B H H') : Pairs K H' sz t :=
  let ⟨x, y, ns, ms, a, b, c, r⟩ := h; ⟨x, y, ns, ms, e.tup a, e.sqt b, e.sqt c, r⟩
theorem IsRow.perm {ns ms : List Int} (r : IsRow ns) (h : ms.Perm ns) : IsRow ms := ⟨by rw [h.length_eq]; exact r.1, by rw [h.length_eq]; exact r.2.1, by rw [h.length_eq]; exact h.trans r.2.2⟩
end MM
namespace MM
open PySem PySem.Spec PyProof.Rows L2 GxR
section
variable {X : Cx} {K : PySem.W.Frag} {pos : Pos}
end
/-- what is left, told once for several roads -/
theorem later {R : Hp → Prop} {G : Prop} {T : Hp → Prop} (k : (∀ H, R H → T H) → G) (rest : ∀ H, R H → T H) : G := k rest
/-! ### two neighbours exchanged, and corners -/
def swL (ns : List Int) (g : Nat) : List Int := ns.take g ++ [ns.getD (g + 1) 0, ns.getD g 0] ++ ns.drop (g + 2)
theorem two_at {ns : List Int} {g : Nat} (h : g + 1 < ns.length) : ∃ (l r : List Int) (a b : Int), ns = l ++ a :: b :: r ∧ l.length = g := by
  refine ⟨ns.take g, ns.drop (g + 2), ns[g], ns[g + 1], ?_, by rw [List.length_take]; omega⟩
  have e1 : ns.drop g = ns[g] :: ns.drop (g + 1) := List.drop_eq_getElem_cons (by omega)
  have e2 : ns.drop (g + 1) = ns[g + 1] :: ns.drop (g + 2) := List.drop_eq_getElem_cons h
  rw [← e2, ← e1, List.take_append_drop]
theorem sw_form (l r : List Int) (a b : Int) : swL (l ++ a :: b :: r) l.length = l ++ b :: a :: r := by
  unfold swL
  have e0 : (l ++ a :: b :: r).take l.length = l := List.take_left
  have e1 : (l ++ a :: b :: r).getD (l.length + 1) 0 = b := by rw [List.getD_eq_getElem?_getD, List.getElem?_append_right (by omega)]; simp
  have e2 : (l ++ a :: b :: r).getD l.length 0 = a := by rw [List.getD_eq_getElem?_getD, List.getElem?_append_right (by omega)]; simp
  have e3 : (l ++ a :: b :: r).drop (l.length + 2) = r := by
    have e : l ++ a :: b :: r = (l ++ [a, b]) ++ r := by simp
    rw [e]
    exact List.drop_left' (by simp)
  rw [e0, e1, e2, e3]; simp
theorem sw_perm {ns : List Int} {g : Nat} (h : g + 1 < ns.length) : (swL ns g).Perm ns := by
  obtain ⟨l, r, a, b, rfl, rfl⟩ := two_at h
  rw [sw_form]
  exact List.Perm.append_left l (List.Perm.swap a b r)
theorem sw_len {ns : List Int} {g : Nat} (h : g + 1 < ns.length) : (swL ns g).length = ns.length := (sw_perm h).length_eq
theorem sw_row {ns : List Int} {g : Nat} (h : g + 1 < ns.length) (r : IsRow ns) : IsRow (swL ns g) := r.perm (sw_perm h)
theorem sw_g {ns : List Int} {g : Nat} (h : g + 1 < ns.length) : (swL ns g).getD g 0 = ns.getD (g + 1) 0 ∧ (swL ns g).getD (g + 1) 0 = ns.getD g 0 := by
  obtain ⟨l, r, a, b, rfl, rfl⟩ := two_at h
  rw [sw_form]
  simp only [List.getD_eq_getElem?_getD]
  rw [List.getElem?_append_right (by omega), List.getElem?_append_right (by omega), List.getElem?_append_right (by omega), List.getElem?_append_right (by omega)]
  simp
theorem sw_cnt {ns : List Int} {g : Nat} (h : g + 1 < ns.length) {i : Nat} (j : Int) (hi : i ≠ g + 1) : cnt (swL ns g) i j = cnt ns i j := by
  obtain ⟨l, r, a, b, rfl, rfl⟩ := two_at h
  rw [sw_form]
  unfold cnt
  by_cases hle : i ≤ l.length
  · rw [List.take_append_of_le_length hle, List.take_append_of_le_length hle]
  · obtain ⟨k, rfl⟩ : ∃ k, i = l.length + (k + 2) := ⟨i - l.length - 2, by omega⟩
    rw [List.take_length_add_append, List.take_length_add_append]
    refine List.Perm.length_eq (List.Perm.filter _ (List.Perm.append_left l ?_))
    show (b :: a :: r.take k).Perm (a :: b :: r.take k)
    exact List.Perm.swap a b _
theorem getD_some {ns : List Int} {g : Nat} (h : g < ns.length) : ns[g]? = some (ns.getD g 0) := by
  rw [List.getD_eq_getElem?_getD, List.getElem?_eq_getElem h]; rfl
theorem cnt_at {ns : List Int} {g : Nat} (h : g < ns.length) (j : Int) : cnt ns (g + 1) j = cnt ns g j + if j ≤ ns.getD g 0 then 1 else 0 := cnt_succ (getD_some h) j
/-- no corner of ns is more -/
theorem more_iff {ns ms : List Int} : more ns ms = [] ↔ ∀ i j : Nat, i < ns.length + 1 → j < ns.length + 1 → cnt ns i j ≤ cnt ms i j := by
  refine ⟨fun e i j hi hj => ?_, fun h => more_nil fun i j hi hj => Nat.not_lt.mpr (h i j hi hj)⟩
  refine Nat.not_lt.mp fun c => ?_
  have : (i, j) ∈ more ns ms := mem_moreTo.mpr ⟨hi, hj, c⟩
  rw [e] at this; cases this
def Off (ns ms : List Int) (g : Nat) : Prop := ∀ i j : Nat, i < ns.length + 1 → j < ns.length + 1 → i ≠ g + 1 → cnt ns i j ≤ cnt ms i j
def Low (ns : List Int) (g : Nat) : Prop := ns.getD g 0 ≤ ns.getD (g + 1) 0
def High (ns : List Int) (g : Nat) : Prop := ns.getD (g + 1) 0 ≤ ns.getD g 0
theorem off_iff {ns ms : List Int} {g : Nat} (h : g + 1 < ns.length) (hl : ns.length = ms.length) (hg : Low ns g ∨ High ms g) : more ns ms = [] ↔ Off ns ms g := by
  rw [more_iff]
  refine ⟨fun a i j hi hj _ => a i j hi hj, fun o i j hi hj => ?_⟩
  by_cases e : i = g + 1
  · subst e
    have a0 := o g j (by omega) hj (by omega)
    have a2 := o (g + 2) j (by omega) hj (by omega)
    have n1 := cnt_at (ns := ns) (g := g) (by omega) (j : Int)
    have n2 : cnt ns (g + 2) (j : Int) = cnt ns (g + 1) (j : Int) + if (j : Int) ≤ ns.getD (g + 1) 0 then 1 else 0 := cnt_at (ns := ns) (g := g + 1) h (j : Int)
    have m1 := cnt_at (ns := ms) (g := g) (by omega) (j : Int)
    have m2 : cnt ms (g + 2) (j : Int) = cnt ms (g + 1) (j : Int) + if (j : Int) ≤ ms.getD (g + 1) 0 then 1 else 0 := cnt_at (ns := ms) (g := g + 1) (by omega) (j : Int)
    rcases hg with hg | hg
    · unfold Low at hg
      split at n1 <;> split at n2 <;> split at m1 <;> split at m2 <;> omega
    · unfold High at hg
      split at n1 <;> split at n2 <;> split at m1 <;> split at m2 <;> omega
  · exact o i j hi hj e
/-- of so many people, its corners alike but at the gap -/
structure Like (ns ms : List Int) (g : Nat) : Prop where
  len : ms.length = ns.length
  row : IsRow ms
  cnt : ∀ (i : Nat) (j : Int), i ≠ g + 1 → cnt ms i j = cnt ns i j
theorem Like.self {ns : List Int} {g : Nat} (r : IsRow ns) : Like ns ns g := ⟨rfl, r, fun _ _ _ => rfl⟩
theorem Like.sw {ns : List Int} {g : Nat} (h : g + 1 < ns.length) (r : IsRow ns) : Like ns (swL ns g) g := ⟨sw_len h, sw_row h r, fun _ j hi => sw_cnt h j hi⟩
theorem Like.off {ns ms ns' ms' : List Int} {g : Nat} (a : Like ns ns' g) (b : Like ms ms' g) : Off ns' ms' g ↔ Off ns ms g := by
  unfold Off
  rw [a.len]
  constructor
  · intro h i j hi hj e
    have := h i j hi hj e
    rwa [a.cnt i j e, b.cnt i j e] at this
  · intro h i j hi hj e
    rw [a.cnt i j e, b.cnt i j e]; exact h i j hi hj e
theorem Like.bel {ns ms ns' ms' : List Int} {g : Nat} (a : Like ns ns' g) (b : Like ms ms' g) (h : g + 1 < ns.length) (hl : ns.length = ms.length) (hg : Low ns' g ∨ High ms' g) : decide (more ns' ms' = []) = true ↔ Off ns ms g := by
  rw [decide_eq_true_iff, off_iff (by rw [a.len]; exact h) (by rw [a.len, b.len, hl]) hg, a.off b]
theorem bel_off {ns ms : List Int} {g : Nat} (h : more ns ms = []) : Off ns ms g := fun i j hi hj _ => more_iff.mp h i j hi hj
end MM
namespace MM
open PySem PySem.Spec PyProof.Rows L2 GxR
/-! ### books, goings, the rows of a going -/
def BookOk (m : Nat) (gs : List Int) : Prop := ∀ x ∈ gs, 0 ≤ x ∧ x + 2 ≤ m
def row0 (n : Nat) : List Int := (List.range n).map Int.ofNat
theorem row0_len (n : Nat) : (row0 n).length = n := by unfold row0; rw [List.length_map, List.length_range]
theorem row0_row {n : Nat} (h1 : 1 ≤ n) (h9 : n ≤ 9) : IsRow (row0 n) := ⟨by rw [row0_len]; exact h1, by rw [row0_len]; exact h9, by rw [row0_len]; exact List.Perm.refl _⟩
def rowAt (r : List Int) (gs : List Int) (cs : List Bool) : Nat → List Int
  | 0 => r
  | k + 1 => if cs.getD k false = true then swL (rowAt r gs cs k) (gs.getD k 0).toNat else rowAt r gs cs k
theorem book_at {m : Nat} {gs : List Int} (hb : BookOk m gs) {k : Nat} (hk : k < gs.length) : ∃ g : Nat, gs.getD k 0 = (g : Int) ∧ g + 1 < m := by
  have hg := hb (gs.getD k 0) (by rw [List.getD_eq_getElem?_getD, List.getElem?_eq_getElem hk]; exact List.getElem_mem _)
  exact ⟨(gs.getD k 0).toNat, by omega, by omega⟩
/-- rows in a list: the first n of them -/
structure RowsTo (K : PySem.W.Frag) (H : Hp) (r gs : List Int) (cs : List Bool) (n : Nat) (ts : List Addr) : Prop where
  len : ts.length = n
  at_ : ∀ k t, ts[k]? = some t → SqT K H t ((rowAt r gs cs k).map V.int)
theorem RowsTo.ex {K : PySem.W.Frag} {B : Addr → Prop} {H H' : Hp} {r gs : List Int} {cs : List Bool} {n : Nat} {ts : List Addr} (h : RowsTo K H r gs cs n ts) (e : ExB B H H') : RowsTo K H' r gs cs n ts := ⟨h.len, fun k t a => e.sqt (h.at_ k t a)⟩
theorem RowsTo.push {K : PySem.W.Frag} {H : Hp} {r gs : List Int} {cs : List Bool} {n : Nat} {ts : List Addr} {t : Addr} (h : RowsTo K H r gs cs n ts) (q : SqT K H t ((rowAt r gs cs n).map V.int)) : RowsTo K H r gs cs (n + 1) (ts ++ [t]) := by
  refine ⟨by rw [List.length_append, h.len]; rfl, fun k u hk => ?_⟩
  by_cases hkn : k < ts.length
  · rw [List.getElem?_append_left hkn] at hk; exact h.at_ k u hk
  · rw [List.getElem?_append_right (by omega)] at hk
    have hk0 : k = ts.length := by
      have := (List.getElem?_eq_some_iff.mp hk).1; simp at this; omega
    subst hk0
    simp at hk; subst hk
    rw [h.len]; exact q
def rowsD (r gs : List Int) (cs : List Bool) (n : Nat) : List PyData := (List.range n).map fun k => .tuple ((rowAt r gs cs k).map PyData.int)
theorem RowsTo.dp {K : PySem.W.Frag} {H : Hp} {r gs : List Int} {cs : List Bool} {n : Nat} {ts : List Addr} {a : Addr} (h : RowsTo K H r gs cs n ts) (ha : H a = some (.lst (ts.map V.ref))) : Dp K H (.ref a) (.list (rowsD r gs cs n)) := by
  refine .lst (SqL.of ha) (dpAll_of (by unfold rowsD; rw [List.length_map, List.length_map, List.length_range, h.len]) fun k v d h1 h2 => ?_)
  rw [List.getElem?_map] at h1
  unfold rowsD at h2
  rw [List.getElem?_map] at h2
  cases e : ts[k]? with
  | none => rw [e] at h1; cases h1
  | some t =>
    rw [e] at h1
    cases h1
    have hk : k < n := by rw [← h.len]; exact (List.getElem?_eq_some_iff.mp e).1
    rw [List.getElem?_range hk] at h2
    cases h2
    exact dp_row (h.at_ k t e)
theorem nice_row {ns : List Int} (r : IsRow ns) : Nice 1 (9 * (51 + 2) + 3) (.tuple (ns.map PyData.int)) := nice_tuple (nice_ints fun i hi => by have := r.mem hi; have := r.2.1; omega) (by rw [List.length_map]; exact r.2.1)
end MM
namespace MM
open PySem PySem.Spec PyProof.Rows L2 GxR
/-! ### a row and where each one stands -/
def ofF (n : Nat) (a : Nat → Nat) : List Int := (List.range n).map fun i => (a i : Int)
structure IsInv (n : Nat) (a b : Nat → Nat) : Prop where
  ab : ∀ i, i < n → a i < n ∧ b (a i) = i
  ba : ∀ j, j < n → b j < n ∧ a (b j) = j
theorem IsInv.symm {n : Nat} {a b : Nat → Nat} (h : IsInv n a b) : IsInv n b a := ⟨h.ba, h.ab⟩
theorem ofF_len (n : Nat) (a : Nat → Nat) : (ofF n a).length = n := by unfold ofF; rw [List.length_map, List.length_range]
theorem ofF_get {n : Nat} {a : Nat → Nat} {i : Nat} (h : i < n) : (ofF n a)[i]? = some (a i : Int) := by unfold ofF; rw [List.getElem?_map, List.getElem?_range h]; rfl
theorem index_fact {n : Nat} {a b : Nat → Nat} (h : IsInv n a b) {p : Nat} (hp : p < n) : (ofF n a)[b p]? = some (p : Int) ∧ ∀ (m : Nat) z, m < b p → (ofF n a)[m]? = some z → z ≠ (p : Int) := by
  obtain ⟨h1, h2⟩ := h.ba p hp
  refine ⟨by rw [ofF_get h1, h2], fun m z hm hz e => ?_⟩
  have hmn : m < n := Nat.lt_trans hm h1
  rw [ofF_get hmn] at hz
  have e2 : a m = p := by have := Option.some.inj hz; omega
  have := (h.ab m hmn).2
  rw [e2] at this; omega
def trs (g j : Nat) : Nat := if j = g then g + 1 else if j = g + 1 then g else j
theorem trs_trs (g j : Nat) : trs g (trs g j) = j := by
  unfold trs
  by_cases h1 : j = g
  · subst h1; simp
  · rw [if_neg h1]
    by_cases h2 : j = g + 1
    · subst h2; simp
    · rw [if_neg h2, if_neg h1, if_neg h2]
theorem trs_lt {n g j : Nat} (hg : g + 1 < n) (hj : j < n) : trs g j < n := by
  unfold trs
  split
  · exact hg
  · split <;> omega
theorem IsInv.tr {n g : Nat} {a b : Nat → Nat} (h : IsInv n a b) (hg : g + 1 < n) : IsInv n (fun i => a (trs g i)) (fun j => trs g (b j)) :=
  ⟨fun i hi => by
    obtain ⟨h1, h2⟩ := h.ab _ (trs_lt hg hi)
    exact ⟨h1, by show trs g (b (a (trs g i))) = i; rw [h2, trs_trs]⟩, fun j hj => by
    obtain ⟨h1, h2⟩ := h.ba _ hj
    exact ⟨trs_lt hg h1, by show a (trs g (trs g (b j))) = j; rw [trs_trs, h2]⟩⟩
theorem sw_get {ns : List Int} {g : Nat} (h : g + 1 < ns.length) (k : Nat) : (swL ns g)[k]? = ns[trs g k]? := by
  obtain ⟨l, r, a, b, rfl, rfl⟩ := two_at h
  rw [sw_form]
  unfold trs
  by_cases h1 : k = l.length
  · rw [if_pos h1, h1, List.getElem?_append_right (Nat.le_refl _), List.getElem?_append_right (by omega)]; simp
  · rw [if_neg h1]
    by_cases h2 : k = l.length + 1
    · rw [if_pos h2, h2, List.getElem?_append_right (by omega), List.getElem?_append_right (Nat.le_refl _)]; simp
    · rw [if_neg h2]
      by_cases h3 : k < l.length
      · rw [List.getElem?_append_left h3, List.getElem?_append_left h3]
      · obtain ⟨j, rfl⟩ : ∃ j, k = l.length + (j + 2) := ⟨k - l.length - 2, by omega⟩
        rw [List.getElem?_append_right (by omega), List.getElem?_append_right (by omega), show l.length + (j + 2) - l.length = j + 2 by omega]; rfl
theorem sw_ofF {n g : Nat} {a : Nat → Nat} (hg : g + 1 < n) : swL (ofF n a) g = ofF n fun i => a (trs g i) := by
  apply List.ext_getElem?
  intro k
  rw [sw_get (by rw [ofF_len]; exact hg)]
  by_cases hk : k < n
  · rw [ofF_get (trs_lt hg hk), ofF_get hk]
  · have e : trs g k = k := by unfold trs; rw [if_neg (by omega), if_neg (by omega)]
    rw [e, List.getElem?_eq_none (by rw [ofF_len]; omega), List.getElem?_eq_none (by rw [ofF_len]; omega)]
theorem sw_sw {ns : List Int} {g : Nat} (h : g + 1 < ns.length) : swL (swL ns g) g = ns := by
  apply List.ext_getElem?
  intro k
  rw [sw_get (by rw [sw_len h]; exact h), sw_get h, trs_trs]
theorem row0_ofF (n : Nat) : row0 n = ofF n id := rfl
theorem IsRow.nodup {ns : List Int} (r : IsRow ns) : ns.Nodup := by
  refine r.2.2.nodup_iff.mpr ?_
  rw [List.Nodup, List.pairwise_map]
  exact List.nodup_range.imp fun h e => h (Int.ofNat.inj e)
theorem IsRow.inv {ns : List Int} (r : IsRow ns) : ∃ a b, IsInv ns.length a b ∧ ns = ofF ns.length a := by
  have hm : ∀ i (h : i < ns.length), 0 ≤ ns[i] ∧ ns[i] < ns.length := fun i h => r.mem (List.getElem_mem h)
  have hin : ∀ j, j < ns.length → (j : Int) ∈ ns := fun j h => r.2.2.mem_iff.mpr (List.mem_map.mpr ⟨j, List.mem_range.mpr h, rfl⟩)
  have nd := r.nodup
  refine ⟨fun i => (ns.getD i 0).toNat, fun j => ns.idxOf (j : Int), ⟨fun i hi => ?_, fun j hj => ?_⟩, ?_⟩
  · have e : ns.getD i 0 = ns[i] := by rw [List.getD_eq_getElem?_getD, List.getElem?_eq_getElem hi]; rfl
    have := hm i hi
    refine ⟨by show (ns.getD i 0).toNat < ns.length; rw [e]; omega, ?_⟩
    show ns.idxOf (((ns.getD i 0).toNat : Nat) : Int) = i
    rw [e, Int.toNat_of_nonneg this.1]
    exact nd.idxOf_getElem i hi
  · have hlt : ns.idxOf (j : Int) < ns.length := List.idxOf_lt_length_of_mem (hin j hj)
    refine ⟨hlt, ?_⟩
    show (ns.getD (ns.idxOf (j : Int)) 0).toNat = j
    rw [List.getD_eq_getElem?_getD, List.getElem?_eq_getElem hlt, List.getElem_idxOf hlt]; rfl
  · apply List.ext_getElem?
    intro k
    by_cases hk : k < ns.length
    · rw [ofF_get hk, List.getElem?_eq_getElem hk]
      have := hm k hk
      show some ns[k] = some (((ns.getD k 0).toNat : Nat) : Int)
      rw [List.getD_eq_getElem?_getD, List.getElem?_eq_getElem hk]
      show some ns[k] = some ((ns[k].toNat : Nat) : Int)
      rw [Int.toNat_of_nonneg this.1]
    · rw [List.getElem?_eq_none (by omega), List.getElem?_eq_none (by rw [ofF_len]; omega)]
end MM
namespace MM
open PySem PySem.Spec PyProof.Rows L2 GxR
/-! ### the row of always changing -/
def upS (r : List Int) (g : Nat) : List Int := if r.getD g 0 < r.getD (g + 1) 0 then swL r g else r
theorem up_ok {m g : Nat} {r : List Int} (h : g + 1 < m) (hl : r.length = m) (hr : IsRow r) : IsRow (upS r g) ∧ (upS r g).length = m ∧ High (upS r g) g ∧ Like r (upS r g) g := by
  have hg : g + 1 < r.length := by omega
  unfold upS
  by_cases c : r.getD g 0 < r.getD (g + 1) 0
  · rw [if_pos c]
    exact ⟨sw_row hg hr, by rw [sw_len hg, hl], by unfold High; rw [(sw_g hg).1, (sw_g hg).2]; exact Int.le_of_lt c, Like.sw hg hr⟩
  · rw [if_neg c]
    exact ⟨hr, hl, by unfold High; omega, Like.self hr⟩
def farAt (r gs : List Int) : Nat → List Int
  | 0 => r
  | k + 1 => upS (farAt r gs k) (gs.getD k 0).toNat
theorem farAt_ok {m : Nat} {r gs : List Int} (hr : IsRow r) (hl : r.length = m) (hb : BookOk m gs) : ∀ k, k ≤ gs.length → IsRow (farAt r gs k) ∧ (farAt r gs k).length = m
  | 0, _ => ⟨hr, hl⟩
  | k + 1, hk => by
    obtain ⟨a, b⟩ := farAt_ok hr hl hb k (by omega)
    obtain ⟨g, e, hg⟩ := book_at hb (k := k) (by omega)
    have := up_ok hg b a
    unfold farAt
    rw [e, Int.toNat_natCast]
    exact ⟨this.1, this.2.1⟩
theorem more_self (a : List Int) : more a a = [] := more_iff.mpr fun _ _ _ _ => Nat.le_refl _
/-! ### data alike -/
inductive Da (K : PySem.W.Frag) (H : Hp) : Nat → V → V → Prop
  | int {n : Nat} (i : Int) : Da K H n (.int i) (.int i)
  | bl {n : Nat} (c : Bool) : Da K H n (.bl c) (.bl c)
  | lst {n : Nat} {a b : Addr} {xs ys : List V} (ha : H a = some (.lst xs)) (hb : H b = some (.lst ys)) (hl : xs.length = ys.length) (h : ∀ (k : Nat) (x y : V), xs[k]? = some x → ys[k]? = some y → Da K H n x y) (hz : xs.length ≤ 1000) : Da K H (n + 1) (.ref a) (.ref b)
  | tup {n : Nat} {a b : Addr} {xs ys : List V} (ha : SqT K H a xs) (hb : SqT K H b ys) (hl : xs.length = ys.length) (h : ∀ (k : Nat) (x y : V), xs[k]? = some x → ys[k]? = some y → Da K H n x y) (hz : xs.length ≤ 1000) : Da K H (n + 1) (.ref a) (.ref b)
theorem Da.ex {K : PySem.W.Frag} {H H' : Hp} (e : Ex H H') : ∀ {n : Nat} {x y : V}, Da K H n x y → Da K H' n x y := fun {n x y} h => by
  induction h with
  | int i => exact .int i
  | bl c => exact .bl c
  | lst ha hb hl _ hz ih => exact .lst (Ex.lst e ha) (Ex.lst e hb) hl ih hz
  | tup ha hb hl _ hz ih => exact .tup (e.sqt ha) (e.sqt hb) hl ih hz
/-! ### turned pairs -/
def prs (ns : List Int) : Nat → Nat
  | 0 => 0
  | k + 1 => prs ns k + cnt ns k (ns.getD k 0 + 1)
def pairsN (ns : List Int) : Nat := prs ns ns.length
theorem prs_sw {ns : List Int} {g : Nat} (h : g + 1 < ns.length) (hx : ns.getD g 0 < ns.getD (g + 1) 0) : ∀ k, (k ≤ g → prs (swL ns g) k = prs ns k) ∧ (g + 2 ≤ k → k ≤ ns.length → prs (swL ns g) k = prs ns k + 1)
  | 0 => ⟨fun _ => rfl, fun h => absurd h (by omega)⟩
  | k + 1 => by
    obtain ⟨i1, i2⟩ := prs_sw h hx k
    have same : k ≠ g → k ≠ g + 1 → (swL ns g).getD k 0 = ns.getD k 0 := fun a b => by
      rw [List.getD_eq_getElem?_getD, List.getD_eq_getElem?_getD, sw_get h, show trs g k = k by unfold trs; rw [if_neg a, if_neg b]]
    refine ⟨fun hk => ?_, fun hk hl => ?_⟩
    · show prs (swL ns g) k + cnt (swL ns g) k ((swL ns g).getD k 0 + 1) = prs ns k + cnt ns k (ns.getD k 0 + 1)
      rw [i1 (by omega), same (by omega) (by omega), sw_cnt h _ (by omega)]
    · by_cases e : k = g + 1
      · subst e
        obtain ⟨j1, _⟩ := prs_sw h hx g
        show (prs (swL ns g) g + cnt (swL ns g) g ((swL ns g).getD g 0 + 1)) + cnt (swL ns g) (g + 1) ((swL ns g).getD (g + 1) 0 + 1) = (prs ns g + cnt ns g (ns.getD g 0 + 1)) + cnt ns (g + 1) (ns.getD (g + 1) 0 + 1) + 1
        have c1 := cnt_at (ns := ns) (g := g) (by omega) (ns.getD (g + 1) 0 + 1)
        have c2 := cnt_at (ns := swL ns g) (g := g) (by rw [sw_len h]; omega) (ns.getD g 0 + 1)
        rw [(sw_g h).1, sw_cnt (i := g) h _ (by omega), if_pos (by omega)] at c2
        rw [if_neg (by omega)] at c1
        rw [j1 (Nat.le_refl _), (sw_g h).1, (sw_g h).2, sw_cnt (i := g) h _ (by omega), c1, c2]
        omega
      · show prs (swL ns g) k + cnt (swL ns g) k ((swL ns g).getD k 0 + 1) = prs ns k + cnt ns k (ns.getD k 0 + 1) + 1
        rw [i2 (by omega) (by omega), same (by omega) e, sw_cnt h _ (by omega)]
        omega
theorem pairs_sw {ns : List Int} {g : Nat} (h : g + 1 < ns.length) (hx : ns.getD g 0 < ns.getD (g + 1) 0) : pairsN (swL ns g) = pairsN ns + 1 := by
  unfold pairsN
  rw [sw_len h]
  exact (prs_sw h hx ns.length).2 (by omega) (Nat.le_refl _)
end MM
namespace MM
open PySem PySem.Spec PyProof.Rows L2 GxR
/-! ### meetings left out, kept -/
def farRow (m : Nat) (gs : List Int) : List Int := farAt (row0 m) gs gs.length
theorem farAt_pre {r xs ys : List Int} : ∀ k, k ≤ xs.length → farAt r (xs ++ ys) k = farAt r xs k
  | 0, _ => rfl
  | k + 1, h => by
    have e : (xs ++ ys).getD k 0 = xs.getD k 0 := by rw [List.getD_eq_getElem?_getD, List.getD_eq_getElem?_getD, List.getElem?_append_left (by omega)]
    show upS (farAt r (xs ++ ys) k) ((xs ++ ys).getD k 0).toNat = upS (farAt r xs k) (xs.getD k 0).toNat
    rw [farAt_pre k (by omega), e]
theorem farRow_snoc {m : Nat} {xs : List Int} {g : Nat} : farRow m (xs ++ [(g : Int)]) = upS (farRow m xs) g := by
  unfold farRow
  rw [List.length_append]
  show upS (farAt (row0 m) (xs ++ [(g : Int)]) xs.length) ((xs ++ [(g : Int)]).getD xs.length 0).toNat = _
  have e : (xs ++ [(g : Int)]).getD xs.length 0 = (g : Int) := by rw [List.getD_eq_getElem?_getD, List.getElem?_append_right (Nat.le_refl _)]; simp
  rw [e, farAt_pre _ (Nat.le_refl _), Int.toNat_natCast]
theorem up_ne {r : List Int} {g : Nat} (h : g + 1 < r.length) : upS r g = r ↔ ¬ r.getD g 0 < r.getD (g + 1) 0 := by
  unfold upS
  constructor
  · intro e c
    rw [if_pos c] at e
    have := (sw_g h).1
    rw [e] at this; omega
  · intro c; rw [if_neg c]
def keptAt (m : Nat) (gs : List Int) : Nat → List Int
  | 0 => []
  | k + 1 => if (farAt (row0 m) gs k).getD (gs.getD k 0).toNat 0 < (farAt (row0 m) gs k).getD ((gs.getD k 0).toNat + 1) 0 then keptAt m gs k ++ [gs.getD k 0] else keptAt m gs k
theorem cnt_row0 {m k : Nat} (hk : k ≤ m) : cnt (row0 m) k ((k : Int)) = 0 := by
  unfold cnt
  rw [List.length_eq_zero_iff, List.filter_eq_nil_iff]
  intro x hx
  have : x ∈ (List.range k).map Int.ofNat := by
    have e : (row0 m).take k = (List.range k).map Int.ofNat := by unfold row0; rw [← List.map_take, List.take_range, Nat.min_eq_left hk]
    rw [← e]; exact hx
  obtain ⟨j, hj, rfl⟩ := List.mem_map.mp this
  have := List.mem_range.mp hj
  show ¬ decide ((k : Int) ≤ (j : Int)) = true
  rw [decide_eq_true_iff]; omega
theorem cnt_mono {ns : List Int} {i : Nat} {j j' : Int} (h : j ≤ j') : cnt ns i j' ≤ cnt ns i j := by
  unfold cnt
  rw [← List.countP_eq_length_filter, ← List.countP_eq_length_filter]
  exact List.countP_mono_left fun x _ hx => by
    rw [decide_eq_true_iff] at hx ⊢; omega
theorem pairs_row0 (m : Nat) : ∀ k, k ≤ m → prs (row0 m) k = 0
  | 0, _ => rfl
  | k + 1, h => by
    show prs (row0 m) k + cnt (row0 m) k ((row0 m).getD k 0 + 1) = 0
    have e : (row0 m).getD k 0 = (k : Int) := by
      rw [List.getD_eq_getElem?_getD, row0_ofF, ofF_get (by omega)]; rfl
    have h0 := cnt_row0 (m := m) (k := k) (by omega)
    have h1 := cnt_mono (ns := row0 m) (i := k) (show (k : Int) ≤ (k : Int) + 1 by omega)
    rw [pairs_row0 m k (by omega), e]; omega
theorem kept_ok {m : Nat} {gs : List Int} (h1 : 1 ≤ m) (h9 : m ≤ 9) (hb : BookOk m gs) : ∀ k, k ≤ gs.length → (∀ x ∈ keptAt m gs k, x ∈ gs) ∧ farRow m (keptAt m gs k) = farAt (row0 m) gs k ∧ (keptAt m gs k).length ≤ k ∧ (keptAt m gs k).length = pairsN (farAt (row0 m) gs k)
  | 0, _ => ⟨(fun _ h => nomatch h), rfl, Nat.le_refl _, by
    show 0 = pairsN (row0 m)
    unfold pairsN; rw [row0_len, pairs_row0 m m (Nat.le_refl _)]⟩
  | k + 1, hk => by
    obtain ⟨i1, i2, i3, i4⟩ := kept_ok h1 h9 hb k (by omega)
    obtain ⟨g, e, hg⟩ := book_at hb (k := k) (by omega)
    obtain ⟨hr, hl⟩ := farAt_ok (row0_row h1 h9) (row0_len m) hb k (by omega)
    have hgr : g + 1 < (farAt (row0 m) gs k).length := by rw [hl]; exact hg
    have ev : farAt (row0 m) gs (k + 1) = upS (farAt (row0 m) gs k) g := by show upS (farAt (row0 m) gs k) (gs.getD k 0).toNat = _; rw [e, Int.toNat_natCast]
    unfold keptAt
    rw [ev, e, Int.toNat_natCast]
    by_cases c : (farAt (row0 m) gs k).getD g 0 < (farAt (row0 m) gs k).getD (g + 1) 0
    · rw [if_pos c]
      refine ⟨fun x hx => ?_, by rw [farRow_snoc, i2], by rw [List.length_append]; show _ + 1 ≤ k + 1; omega, ?_⟩
      · rcases List.mem_append.mp hx with z | z
        · exact i1 x z
        · rw [List.mem_singleton.mp z, ← e, List.getD_eq_getElem?_getD, List.getElem?_eq_getElem (by omega : k < gs.length)]; exact List.getElem_mem _
      · rw [List.length_append, i4]
        unfold upS
        rw [if_pos c, pairs_sw hgr c]; rfl
    · rw [if_neg c]
      have eu : upS (farAt (row0 m) gs k) g = farAt (row0 m) gs k := (up_ne hgr).mpr c
      rw [eu]
      exact ⟨i1, i2, by omega, i4⟩
end MM
namespace MM
open PySem PySem.Spec PyProof.Rows L2 GxR
/-! ### the rows that come by some going are those below the row of always changing -/
def Come (m : Nat) (gs : List Int) : Nat → List Int → Prop
  | 0, x => x = row0 m
  | k + 1, x => Come m gs k x ∨ ∃ y, IsRow y ∧ y.length = m ∧ Come m gs k y ∧ x = swL y (gs.getD k 0).toNat
theorem least_row {m : Nat} {x : List Int} (hr : IsRow x) (hl : x.length = m) (h : more x (row0 m) = []) : x = row0 m := by
  have hm := more_iff.mp h
  have small : ∀ i, i < m → x.getD i 0 ≤ i ∧ 0 ≤ x.getD i 0 := fun i hi => by
    have h1 := hm (i + 1) (i + 1) (by omega) (by omega)
    have h2 := cnt_row0 (m := m) (k := i + 1) (by omega)
    have h3 := cnt_at (ns := x) (g := i) (by omega) (((i + 1 : Nat) : Nat) : Int)
    have hx : x.getD i 0 ∈ x := by rw [List.getD_eq_getElem?_getD, List.getElem?_eq_getElem (by omega : i < x.length)]; exact List.getElem_mem _
    have := hr.mem hx
    refine ⟨?_, this.1⟩
    rw [h2] at h1
    by_cases c : (((i + 1 : Nat) : Nat) : Int) ≤ x.getD i 0
    · rw [if_pos c] at h3; omega
    · omega
  have nd := hr.nodup
  have key : ∀ i, i < m → x.getD i 0 = (i : Int) := by
    intro i
    induction i using Nat.strongRecOn with
    | ind i ih =>
      intro hi
      obtain ⟨h1, h2⟩ := small i hi
      by_cases e : x.getD i 0 = (i : Int)
      · exact e
      · obtain ⟨j, hj⟩ : ∃ j : Nat, x.getD i 0 = (j : Int) := ⟨(x.getD i 0).toNat, by omega⟩
        have hji : j < i := by omega
        have := ih j hji (by omega)
        have hxi : i < x.length := by omega
        have hxj : j < x.length := by omega
        have e2 : x[i] = x[j] := by
          have a1 : x.getD i 0 = x[i] := by rw [List.getD_eq_getElem?_getD, List.getElem?_eq_getElem hxi]; rfl
          have a2 : x.getD j 0 = x[j] := by rw [List.getD_eq_getElem?_getD, List.getElem?_eq_getElem hxj]; rfl
          rw [← a1, ← a2, hj, this]
        have e3 : i = j := nd_ix nd (by rw [List.getElem?_eq_getElem hxi]) (by rw [List.getElem?_eq_getElem hxj, e2])
        omega
  apply List.ext_getElem?
  intro k
  by_cases hk : k < m
  · rw [getD_some (ns := x) (by omega), key k hk, row0_ofF, ofF_get hk]; rfl
  · rw [List.getElem?_eq_none (by omega), List.getElem?_eq_none (by rw [row0_len]; omega)]
theorem come_iff {m : Nat} {gs : List Int} (h1 : 1 ≤ m) (h9 : m ≤ 9) (hb : BookOk m gs) : ∀ k, k ≤ gs.length → ∀ x, IsRow x → x.length = m → (Come m gs k x ↔ more x (farAt (row0 m) gs k) = [])
  | 0, _, x, hr, hl => ⟨fun h => by rw [show x = row0 m from h]; exact more_self _, fun h => least_row hr hl h⟩
  | k + 1, hk, x, hr, hl => by
    have ih := come_iff h1 h9 hb k (by omega)
    obtain ⟨g, e, hg⟩ := book_at hb (k := k) (by omega)
    obtain ⟨hri, hrl⟩ := farAt_ok (row0_row h1 h9) (row0_len m) hb k (by omega)
    have hgx : g + 1 < x.length := by rw [hl]; exact hg
    obtain ⟨u1, u2, u3, u4⟩ := up_ok hg hrl hri
    have ev : farAt (row0 m) gs (k + 1) = upS (farAt (row0 m) gs k) g := by show upS (farAt (row0 m) gs k) (gs.getD k 0).toNat = _; rw [e, Int.toNat_natCast]
    have hlen : x.length = (farAt (row0 m) gs k).length := by rw [hl, hrl]
    have goal : more x (upS (farAt (row0 m) gs k) g) = [] ↔ Off x (farAt (row0 m) gs k) g := by
      have := (Like.self hr).bel u4 hgx hlen (.inr u3)
      rw [decide_eq_true_iff] at this; exact this
    have rs := sw_row hgx hr
    have ls : (swL x g).length = m := by rw [sw_len hgx, hl]
    have step : Come m gs (k + 1) x ↔ Come m gs k x ∨ Come m gs k (swL x g) := by
      show (Come m gs k x ∨ ∃ y, IsRow y ∧ y.length = m ∧ Come m gs k y ∧ x = swL y (gs.getD k 0).toNat) ↔ _
      rw [e, Int.toNat_natCast]
      constructor
      · rintro (h | ⟨y, _, hyl, hy, rfl⟩)
        · exact .inl h
        · have hgy : g + 1 < y.length := by rw [hyl]; exact hg
          exact .inr (by rw [sw_sw hgy]; exact hy)
      · rintro (h | h)
        · exact .inl h
        · exact .inr ⟨_, rs, ls, h, (sw_sw hgx).symm⟩
    rw [step, ev, goal, ih x hr hl, ih _ rs ls]
    constructor
    · rintro (h | h)
      · exact bel_off h
      · exact ((Like.sw hgx hr).off (Like.self hri)).mp (bel_off h)
    · intro o
      rcases Int.le_total (x.getD g 0) (x.getD (g + 1) 0) with c | c
      · exact .inl ((off_iff hgx hlen (.inl c)).mpr o)
      · refine .inr ((off_iff (by rw [sw_len hgx]; exact hgx) (by rw [sw_len hgx]; exact hlen) (.inl ?_)).mpr (((Like.sw hgx hr).off (Like.self hri)).mpr o))
        unfold Low
        rw [(sw_g hgx).1, (sw_g hgx).2]; exact c
end MM
namespace MM
open PySem PySem.Spec PyProof.Rows L2 GxR
/-! ### rows as keys -/
theorem nodup_lt : ∀ (N : Nat) (l : List Nat), l.Nodup → (∀ x ∈ l, x < N) → l.length ≤ N
  | 0, [], _, _ => Nat.le_refl _
  | 0, x :: _, _, h => absurd (h x List.mem_cons_self) (Nat.not_lt_zero _)
  | N + 1, l, hn, h => by
    by_cases hN : N ∈ l
    · have h1 := nodup_lt N (l.erase N) (hn.erase N) (fun x hx => by
        have h2 := (hn.mem_erase_iff).mp hx
        have := h x h2.2
        have := h2.1
        omega)
      rw [List.length_erase_of_mem hN] at h1
      omega
    · have h1 := nodup_lt N l hn (fun x hx => by
        have := h x hx
        have : x ≠ N := fun z => hN (z ▸ hx)
        omega)
      omega
theorem perm_lt : ∀ (N : Nat) (l : List Nat), l.Nodup → (∀ x ∈ l, x < N) → l.length = N → l.Perm (List.range N)
  | 0, l, _, _, h => by rw [List.length_eq_zero_iff.mp h]; exact List.Perm.refl _
  | N + 1, l, hn, h, hl => by
    have hN : N ∈ l := by
      by_cases hN : N ∈ l
      · exact hN
      · have := nodup_lt N l hn (fun x hx => by
          have := h x hx
          have : x ≠ N := fun z => hN (z ▸ hx)
          omega)
        omega
    have h1 := perm_lt N (l.erase N) (hn.erase N) (fun x hx => by
      have h2 := (hn.mem_erase_iff).mp hx
      have := h x h2.2
      have := h2.1
      omega) (by rw [List.length_erase_of_mem hN]; omega)
    rw [List.range_succ]
    exact (List.perm_cons_erase hN).trans ((h1.cons N).trans (List.perm_append_singleton N (List.range N)).symm)
theorem toNat_nodup : ∀ {ns : List Int}, ns.Nodup → (∀ x ∈ ns, 0 ≤ x) → (ns.map Int.toNat).Nodup
  | [], _, _ => List.nodup_nil
  | x :: ns, h, h0 => by
    rw [List.nodup_cons] at h
    rw [List.map_cons, List.nodup_cons]
    refine ⟨fun z => ?_, toNat_nodup h.2 fun y hy => h0 y (List.mem_cons_of_mem _ hy)⟩
    obtain ⟨y, hy, e⟩ := List.mem_map.mp z
    have h1 := h0 x List.mem_cons_self
    have h2 := h0 y (List.mem_cons_of_mem _ hy)
    have : y = x := by omega
    exact h.1 (this ▸ hy)
theorem row_nodup {ns : List Int} {m : Nat} (h1 : 1 ≤ m) (h9 : m ≤ 9) (hn : ns.Nodup) (hb : ∀ x ∈ ns, 0 ≤ x ∧ x < (m : Int)) (hl : ns.length = m) : IsRow ns := by
  refine ⟨by omega, by omega, ?_⟩
  have h := perm_lt m (ns.map Int.toNat) (toNat_nodup hn fun x hx => (hb x hx).1) (fun x hx => by
    obtain ⟨y, hy, rfl⟩ := List.mem_map.mp hx
    have := hb y hy
    omega) (by rw [List.length_map, hl])
  have h2 := h.map Int.ofNat
  rw [List.map_map] at h2
  have e : ns.map (Int.ofNat ∘ Int.toNat) = ns := by
    conv => rhs; rw [← List.map_id ns]
    refine List.map_congr_left fun x hx => ?_
    have := hb x hx
    show Int.ofNat x.toNat = x
    rw [Int.ofNat_eq_natCast]; omega
  rw [e] at h2
  rw [hl]
  exact h2
/-- a row's number -/
def numR : List Int → Nat
  | [] => 0
  | x :: ns => x.toNat + 9 * numR ns
theorem numR_lt : ∀ {ns : List Int}, (∀ x ∈ ns, 0 ≤ x ∧ x < 9) → numR ns < 9 ^ ns.length
  | [], _ => by decide
  | x :: ns, h => by
    have h1 := numR_lt (ns := ns) fun y hy => h y (List.mem_cons_of_mem _ hy)
    have h2 := h x List.mem_cons_self
    rw [List.length_cons, Nat.pow_succ]
    show x.toNat + 9 * numR ns < _
    omega
theorem numR_inj : ∀ {ns ms : List Int}, (∀ x ∈ ns, 0 ≤ x ∧ x < 9) → (∀ x ∈ ms, 0 ≤ x ∧ x < 9) → ns.length = ms.length → numR ns = numR ms → ns = ms
  | [], [], _, _, _, _ => rfl
  | x :: ns, y :: ms, h, h', hl, e => by
    have h1 := h x List.mem_cons_self
    have h2 := h' y List.mem_cons_self
    have e' : x.toNat + 9 * numR ns = y.toNat + 9 * numR ms := e
    have e1 : x = y := by omega
    have e2 : numR ns = numR ms := by omega
    rw [e1, numR_inj (fun z hz => h z (List.mem_cons_of_mem _ hz)) (fun z hz => h' z (List.mem_cons_of_mem _ hz)) (by simpa using hl) e2]
abbrev rk (ns : List Int) : List Key := ns.map Sum.inl
theorem rk_kV (ns : List Int) : (rk ns).map kV = ns.map V.int := by
  unfold rk; rw [List.map_map]; rfl
theorem rk_inj : ∀ {a b : List Int}, rk a = rk b → a = b
  | [], [], _ => rfl
  | x :: a, y :: b, h => by
    unfold rk at h
    rw [List.map_cons, List.map_cons] at h
    injection h with h1 h2
    injection h1 with h1
    rw [h1, rk_inj h2]
structure RowsK (m : Nat) (S : List Int → Prop) (kvs : List (List Key × V)) : Prop where
  nd : (kvs.map (·.1)).Nodup
  all : ∀ p ∈ kvs, ∃ ns, p.1 = rk ns ∧ IsRow ns ∧ ns.length = m
  isk : ∀ ns, (valV kvs (rk ns)).isSome = true ↔ S ns
theorem RowsK.le {m : Nat} {S : List Int → Prop} {kvs : List (List Key × V)} (h : RowsK m S kvs) (h6 : m ≤ 6) : kvs.length ≤ 531441 := by
  have key : ∀ k ∈ kvs.map (·.1), ∃ ns, k = rk ns ∧ IsRow ns ∧ ns.length = m := fun k hk => by
    obtain ⟨p, hp, rfl⟩ := List.mem_map.mp hk; exact h.all p hp
  have dig : ∀ {ns : List Int}, IsRow ns → ∀ x ∈ ns, 0 ≤ x ∧ x < 9 := fun hR x hx => by have := hR.mem hx; have := hR.2.1; omega
  have go : ∀ l : List (List Key), l.Nodup → (∀ k ∈ l, ∃ ns, k = rk ns ∧ IsRow ns ∧ ns.length = m) → ∃ L : List Nat, L.length = l.length ∧ L.Nodup ∧ (∀ z ∈ L, z < 9 ^ m) ∧ ∀ z ∈ L, ∃ ns, rk ns ∈ l ∧ IsRow ns ∧ ns.length = m ∧ z = numR ns := by
    intro l
    induction l with
    | nil => exact fun _ _ => ⟨[], rfl, List.nodup_nil, (fun _ h => nomatch h), (fun _ h => nomatch h)⟩
    | cons k l ih =>
      intro hn hk
      rw [List.nodup_cons] at hn
      obtain ⟨L, a, b, c, d⟩ := ih hn.2 fun k' hk' => hk k' (List.mem_cons_of_mem _ hk')
      obtain ⟨ns, rfl, hR, hl⟩ := hk k List.mem_cons_self
      refine ⟨numR ns :: L, by rw [List.length_cons, List.length_cons, a], ?_, ?_, ?_⟩
      · rw [List.nodup_cons]
        refine ⟨fun z => ?_, b⟩
        obtain ⟨ms, h1, h2, h3, h4⟩ := d _ z
        have := numR_inj (dig hR) (dig h2) (by rw [hl, h3]) h4
        exact hn.1 (this ▸ h1)
      · intro z hz
        rcases List.mem_cons.mp hz with e | hz
        · rw [e, ← hl]; exact numR_lt (dig hR)
        · exact c z hz
      · intro z hz
        rcases List.mem_cons.mp hz with e | hz
        · exact ⟨ns, List.mem_cons_self, hR, hl, e⟩
        · obtain ⟨ms, h1, h2⟩ := d z hz
          exact ⟨ms, List.mem_cons_of_mem _ h1, h2⟩
  obtain ⟨L, a, b, c, _⟩ := go _ h.nd key
  have h1 := nodup_lt _ L b c
  rw [List.length_map] at a
  have h2 : 9 ^ m ≤ 9 ^ 6 := Nat.pow_le_pow_right (by decide) h6
  have h3 : (9 : Nat) ^ 6 = 531441 := by decide
  omega
theorem putK_keys {kvs : List (List Key × V)} {k : List Key} {v : V} : (putK kvs k v).map (·.1) = if (valV kvs k).isSome = true then kvs.map (·.1) else kvs.map (·.1) ++ [k] := by
  unfold putK
  rw [valV_any]
  by_cases h : (valV kvs k).isSome = true
  · rw [if_pos h, if_pos h, List.map_map]
    refine List.map_congr_left fun p _ => ?_
    show (if p.1 = k then (p.1, v) else p).1 = p.1
    split <;> rfl
  · rw [if_neg h, if_neg h, List.map_append]; rfl
theorem valV_mem {kvs : List (List Key × V)} {k : List Key} : (valV kvs k).isSome = true ↔ k ∈ kvs.map (·.1) := by
  rw [← valV_any, List.any_eq_true]
  constructor
  · rintro ⟨p, hp, e⟩; exact List.mem_map.mpr ⟨p, hp, of_decide_eq_true e⟩
  · intro h; obtain ⟨p, hp, e⟩ := List.mem_map.mp h; exact ⟨p, hp, decide_eq_true e⟩
theorem RowsK.put {m : Nat} {S : List Int → Prop} {kvs : List (List Key × V)} (h : RowsK m S kvs) {ns : List Int} (hR : IsRow ns) (hl : ns.length = m) (v : V) : RowsK m (fun x => S x ∨ x = ns) (putK kvs (rk ns) v) := by
  refine ⟨?_, fun p hp => ?_, fun x => ?_⟩
  · rw [putK_keys]
    by_cases e : (valV kvs (rk ns)).isSome = true
    · rw [if_pos e]; exact h.nd
    · rw [if_neg e]
      rw [List.nodup_append]
      refine ⟨h.nd, (by simp), fun a ha b hb z => ?_⟩
      rw [List.mem_singleton.mp hb] at z
      exact e (valV_mem.mpr (z ▸ ha))
  · have : p.1 ∈ (putK kvs (rk ns) v).map (·.1) := List.mem_map.mpr ⟨p, hp, rfl⟩
    rw [putK_keys] at this
    have key : ∀ k ∈ kvs.map (·.1), ∃ ns, k = rk ns ∧ IsRow ns ∧ ns.length = m := fun k hk => by
      obtain ⟨p, hp, rfl⟩ := List.mem_map.mp hk; exact h.all p hp
    by_cases e : (valV kvs (rk ns)).isSome = true
    · rw [if_pos e] at this; exact key _ this
    · rw [if_neg e] at this
      rcases List.mem_append.mp this with z | z
      · exact key _ z
      · exact ⟨ns, List.mem_singleton.mp z, hR, hl⟩
  · rw [valV_put]
    by_cases e : rk x = rk ns
    · rw [if_pos e]
      exact ⟨fun _ => .inr (rk_inj e), fun _ => rfl⟩
    · rw [if_neg e, h.isk x]
      exact ⟨.inl, fun z => z.resolve_right fun q => e (by rw [q])⟩
theorem RowsK.congr {m : Nat} {S S' : List Int → Prop} {kvs : List (List Key × V)} (h : RowsK m S kvs) (e : ∀ x, S x ↔ S' x) : RowsK m S' kvs := ⟨h.nd, h.all, fun ns => (h.isk ns).trans (e ns)⟩
theorem RowsK.one {ns : List Int} {m : Nat} (hR : IsRow ns) (hl : ns.length = m) (v : V) : RowsK m (fun x => x = ns) (putK [] (rk ns) v) :=
  (RowsK.put (S := fun _ => False) (kvs := []) ⟨List.nodup_nil, (fun _ h => nomatch h), fun x => ⟨fun h => (nomatch h), fun h => h.elim⟩⟩ hR hl v).congr fun x => ⟨fun h => h.resolve_left id, .inr⟩
end MM
namespace MM
open PySem PySem.Spec PyProof.Rows L2 GxR
/-! ### going back from a row, and going on from where its people stand -/
theorem row_ne {x : List Int} {g : Nat} (hr : IsRow x) (hg : g + 1 < x.length) : x.getD g 0 ≠ x.getD (g + 1) 0 := fun e => by
  have h1 := getD_some (ns := x) (g := g) (by omega)
  have h2 := getD_some (ns := x) (g := g + 1) hg
  rw [← e] at h2
  have := nd_ix hr.nodup h1 h2
  omega
def lowS (x : List Int) (g : Nat) : List Int := if x.getD g 0 < x.getD (g + 1) 0 then x else swL x g
theorem low_ok {m g : Nat} {x : List Int} (h : g + 1 < m) (hl : x.length = m) (hr : IsRow x) : IsRow (lowS x g) ∧ (lowS x g).length = m := by
  unfold lowS
  split
  · exact ⟨hr, hl⟩
  · exact ⟨sw_row (by rw [hl]; exact h) hr, by rw [sw_len (by rw [hl]; exact h), hl]⟩
def dnL : List Int → List Int → List Int
  | [], x => x
  | g :: l, x => dnL l (lowS x g.toNat)
theorem dnL_app : ∀ (l l' : List Int) (x : List Int), dnL (l ++ l') x = dnL l' (dnL l x)
  | [], _, _ => rfl
  | g :: l, l', x => dnL_app l l' (lowS x g.toNat)
theorem dnL_succ {gs x : List Int} {i : Nat} (h : i < gs.length) : dnL (gs.take (i + 1)) x = lowS (dnL (gs.take i) x) (gs.getD i 0).toNat := by
  rw [List.take_add_one, getD_some h, dnL_app]; rfl
theorem dnL_ok {m : Nat} : ∀ {gs : List Int} {x : List Int}, BookOk m gs → IsRow x → x.length = m → IsRow (dnL gs x) ∧ (dnL gs x).length = m
  | [], _, _, hr, hl => ⟨hr, hl⟩
  | g :: gs, x, hb, hr, hl => by
    have h := hb g List.mem_cons_self
    obtain ⟨a, b⟩ := low_ok (g := g.toNat) (by omega) hl hr
    show IsRow (dnL gs (lowS x g.toNat)) ∧ (dnL gs (lowS x g.toNat)).length = m
    exact dnL_ok (gs := gs) (fun y hy => hb y (List.mem_cons_of_mem _ hy)) a b
theorem come_low {m : Nat} {gs : List Int} (h1 : 1 ≤ m) (h9 : m ≤ 9) (hb : BookOk m gs) {k : Nat} (hk : k < gs.length) {x : List Int} (hr : IsRow x) (hl : x.length = m) : Come m gs (k + 1) x ↔ Come m gs k (lowS x (gs.getD k 0).toNat) := by
  obtain ⟨g, e, hg⟩ := book_at hb hk
  obtain ⟨hri, hrl⟩ := farAt_ok (row0_row h1 h9) (row0_len m) hb k (by omega)
  have hgx : g + 1 < x.length := by rw [hl]; exact hg
  obtain ⟨u1, u2, u3, u4⟩ := up_ok hg hrl hri
  have ev : farAt (row0 m) gs (k + 1) = upS (farAt (row0 m) gs k) g := by show upS (farAt (row0 m) gs k) (gs.getD k 0).toNat = _; rw [e, Int.toNat_natCast]
  have hlen : x.length = (farAt (row0 m) gs k).length := by rw [hl, hrl]
  have goal : more x (upS (farAt (row0 m) gs k) g) = [] ↔ Off x (farAt (row0 m) gs k) g := by
    have := (Like.self hr).bel u4 hgx hlen (.inr u3)
    rw [decide_eq_true_iff] at this; exact this
  rw [e, Int.toNat_natCast]
  obtain ⟨lr, ll⟩ := low_ok hg hl hr
  rw [come_iff h1 h9 hb (k + 1) hk x hr hl, ev, goal, come_iff h1 h9 hb k (by omega) _ lr ll]
  unfold lowS
  by_cases c : x.getD g 0 < x.getD (g + 1) 0
  · rw [if_pos c]
    exact (off_iff hgx hlen (.inl (Int.le_of_lt c))).symm
  · rw [if_neg c]
    have o := (Like.sw hgx hr).off (Like.self hri)
    rw [← o]
    refine (off_iff (by rw [sw_len hgx]; exact hgx) (by rw [sw_len hgx]; exact hlen) (.inl ?_)).symm
    unfold Low
    rw [(sw_g hgx).1, (sw_g hgx).2]; omega
theorem come_dn {m : Nat} {gs : List Int} (h1 : 1 ≤ m) (h9 : m ≤ 9) (hb : BookOk m gs) : ∀ k, k ≤ gs.length → ∀ {x : List Int}, IsRow x → x.length = m → (Come m gs k x ↔ dnL (gs.take k).reverse x = row0 m)
  | 0, _, _, _, _ => Iff.rfl
  | k + 1, hk, x, hr, hl => by
    obtain ⟨g, e, hg⟩ := book_at hb (k := k) (by omega)
    rw [come_low h1 h9 hb (by omega) hr hl]
    obtain ⟨lr, ll⟩ := low_ok hg hl hr
    rw [e, Int.toNat_natCast, come_dn h1 h9 hb k (by omega) lr ll, List.take_add_one, getD_some (by omega), e, List.reverse_append]
    show _ ↔ dnL ((g : Int) :: (gs.take k).reverse) x = row0 m
    show _ ↔ dnL (gs.take k).reverse (lowS x ((g : Int)).toNat) = row0 m
    rw [Int.toNat_natCast]
theorem come_all {m : Nat} {gs : List Int} (h1 : 1 ≤ m) (h9 : m ≤ 9) (hb : BookOk m gs) {x : List Int} (hr : IsRow x) (hl : x.length = m) : Come m gs gs.length x ↔ dnL gs.reverse x = row0 m := by
  rw [come_dn h1 h9 hb gs.length (Nat.le_refl _) hr hl, List.take_length]
theorem row_ofF {m : Nat} {a b : Nat → Nat} (h1 : 1 ≤ m) (h9 : m ≤ 9) (h : IsInv m a b) : IsRow (ofF m a) := by
  refine row_nodup h1 h9 ?_ (fun x hx => ?_) (ofF_len m a)
  · rw [List.nodup_iff_pairwise_ne, List.pairwise_iff_getElem]
    intro i j hi hj hij e
    have hi' : i < m := by rw [ofF_len] at hi; exact hi
    have hj' : j < m := by rw [ofF_len] at hj; exact hj
    have e1 := ofF_get (a := a) hi'
    have e2 := ofF_get (a := a) hj'
    rw [List.getElem?_eq_getElem hi] at e1
    rw [List.getElem?_eq_getElem hj, ← e, e1] at e2
    have e3 : a i = a j := by have := Option.some.inj e2; omega
    have b1 := (h.ab i hi').2
    have b2 := (h.ab j hj').2
    rw [e3, b2] at b1
    omega
  · unfold ofF at hx
    obtain ⟨i, hi, rfl⟩ := List.mem_map.mp hx
    have := (h.ab i (List.mem_range.mp hi)).1
    omega
/-! ### words -/
def Pw : List Nat → Nat → Nat
  | [], j => j
  | g :: l, j => trs g (Pw l j)
theorem Pw_app : ∀ (l l' : List Nat) (j : Nat), Pw (l ++ l') j = Pw l (Pw l' j)
  | [], _, _ => rfl
  | g :: l, l', j => by show trs g (Pw (l ++ l') j) = trs g (Pw l (Pw l' j)); rw [Pw_app]
theorem Pw_rev : ∀ (l : List Nat) (j : Nat), Pw l.reverse (Pw l j) = j
  | [], _ => rfl
  | g :: l, j => by
    rw [List.reverse_cons, Pw_app]
    show Pw l.reverse (trs g (trs g (Pw l j))) = j
    rw [trs_trs, Pw_rev]
theorem Pw_lt {m : Nat} : ∀ {l : List Nat} {j : Nat}, (∀ g ∈ l, g + 1 < m) → j < m → Pw l j < m
  | [], _, _, h => h
  | g :: l, j, hl, h => trs_lt (hl g List.mem_cons_self) (Pw_lt (fun x hx => hl x (List.mem_cons_of_mem _ hx)) h)
theorem ofF_congr {m : Nat} {a b : Nat → Nat} (h : ∀ j, j < m → a j = b j) : ofF m a = ofF m b := by
  unfold ofF
  exact List.map_congr_left fun j hj => by rw [h j (List.mem_range.mp hj)]
theorem ofF_eq {m : Nat} {a b : Nat → Nat} (h : ofF m a = ofF m b) {j : Nat} (hj : j < m) : a j = b j := by
  have h1 := ofF_get (a := a) hj
  rw [h, ofF_get hj] at h1
  have := Option.some.inj h1
  omega
/-- a book's gaps as numbers -/
abbrev nat (gs : List Int) : List Nat := gs.map Int.toNat
theorem nat_ok {m : Nat} {gs : List Int} (hb : BookOk m gs) : ∀ g ∈ nat gs, g + 1 < m := fun g hg => by
  obtain ⟨x, hx, rfl⟩ := List.mem_map.mp hg
  have := hb x hx; omega
theorem come_word {m : Nat} {gs : List Int} (h1 : 1 ≤ m) (h9 : m ≤ 9) (hb : BookOk m gs) : ∀ k, k ≤ gs.length → ∀ {x : List Int}, Come m gs k x ↔ ∃ l : List Nat, l.Sublist (nat (gs.take k)) ∧ x = ofF m (Pw l)
  | 0, _, x => ⟨fun h => ⟨[], List.Sublist.refl _, h⟩, fun ⟨l, hl, h⟩ => by
      have : l = [] := List.sublist_nil.mp (by simpa using hl)
      rw [this] at h; exact h⟩
  | k + 1, hk, x => by
    obtain ⟨g, e, hg⟩ := book_at hb (k := k) (by omega)
    have et : nat (gs.take (k + 1)) = nat (gs.take k) ++ [g] := by
      unfold nat
      rw [List.take_add_one, getD_some (by omega), e, List.map_append]; rfl
    have sub : ∀ {l : List Nat}, l.Sublist (nat (gs.take k)) → ∀ y ∈ l, y + 1 < m := fun hl y hy => nat_ok hb y (by
      have := hl.subset hy
      obtain ⟨z, hz, ez⟩ := List.mem_map.mp this
      exact List.mem_map.mpr ⟨z, List.mem_of_mem_take hz, ez⟩)
    have ih := fun {x} => come_word h1 h9 hb k (by omega) (x := x)
    have sw : ∀ l : List Nat, swL (ofF m (Pw l)) g = ofF m (Pw (l ++ [g])) := fun l => by
      rw [sw_ofF hg]
      exact ofF_congr fun j _ => (Pw_app l [g] j).symm
    show (Come m gs k x ∨ ∃ y, IsRow y ∧ y.length = m ∧ Come m gs k y ∧ x = swL y (gs.getD k 0).toNat) ↔ _
    rw [e, Int.toNat_natCast, et]
    constructor
    · rintro (h | ⟨y, _, _, hy, rfl⟩)
      · obtain ⟨l, hl, h⟩ := ih.mp h
        exact ⟨l, hl.trans (List.sublist_append_left _ _), h⟩
      · obtain ⟨l, hl, rfl⟩ := ih.mp hy
        exact ⟨l ++ [g], hl.append (List.Sublist.refl _), sw l⟩
    · rintro ⟨l, hl, rfl⟩
      obtain ⟨l1, l2, rfl, a, b⟩ := List.sublist_append_iff.mp hl
      have hb2 : l2 = [] ∨ l2 = [g] := by
        cases b with
        | cons _ b => exact .inl (List.sublist_nil.mp b)
        | cons_cons _ b => exact .inr (by rw [List.sublist_nil.mp b])
      rcases hb2 with rfl | rfl
      · rw [List.append_nil]; exact .inl (ih.mpr ⟨l1, a, rfl⟩)
      · have hc := ih.mpr ⟨l1, a, rfl⟩
        have inv : IsInv m (Pw l1) (Pw l1.reverse) := ⟨fun i hi => ⟨Pw_lt (sub a) hi, Pw_rev l1 i⟩, fun j hj => ⟨Pw_lt (fun g hg => sub a g (List.mem_reverse.mp hg)) hj, by have := Pw_rev l1.reverse j; rw [List.reverse_reverse] at this; exact this⟩⟩
        exact .inr ⟨_, row_ofF h1 h9 inv, ofF_len _ _, hc, (sw l1).symm⟩
end MM
namespace MM
open PySem PySem.Spec PyProof.Rows L2 GxR
/-! ### the fewest changes, found by going on from where the people stand -/
theorem book_rev {m : Nat} {gs : List Int} (hb : BookOk m gs) : BookOk m gs.reverse := fun x hx => hb x (List.mem_reverse.mp hx)
theorem come_rev {m : Nat} {gs : List Int} {a b : Nat → Nat} (h1 : 1 ≤ m) (h9 : m ≤ 9) (hb : BookOk m gs) (hi : IsInv m a b) (h : Come m gs gs.length (ofF m a)) : Come m gs.reverse gs.reverse.length (ofF m b) := by
  obtain ⟨l, hl, e⟩ := (come_word h1 h9 hb gs.length (Nat.le_refl _)).mp h
  rw [List.take_length] at hl
  refine (come_word h1 h9 (book_rev hb) gs.reverse.length (Nat.le_refl _)).mpr ⟨l.reverse, ?_, ?_⟩
  · rw [List.take_length]
    have := List.reverse_sublist.mpr hl
    unfold nat at this ⊢
    rw [List.map_reverse]; exact this
  · refine ofF_congr fun q hq => ?_
    obtain ⟨h2, h3⟩ := hi.ba q hq
    have := ofF_eq e h2
    rw [h3] at this
    conv => rhs; rw [this]
    exact (Pw_rev l (b q)).symm
theorem few_iff {m : Nat} {gs : List Int} {a b : Nat → Nat} (h1 : 1 ≤ m) (h9 : m ≤ 9) (hb : BookOk m gs) (hi : IsInv m a b) : dnL gs (ofF m b) = row0 m ↔ Come m gs gs.length (ofF m a) := by
  have e := come_all h1 h9 (book_rev hb) (row_ofF h1 h9 hi.symm) (ofF_len m b)
  rw [List.reverse_reverse] at e
  rw [← e]
  constructor
  · intro h
    have := come_rev h1 h9 (book_rev hb) hi.symm h
    rw [List.reverse_reverse] at this; exact this
  · exact come_rev h1 h9 hb hi
def gapN (gs : List Int) (k : Nat) : Nat := (gs.getD k 0).toNat
def asc (gs y : List Int) (k : Nat) : Prop := (dnL (gs.take k) y).getD (gapN gs k) 0 < (dnL (gs.take k) y).getD (gapN gs k + 1) 0
instance (gs y : List Int) (k : Nat) : Decidable (asc gs y k) := by unfold asc; infer_instance
def tld (gs y : List Int) (i : Nat) : List Nat := (List.range i).filter fun k => !decide (asc gs y k)
theorem tld_succ (gs y : List Int) (i : Nat) : tld gs y (i + 1) = if asc gs y i then tld gs y i else tld gs y i ++ [i] := by
  unfold tld
  rw [List.range_succ, List.filter_append]
  by_cases h : asc gs y i
  · rw [if_pos h, List.filter_cons_of_neg (by rw [decide_eq_true h]; decide), List.filter_nil, List.append_nil]
  · rw [if_neg h, List.filter_cons_of_pos (by rw [decide_eq_false h]; rfl), List.filter_nil]
theorem mem_tld {gs y : List Int} {n k : Nat} : k ∈ tld gs y n ↔ k < n ∧ ¬ asc gs y k := by
  unfold tld
  rw [List.mem_filter, List.mem_range]; simp
theorem dn_next {gs y : List Int} {i : Nat} (h : i < gs.length) : dnL (gs.take (i + 1)) y = if asc gs y i then dnL (gs.take i) y else swL (dnL (gs.take i) y) (gapN gs i) := dnL_succ h
def wrd (gs y : List Int) (i : Nat) : List Nat := (tld gs y i).map fun k => gapN gs k
theorem wrd_succ (gs y : List Int) (i : Nat) : wrd gs y (i + 1) = if asc gs y i then wrd gs y i else wrd gs y i ++ [gapN gs i] := by
  unfold wrd
  rw [tld_succ]
  split
  · rfl
  · rw [List.map_append]; rfl
theorem gap_lt {m : Nat} {gs : List Int} (hb : BookOk m gs) {k : Nat} (hk : k < gs.length) : gapN gs k + 1 < m := by
  obtain ⟨g, e, hg⟩ := book_at hb hk
  unfold gapN; rw [e, Int.toNat_natCast]; exact hg
theorem wrd_ok {m : Nat} {gs y : List Int} (hb : BookOk m gs) {i : Nat} (hi : i ≤ gs.length) : ∀ g ∈ wrd gs y i, g + 1 < m := fun g hg => by
  obtain ⟨k, hk, rfl⟩ := List.mem_map.mp hg
  have := (mem_tld.mp hk).1
  exact gap_lt hb (by omega)
theorem dn_word {m : Nat} {gs : List Int} {b : Nat → Nat} (hb : BookOk m gs) : ∀ i, i ≤ gs.length → dnL (gs.take i) (ofF m b) = ofF m fun j => b (Pw (wrd gs (ofF m b) i) j)
  | 0, _ => rfl
  | i + 1, hi => by
    have ih := dn_word (b := b) hb i (by omega)
    rw [dn_next (by omega), wrd_succ]
    by_cases h : asc gs (ofF m b) i
    · rw [if_pos h, if_pos h]; exact ih
    · rw [if_neg h, if_neg h, ih, sw_ofF (gap_lt hb (by omega))]
      refine ofF_congr fun j _ => ?_
      rw [Pw_app]; rfl
theorem word_inv {m : Nat} {l : List Nat} (hl : ∀ g ∈ l, g + 1 < m) : IsInv m (Pw l) (Pw l.reverse) := ⟨fun i hi => ⟨Pw_lt hl hi, Pw_rev l i⟩, fun j hj => ⟨Pw_lt (fun g hg => hl g (List.mem_reverse.mp hg)) hj, by have := Pw_rev l.reverse j; rw [List.reverse_reverse] at this; exact this⟩⟩
/-- where going on ends in the row in order, the word is the row's -/
theorem few_word {m : Nat} {gs : List Int} {a b : Nat → Nat} (hb : BookOk m gs) (hi : IsInv m a b) (h : dnL gs (ofF m b) = row0 m) : ofF m a = ofF m (Pw (wrd gs (ofF m b) gs.length)) := by
  have e := dn_word (b := b) hb gs.length (Nat.le_refl _)
  rw [List.take_length, h, row0_ofF] at e
  refine ofF_congr fun j hj => ?_
  have h1 := ofF_eq e hj
  have h2 := Pw_lt (wrd_ok (y := ofF m b) hb (Nat.le_refl _)) hj
  have h3 := (hi.ba _ h2).2
  rw [← h1] at h3
  exact h3
/-- turned pairs: at most as many as changes, and each change of going on takes one -/
theorem pairs_word {m : Nat} (h1 : 1 ≤ m) (h9 : m ≤ 9) : ∀ (n : Nat) (l : List Nat), l.length = n → (∀ g ∈ l, g + 1 < m) → pairsN (ofF m (Pw l)) ≤ n
  | 0, l, e, _ => by
    rw [List.length_eq_zero_iff.mp e]
    have := pairs_row0 m m (Nat.le_refl _)
    show pairsN (row0 m) ≤ 0
    unfold pairsN
    rw [row0_len, this]; exact Nat.le_refl _
  | n + 1, l, e, hl => by
    obtain ⟨l', g, rfl⟩ : ∃ l' g, l = l' ++ [g] := by
      have hne : l ≠ [] := by intro z; rw [z] at e; cases e
      exact ⟨l.dropLast, l.getLast hne, (List.dropLast_concat_getLast hne).symm⟩
    have hl' : ∀ g ∈ l', g + 1 < m := fun x hx => hl x (List.mem_append_left _ hx)
    have hg : g + 1 < m := hl g (List.mem_append_right _ List.mem_cons_self)
    have ih := pairs_word h1 h9 n l' (by rw [List.length_append] at e; simpa using e) hl'
    have es : ofF m (Pw (l' ++ [g])) = swL (ofF m (Pw l')) g := by
      rw [sw_ofF hg]; exact ofF_congr fun j _ => Pw_app l' [g] j
    rw [es]
    have hr := row_ofF h1 h9 (word_inv hl')
    have hgx : g + 1 < (ofF m (Pw l')).length := by rw [ofF_len]; exact hg
    by_cases c : (ofF m (Pw l')).getD g 0 < (ofF m (Pw l')).getD (g + 1) 0
    · rw [pairs_sw hgx c]; omega
    · have hne := row_ne hr hgx
      have c2 : (swL (ofF m (Pw l')) g).getD g 0 < (swL (ofF m (Pw l')) g).getD (g + 1) 0 := by
        rw [(sw_g hgx).1, (sw_g hgx).2]; omega
      have := pairs_sw (by rw [sw_len hgx]; exact hgx) c2
      rw [sw_sw hgx] at this
      omega
theorem pairs_tld {m : Nat} {gs y : List Int} (hb : BookOk m gs) (hr : IsRow y) (hl : y.length = m) : ∀ i, i ≤ gs.length → pairsN (dnL (gs.take i) y) + (tld gs y i).length = pairsN y
  | 0, _ => rfl
  | i + 1, hi => by
    have ih := pairs_tld hb hr hl i (by omega)
    obtain ⟨rr, rl⟩ := dnL_ok (gs := gs.take i) (fun x hx => hb x (List.mem_of_mem_take hx)) hr hl
    rw [dn_next (by omega), tld_succ]
    have hg := gap_lt hb (k := i) (by omega)
    have hgx : gapN gs i + 1 < (dnL (gs.take i) y).length := by rw [rl]; exact hg
    by_cases c : asc gs y i
    · rw [if_pos c, if_pos c]; exact ih
    · rw [if_neg c, if_neg c, List.length_append]
      have hne := row_ne rr hgx
      unfold asc at c
      have c2 : (swL (dnL (gs.take i) y) (gapN gs i)).getD (gapN gs i) 0 < (swL (dnL (gs.take i) y) (gapN gs i)).getD (gapN gs i + 1) 0 := by
        rw [(sw_g hgx).1, (sw_g hgx).2]; omega
      have := pairs_sw (by rw [sw_len hgx]; exact hgx) c2
      rw [sw_sw hgx] at this
      show _ + ((tld gs y i).length + 1) = _
      omega
theorem pairs_row00 (m : Nat) : pairsN (row0 m) = 0 := by
  unfold pairsN; rw [row0_len]; exact pairs_row0 m m (Nat.le_refl _)
theorem inv_pairs_le {m : Nat} {gs : List Int} {a b : Nat → Nat} (h1 : 1 ≤ m) (h9 : m ≤ 9) (hb : BookOk m gs) (hi : IsInv m a b) (h : dnL gs (ofF m b) = row0 m) : pairsN (ofF m a) ≤ pairsN (ofF m b) ∧ (tld gs (ofF m b) gs.length).length = pairsN (ofF m b) := by
  have e := pairs_tld hb (row_ofF h1 h9 hi.symm) (ofF_len m b) gs.length (Nat.le_refl _)
  rw [List.take_length, h, pairs_row00, Nat.zero_add] at e
  refine ⟨?_, e⟩
  rw [few_word hb hi h, ← e]
  refine pairs_word h1 h9 _ _ ?_ (wrd_ok hb (Nat.le_refl _))
  unfold wrd; rw [List.length_map]
theorem few_pairs {m : Nat} {gs : List Int} {a b : Nat → Nat} (h1 : 1 ≤ m) (h9 : m ≤ 9) (hb : BookOk m gs) (hi : IsInv m a b) (h : dnL gs (ofF m b) = row0 m) : (tld gs (ofF m b) gs.length).length = pairsN (ofF m a) := by
  obtain ⟨p1, p2⟩ := inv_pairs_le h1 h9 hb hi h
  have hc := (few_iff h1 h9 hb hi).mp h
  have h' := (come_all h1 h9 hb (row_ofF h1 h9 hi) (ofF_len m a)).mp hc
  obtain ⟨p3, _⟩ := inv_pairs_le h1 h9 (book_rev hb) hi.symm h'
  omega
end MM
namespace MM
open PySem PySem.Spec PyProof.Rows L2 GxR
/-! ### one book behind another; rows read as places -/
def farL : List Int → List Int → List Int
  | y, [] => y
  | y, g :: gs => farL (upS y g.toNat) gs
theorem farL_app : ∀ (y : List Int) (l l' : List Int), farL y (l ++ l') = farL (farL y l) l'
  | _, [], _ => rfl
  | y, g :: l, l' => farL_app (upS y g.toNat) l l'
theorem farL_at {y gs : List Int} : ∀ k, k ≤ gs.length → farL y (gs.take k) = farAt y gs k
  | 0, _ => rfl
  | k + 1, h => by
    rw [List.take_add_one, getD_some (by omega), farL_app, farL_at k (by omega)]; rfl
theorem farL_all (y gs : List Int) : farL y gs = farAt y gs gs.length := by
  rw [← farL_at gs.length (Nat.le_refl _), List.take_length]
theorem farL_ok {m : Nat} {gs y : List Int} (hb : BookOk m gs) (hr : IsRow y) (hl : y.length = m) : IsRow (farL y gs) ∧ (farL y gs).length = m := by
  rw [farL_all]; exact farAt_ok hr hl hb _ (Nat.le_refl _)
/-! ### corners of a row and of its places -/
theorem ofF_getD {m i : Nat} {a : Nat → Nat} (h : i < m) : (ofF m a).getD i 0 = (a i : Int) := by
  rw [List.getD_eq_getElem?_getD, ofF_get h]; rfl
theorem cnt_ofF {m i : Nat} {a : Nat → Nat} (h : i < m) (j : Nat) : cnt (ofF m a) (i + 1) (j : Int) = cnt (ofF m a) i (j : Int) + if j ≤ a i then 1 else 0 := by
  rw [cnt_at (by rw [ofF_len]; exact h), ofF_getD h]
  by_cases c : j ≤ a i
  · rw [if_pos c, if_pos (by omega)]
  · rw [if_neg c, if_neg (by omega)]
theorem cnt_step {m : Nat} {a b : Nat → Nat} (hI : IsInv m a b) {i : Nat} (hi : i < m) : ∀ j, j ≤ m → cnt (ofF m b) j (i : Int) = cnt (ofF m b) j ((i + 1 : Nat) : Int) + if a i < j then 1 else 0
  | 0, _ => rfl
  | j + 1, hj => by
    have ih := cnt_step hI hi j (by omega)
    rw [cnt_ofF (by omega), cnt_ofF (by omega), ih]
    have e : b j = i ↔ a i = j := ⟨fun h => by rw [← h]; exact (hI.ba j (by omega)).2, fun h => by rw [← h]; exact (hI.ab i hi).2⟩
    by_cases c : a i = j
    · have c2 := e.mpr c
      rw [if_pos (show i ≤ b j by omega), if_neg (show ¬ i + 1 ≤ b j by omega), if_neg (show ¬ a i < j by omega), if_pos (show a i < j + 1 by omega)]
    · have c2 : b j ≠ i := fun z => c (e.mp z)
      by_cases d : a i < j
      · rw [if_pos d, if_pos (show a i < j + 1 by omega)]
        by_cases k : i ≤ b j
        · rw [if_pos k, if_pos (show i + 1 ≤ b j by omega)]
        · rw [if_neg k, if_neg (show ¬ i + 1 ≤ b j by omega)]
      · rw [if_neg d, if_neg (show ¬ a i < j + 1 by omega)]
        by_cases k : i ≤ b j
        · rw [if_pos k, if_pos (show i + 1 ≤ b j by omega)]
        · rw [if_neg k, if_neg (show ¬ i + 1 ≤ b j by omega)]
theorem cnt_all {m : Nat} {b : Nat → Nat} : ∀ j, j ≤ m → cnt (ofF m b) j ((0 : Nat) : Int) = j
  | 0, _ => rfl
  | j + 1, hj => by rw [cnt_ofF (by omega), cnt_all j (by omega), if_pos (Nat.zero_le _)]
theorem cnt_inv {m : Nat} {a b : Nat → Nat} (hI : IsInv m a b) {j : Nat} (hj : j ≤ m) : ∀ i, i ≤ m → cnt (ofF m a) i (j : Int) + j = cnt (ofF m b) j (i : Int) + i
  | 0, _ => by rw [cnt_zero, cnt_all j hj]; omega
  | i + 1, hi => by
    have ih := cnt_inv hI hj i (by omega)
    have st := cnt_step hI (i := i) (by omega) j hj
    rw [cnt_ofF (by omega)]
    by_cases c : j ≤ a i
    · rw [if_pos c]
      rw [if_neg (show ¬ a i < j by omega)] at st
      omega
    · rw [if_neg c]
      rw [if_pos (show a i < j by omega)] at st
      omega
theorem more_inv {m : Nat} {a b c d : Nat → Nat} (h1 : IsInv m a b) (h2 : IsInv m c d) : more (ofF m a) (ofF m c) = [] ↔ more (ofF m b) (ofF m d) = [] := by
  rw [more_iff, more_iff, ofF_len, ofF_len]
  constructor
  · intro h i j hi hj
    have e1 := cnt_inv h1 (j := i) (by omega) j (by omega)
    have e2 := cnt_inv h2 (j := i) (by omega) j (by omega)
    have := h j i hj hi
    omega
  · intro h i j hi hj
    have e1 := cnt_inv h1 (j := j) (by omega) i (by omega)
    have e2 := cnt_inv h2 (j := j) (by omega) i (by omega)
    have := h j i hj hi
    omega
/-! ### books whose rows are the same -/
theorem come_far {m : Nat} {gs x : List Int} (h1 : 1 ≤ m) (h9 : m ≤ 9) (hb : BookOk m gs) (hr : IsRow x) (hl : x.length = m) : Come m gs gs.length x ↔ more x (farL (row0 m) gs) = [] := by
  rw [farL_all]; exact come_iff h1 h9 hb _ (Nat.le_refl _) x hr hl
theorem book_app {m : Nat} {A B : List Int} (ha : BookOk m A) (hb : BookOk m B) : BookOk m (A ++ B) := fun x hx => (List.mem_append.mp hx).elim (ha x) (hb x)
theorem come_words {m : Nat} {gs x : List Int} (h1 : 1 ≤ m) (h9 : m ≤ 9) (hb : BookOk m gs) : Come m gs gs.length x ↔ ∃ l : List Nat, l.Sublist (nat gs) ∧ x = ofF m (Pw l) := by
  have := come_word h1 h9 hb gs.length (Nat.le_refl _) (x := x)
  rw [List.take_length] at this; exact this
theorem come_app {m : Nat} {A A' B B' : List Int} (h1 : 1 ≤ m) (h9 : m ≤ 9) (ha : BookOk m A) (hb : BookOk m B) (ha' : BookOk m A') (hb' : BookOk m B') (eA : ∀ z, Come m A A.length z → Come m A' A'.length z) (eB : ∀ z, Come m B B.length z → Come m B' B'.length z) {x : List Int} (h : Come m (A ++ B) (A ++ B).length x) : Come m (A' ++ B') (A' ++ B').length x := by
  obtain ⟨l, hl, rfl⟩ := (come_words h1 h9 (book_app ha hb)).mp h
  unfold nat at hl
  rw [List.map_append] at hl
  obtain ⟨l1, l2, rfl, s1, s2⟩ := List.sublist_append_iff.mp hl
  obtain ⟨k1, t1, e1⟩ := (come_words h1 h9 ha').mp (eA _ ((come_words h1 h9 ha).mpr ⟨l1, s1, rfl⟩))
  obtain ⟨k2, t2, e2⟩ := (come_words h1 h9 hb').mp (eB _ ((come_words h1 h9 hb).mpr ⟨l2, s2, rfl⟩))
  refine (come_words h1 h9 (book_app ha' hb')).mpr ⟨k1 ++ k2, ?_, ?_⟩
  · unfold nat; rw [List.map_append]; exact t1.append t2
  · refine ofF_congr fun j hj => ?_
    rw [Pw_app, Pw_app, ofF_eq e2 hj]
    refine ofF_eq e1 (Pw_lt (fun g hg => ?_) hj)
    exact nat_ok hb' g (t2.subset hg)
theorem come_back {m : Nat} {gs : List Int} {a b c d : Nat → Nat} (h1 : 1 ≤ m) (h9 : m ≤ 9) (hb : BookOk m gs) (hI : IsInv m c d) (hf : farL (row0 m) gs = ofF m c) (h2 : IsInv m a b) : Come m gs.reverse gs.reverse.length (ofF m a) ↔ more (ofF m a) (ofF m d) = [] := by
  have e : Come m gs.reverse gs.reverse.length (ofF m a) ↔ Come m gs gs.length (ofF m b) := by
    constructor
    · intro h
      have := come_rev h1 h9 (book_rev hb) h2 h
      rw [List.reverse_reverse] at this; exact this
    · exact come_rev h1 h9 hb h2.symm
  rw [e, come_far h1 h9 hb (row_ofF h1 h9 h2.symm) (ofF_len m b), hf]
  exact (more_inv h2 hI.symm).symm
end MM
namespace MM
open PySem PySem.Spec PyProof.Rows L2 GxR
/-! ### the book of runs -/
def lowN (fa : Nat → Nat) (pl p : Nat) : Nat := ((List.range pl).filter fun q => decide (fa q < p)).length
def runP (low p : Nat) : List Int := (List.range (p - low)).map fun j => ((p - 1 - j : Nat) : Int)
def runsTo (fa fb : Nat → Nat) : Nat → List Int
  | 0 => []
  | k + 1 => runsTo fa fb k ++ runP (lowN fa (fb k) k) k
theorem up_form {l r : List Int} {a x : Int} (h : a < x) : upS (l ++ a :: x :: r) l.length = l ++ x :: a :: r := by
  unfold upS
  have e1 : (l ++ a :: x :: r).getD l.length 0 = a := by rw [List.getD_eq_getElem?_getD, List.getElem?_append_right (Nat.le_refl _)]; simp
  have e2 : (l ++ a :: x :: r).getD (l.length + 1) 0 = x := by rw [List.getD_eq_getElem?_getD, List.getElem?_append_right (by omega)]; simp
  rw [e1, e2, if_pos h, sw_form]
theorem far_run {A C : List Int} {x : Int} (hx : ∀ y ∈ A, y < x) : ∀ c, c ≤ A.length → farL (A ++ x :: C) ((List.range c).map fun j => ((A.length - 1 - j : Nat) : Int)) = A.take (A.length - c) ++ x :: (A.drop (A.length - c) ++ C)
  | 0, _ => by
    show A ++ x :: C = _
    rw [Nat.sub_zero, List.take_length, List.drop_length]; rfl
  | c + 1, h => by
    rw [List.range_succ, List.map_append, farL_app, far_run hx c (by omega)]
    show upS (A.take (A.length - c) ++ x :: (A.drop (A.length - c) ++ C)) (((A.length - 1 - c : Nat) : Int)).toNat = _
    rw [Int.toNat_natCast]
    have hl : A.length - (c + 1) < A.length := by omega
    have e1 : A.take (A.length - c) = A.take (A.length - (c + 1)) ++ [A[A.length - (c + 1)]] := by
      rw [show A.length - c = (A.length - (c + 1)) + 1 by omega, List.take_add_one, List.getElem?_eq_getElem hl]; rfl
    have e2 : A.drop (A.length - (c + 1)) = A[A.length - (c + 1)] :: A.drop (A.length - c) := by
      rw [List.drop_eq_getElem_cons hl, show A.length - (c + 1) + 1 = A.length - c by omega]
    have e3 : (A.take (A.length - (c + 1))).length = A.length - 1 - c := by rw [List.length_take]; omega
    rw [e1, e2, ← e3, List.append_assoc]
    exact up_form (hx _ (List.getElem_mem hl))
def rest (m k : Nat) : List Int := (List.range (m - k)).map fun j => ((k + j : Nat) : Int)
theorem rest_cons {m k : Nat} (h : k < m) : rest m k = (k : Int) :: rest m (k + 1) := by
  unfold rest
  rw [show m - k = (m - (k + 1)) + 1 by omega, List.range_succ_eq_map, List.map_cons, List.map_map]
  refine congrArg (List.cons _) (List.map_congr_left fun j _ => ?_)
  show (((k + (j + 1)) : Nat) : Int) = ((k + 1 + j : Nat) : Int)
  omega
/-- the people below k, in their order in the row -/
def flt (m : Nat) (fa : Nat → Nat) (k : Nat) : List Int := (ofF m fa).filter fun p => decide (p < (k : Int))
theorem flt_step {m : Nat} {fa fb : Nat → Nat} (hI : IsInv m fa fb) {k : Nat} (hk : k < m) : ∃ L R : List Int, flt m fa k = L ++ R ∧ flt m fa (k + 1) = L ++ (k : Int) :: R ∧ L.length = lowN fa (fb k) k := by
  obtain ⟨h1, h2⟩ := hI.ba k hk
  have sp : ofF m fa = (ofF m fa).take (fb k) ++ (k : Int) :: (ofF m fa).drop (fb k + 1) := by
    conv => lhs; rw [← List.take_append_drop (fb k) (ofF m fa)]
    have hl : fb k < (ofF m fa).length := by rw [ofF_len]; exact h1
    rw [List.drop_eq_getElem_cons hl]
    have e := ofF_get (a := fa) h1
    rw [List.getElem?_eq_getElem hl, h2] at e
    rw [Option.some.inj e]
  have ne : ∀ q, q < m → q ≠ fb k → fa q ≠ k := fun q hq hne e => hne (by rw [← e]; exact ((hI.ab q hq).2).symm)
  have tk : (ofF m fa).take (fb k) = (List.range (fb k)).map fun q => (fa q : Int) := by
    unfold ofF
    rw [← List.map_take, List.take_range, Nat.min_eq_left (Nat.le_of_lt h1)]
  have f1 : ((ofF m fa).take (fb k)).filter (fun p => decide (p < ((k + 1 : Nat) : Int))) = ((ofF m fa).take (fb k)).filter fun p => decide (p < (k : Int)) := by
    refine List.filter_congr fun p hp => ?_
    rw [tk] at hp
    obtain ⟨q, hq, rfl⟩ := List.mem_map.mp hp
    have hq := List.mem_range.mp hq
    have := ne q (by omega) (by omega)
    rw [Bool.eq_iff_iff, decide_eq_true_iff, decide_eq_true_iff]; omega
  have f2 : ((ofF m fa).drop (fb k + 1)).filter (fun p => decide (p < ((k + 1 : Nat) : Int))) = ((ofF m fa).drop (fb k + 1)).filter fun p => decide (p < (k : Int)) := by
    refine List.filter_congr fun p hp => ?_
    obtain ⟨i, hi, e⟩ := List.getElem_of_mem hp
    rw [List.length_drop, ofF_len] at hi
    rw [List.getElem_drop] at e
    have e2 := ofF_get (a := fa) (show fb k + 1 + i < m by omega)
    rw [List.getElem?_eq_getElem (by rw [ofF_len]; omega), e] at e2
    have := ne (fb k + 1 + i) (by omega) (by omega)
    rw [Option.some.inj e2, Bool.eq_iff_iff, decide_eq_true_iff, decide_eq_true_iff]; omega
  refine ⟨((ofF m fa).take (fb k)).filter fun p => decide (p < (k : Int)), ((ofF m fa).drop (fb k + 1)).filter fun p => decide (p < (k : Int)), ?_, ?_, ?_⟩
  · unfold flt
    conv => lhs; rw [sp]
    rw [List.filter_append, List.filter_cons_of_neg (by simp)]
  · unfold flt
    conv => lhs; rw [sp]
    rw [List.filter_append, List.filter_cons_of_pos (by rw [decide_eq_true_iff]; omega), f1, f2]
  · rw [tk, List.filter_map, List.length_map]
    unfold lowN
    refine congrArg List.length (List.filter_congr fun q _ => ?_)
    show decide ((fa q : Int) < (k : Int)) = decide (fa q < k)
    rw [Bool.eq_iff_iff, decide_eq_true_iff, decide_eq_true_iff]; omega
theorem flt_len {m : Nat} {fa fb : Nat → Nat} (hI : IsInv m fa fb) : ∀ k, k ≤ m → (flt m fa k).length = k
  | 0, _ => by
    unfold flt
    rw [List.length_eq_zero_iff, List.filter_eq_nil_iff]
    intro p hp
    unfold ofF at hp
    obtain ⟨q, _, rfl⟩ := List.mem_map.mp hp
    rw [decide_eq_true_iff]; omega
  | k + 1, h => by
    obtain ⟨L, R, e1, e2, _⟩ := flt_step hI (k := k) (by omega)
    have ih := flt_len hI k (by omega)
    rw [e1, List.length_append] at ih
    rw [e2, List.length_append, List.length_cons]; omega
theorem low_le {m : Nat} {fa fb : Nat → Nat} (hI : IsInv m fa fb) {k : Nat} (hk : k < m) : lowN fa (fb k) k ≤ k := by
  obtain ⟨L, R, e1, _, e3⟩ := flt_step hI hk
  have := flt_len hI k (by omega)
  rw [e1, List.length_append] at this
  omega
theorem runs_far {m : Nat} {fa fb : Nat → Nat} (hI : IsInv m fa fb) : ∀ k, k ≤ m → farL (row0 m) (runsTo fa fb k) = flt m fa k ++ rest m k
  | 0, _ => by
    have e : flt m fa 0 = [] := List.length_eq_zero_iff.mp (flt_len hI 0 (Nat.zero_le _))
    rw [e]
    show row0 m = [] ++ rest m 0
    unfold row0 rest
    rw [Nat.sub_zero, List.nil_append]
    refine List.map_congr_left fun j _ => ?_
    rw [Nat.zero_add]; rfl
  | k + 1, h => by
    obtain ⟨L, R, e1, e2, e3⟩ := flt_step hI (k := k) (by omega)
    have hlen := flt_len hI k (by omega)
    show farL (row0 m) (runsTo fa fb k ++ runP (lowN fa (fb k) k) k) = _
    rw [farL_app, runs_far hI k (by omega), rest_cons (by omega)]
    unfold runP
    have hx : ∀ y ∈ flt m fa k, y < (k : Int) := fun y hy => by
      have := (List.mem_filter.mp hy).2
      exact of_decide_eq_true this
    have hr := far_run (C := rest m (k + 1)) hx (k - lowN fa (fb k) k) (by omega)
    rw [hlen] at hr
    rw [hr, show k - (k - lowN fa (fb k) k) = L.length by rw [e3]; have := low_le hI (k := k) (by omega); omega, e1, e2, List.take_left', List.drop_left']
    · simp
    · rfl
    · rfl
theorem runs_all {m : Nat} {fa fb : Nat → Nat} (hI : IsInv m fa fb) : farL (row0 m) (runsTo fa fb m) = ofF m fa := by
  rw [runs_far hI m (Nat.le_refl _)]
  have e : rest m m = [] := by unfold rest; rw [Nat.sub_self]; rfl
  rw [e, List.append_nil]
  unfold flt
  refine List.filter_eq_self.mpr fun p hp => ?_
  unfold ofF at hp
  obtain ⟨q, hq, rfl⟩ := List.mem_map.mp hp
  have := (hI.ab q (List.mem_range.mp hq)).1
  exact decide_eq_true (by omega)
theorem runs_book {m : Nat} {fa fb : Nat → Nat} (hI : IsInv m fa fb) : ∀ k, k ≤ m → BookOk m (runsTo fa fb k)
  | 0, _ => fun _ h => nomatch h
  | k + 1, h => book_app (runs_book hI k (by omega)) fun x hx => by
    unfold runP at hx
    obtain ⟨j, hj, rfl⟩ := List.mem_map.mp hx
    have := List.mem_range.mp hj
    omega
end MM
namespace MM
open PySem PySem.Spec PyProof.Rows L2 GxR
theorem more_anti {m : Nat} {x y : List Int} (hx : IsRow x) (hxl : x.length = m) (hy : IsRow y) (hyl : y.length = m) (h : more x y = []) (h' : more y x = []) : x = y := by
  have e : ∀ i j : Nat, i < m + 1 → j < m + 1 → cnt x i j = cnt y i j := fun i j hi hj =>
    Nat.le_antisymm (more_iff.mp h i j (by omega) (by omega)) (more_iff.mp h' i j (by omega) (by omega))
  have hb : ∀ {z : List Int}, IsRow z → z.length = m → ∀ i, i < m → 0 ≤ z.getD i 0 ∧ z.getD i 0 < (m : Int) := fun {z} hz lz i hi => by
    have hm : z.getD i 0 ∈ z := by
      have := getD_some (ns := z) (g := i) (by omega)
      exact List.mem_of_getElem? this
    have := (hz.2.2.mem_iff (a := z.getD i 0)).mp hm
    rw [lz] at this
    obtain ⟨j, hj, e⟩ := List.mem_map.mp this
    have := List.mem_range.mp hj
    have e : (j : Int) = z.getD i 0 := e
    omega
  refine List.ext_getElem? fun i => ?_
  by_cases hi : i < m
  · rw [getD_some (by omega), getD_some (by omega)]
    obtain ⟨a1, a2⟩ := hb hx hxl i hi
    obtain ⟨b1, b2⟩ := hb hy hyl i hi
    have key : ∀ j : Nat, j < m + 1 → ((j : Int) ≤ x.getD i 0 ↔ (j : Int) ≤ y.getD i 0) := fun j hj => by
      have h1 := e (i + 1) j (by omega) hj
      have h2 := e i j (by omega) hj
      rw [cnt_at (by omega), cnt_at (by omega), h2] at h1
      by_cases c1 : (j : Int) ≤ x.getD i 0
      · by_cases c2 : (j : Int) ≤ y.getD i 0
        · exact iff_of_true c1 c2
        · rw [if_pos c1, if_neg c2] at h1; omega
      · by_cases c2 : (j : Int) ≤ y.getD i 0
        · rw [if_neg c1, if_pos c2] at h1; omega
        · exact iff_of_false c1 c2
    have k1 := key (x.getD i 0).toNat (by omega)
    have k2 := key (y.getD i 0).toNat (by omega)
    congr 1
    omega
  · rw [List.getElem?_eq_none (by omega), List.getElem?_eq_none (by omega)]
end MM
namespace MM
open PySem PySem.Spec PyProof.Rows L2 GxR
theorem nat_ofNat (w : List Nat) : nat (w.map fun (k : Nat) => (k : Int)) = w := by
  unfold nat
  rw [List.map_map]
  exact (List.map_congr_left fun x _ => Int.toNat_natCast x).trans (List.map_id w)
theorem come_few {m : Nat} {W : List Nat} (h1 : 1 ≤ m) (h9 : m ≤ 9) (hW : ∀ g ∈ W, g + 1 < m) {x : List Int} (h : Come m (W.map fun (k : Nat) => (k : Int)) (W.map fun (k : Nat) => (k : Int)).length x) : pairsN x ≤ W.length := by
  have hb : BookOk m (W.map fun (k : Nat) => (k : Int)) := fun x hx => by
    obtain ⟨z, hz, rfl⟩ := List.mem_map.mp hx
    have := hW z hz
    constructor <;> omega
  obtain ⟨l, hl, rfl⟩ := (come_words h1 h9 hb).mp h
  rw [nat_ofNat] at hl
  exact Nat.le_trans (pairs_word h1 h9 _ l rfl (fun g hg => hW g (hl.subset hg))) hl.length_le
/-! ### turned pairs, counted from the front -/
def inv1 : List Int → Nat
  | [] => 0
  | x :: l => (l.filter fun p => decide (p < x)).length + inv1 l
theorem inv1_snoc (x : Int) : ∀ l : List Int, inv1 (l ++ [x]) = inv1 l + (l.filter fun p => decide (x < p)).length
  | [] => rfl
  | y :: l => by
    have ih := inv1_snoc x l
    show ((l ++ [x]).filter fun p => decide (p < y)).length + inv1 (l ++ [x]) = ((l.filter fun p => decide (p < y)).length + inv1 l) + ((y :: l).filter fun p => decide (x < p)).length
    rw [ih, List.filter_append, List.length_append]
    by_cases h : x < y
    · rw [List.filter_cons_of_pos (by rw [decide_eq_true h]), List.filter_cons_of_pos (by rw [decide_eq_true h])]
      simp only [List.filter_nil, List.length_cons, List.length_nil]; omega
    · rw [List.filter_cons_of_neg (by rw [decide_eq_false h]; decide), List.filter_cons_of_neg (by rw [decide_eq_false h]; decide)]
      simp only [List.filter_nil, List.length_nil]; omega
def trn (ns : List Int) : Nat → Nat
  | 0 => 0
  | k + 1 => trn ns k + ((ns.drop k).filter fun p => decide (p < ns.getD k 0)).length
theorem trn_inv (ns : List Int) : ∀ k, k ≤ ns.length → trn ns k + inv1 (ns.drop k) = inv1 ns
  | 0, _ => by show 0 + inv1 (ns.drop 0) = _; rw [List.drop_zero, Nat.zero_add]
  | k + 1, hk => by
    have ih := trn_inv ns k (by omega)
    have e : ns.drop k = ns.getD k 0 :: ns.drop (k + 1) := by
      rw [List.drop_eq_getElem_cons (by omega)]
      congr 1
      have := getD_some (ns := ns) (g := k) (by omega)
      rw [List.getElem?_eq_getElem (by omega)] at this
      exact Option.some.inj this
    show trn ns k + ((ns.drop k).filter fun p => decide (p < ns.getD k 0)).length + inv1 (ns.drop (k + 1)) = _
    rw [← ih]
    conv => rhs; rw [e]
    rw [e, List.filter_cons_of_neg (by rw [decide_eq_false (Int.lt_irrefl _)]; decide)]
    show _ = trn ns k + (((ns.drop (k + 1)).filter fun p => decide (p < ns.getD k 0)).length + inv1 (ns.drop (k + 1)))
    omega
theorem prs_inv (ns : List Int) : ∀ k, k ≤ ns.length → prs ns k = inv1 (ns.take k)
  | 0, _ => rfl
  | k + 1, hk => by
    have ih := prs_inv ns k (by omega)
    show prs ns k + cnt ns k (ns.getD k 0 + 1) = _
    rw [ih, List.take_add_one, getD_some (by omega)]
    show _ = inv1 (ns.take k ++ [ns.getD k 0])
    rw [inv1_snoc]
    congr 1
theorem trn_pairs (ns : List Int) : trn ns ns.length = pairsN ns := by
  have h := trn_inv ns ns.length (Nat.le_refl _)
  have h2 := prs_inv ns ns.length (Nat.le_refl _)
  rw [List.drop_length] at h
  rw [List.take_length] at h2
  unfold pairsN
  rw [h2, ← h]; rfl
end MM
namespace MM
theorem far_rev {m : Nat} {gs : List Int} {c d : Nat → Nat} (h1 : 1 ≤ m) (h9 : m ≤ 9) (hb : BookOk m gs) (hI : IsInv m c d) (hf : farL (row0 m) gs = ofF m c) : farL (row0 m) gs.reverse = ofF m d := by
  have hb' : BookOk m gs.reverse := fun x hx => hb x (List.mem_reverse.mp hx)
  obtain ⟨p1, p2⟩ := farL_ok (gs := gs.reverse) hb' (row0_row h1 h9) (row0_len m)
  obtain ⟨a, b, hA, eA⟩ := p1.inv
  rw [p2] at hA eA
  have hd := row_ofF h1 h9 hI.symm
  refine more_anti p1 p2 hd (ofF_len _ _) ?_ ?_
  · rw [eA]
    refine (come_back h1 h9 hb hI hf hA).mp ?_
    rw [← eA]
    exact (come_far h1 h9 hb' p1 p2).mpr (more_self _)
  · exact (come_far h1 h9 hb' hd (ofF_len _ _)).mp ((come_back h1 h9 hb hI hf hI.symm).mpr (more_self _))
end MM
namespace MM
/-! ### a row and its back have as many turned pairs -/
theorem pairs_back_le {m : Nat} {a b : Nat → Nat} (h1 : 1 ≤ m) (h9 : m ≤ 9) (hI : IsInv m a b) : pairsN (ofF m b) ≤ pairsN (ofF m a) := by
  have bG := runs_book hI m (Nat.le_refl _)
  obtain ⟨k1, k2, _, k4⟩ := kept_ok h1 h9 bG (runsTo a b m).length (Nat.le_refl _)
  rw [← farL_all, runs_all hI] at k2 k4
  generalize keptAt m (runsTo a b m) (runsTo a b m).length = K at k1 k2 k4
  have bK : BookOk m K := fun x hx => bG x (k1 x hx)
  have rK : BookOk m K.reverse := fun x hx => bK x (List.mem_reverse.mp hx)
  have e := far_rev h1 h9 bK hI (by rw [farL_all]; exact k2)
  have eW : (K.reverse.map Int.toNat).map (fun (k : Nat) => (k : Int)) = K.reverse := by
    rw [List.map_map]
    refine (List.map_congr_left fun x hx => ?_).trans (List.map_id _)
    have := (rK x hx).1
    show ((x.toNat : Nat) : Int) = x
    omega
  have rB := row_ofF h1 h9 hI.symm
  have hc := (come_far h1 h9 rK rB (ofF_len _ _)).mpr (by rw [e]; exact more_self _)
  have := come_few (W := K.reverse.map Int.toNat) h1 h9 (fun g hg => by
    obtain ⟨x, hx, rfl⟩ := List.mem_map.mp hg
    have := rK x hx
    omega) (by rw [eW]; exact hc)
  rw [List.length_map, List.length_reverse, k4] at this
  exact this
theorem pairs_back {m : Nat} {a b : Nat → Nat} (h1 : 1 ≤ m) (h9 : m ≤ 9) (hI : IsInv m a b) : pairsN (ofF m b) = pairsN (ofF m a) := Nat.le_antisymm (pairs_back_le h1 h9 hI) (pairs_back_le h1 h9 hI.symm)
end MM
namespace MM
open PySem PySem.Spec PyProof.Rows L2 GxR
/-! ### falls; the runs have as many meetings as there are turned pairs -/
theorem pairs_desc {x : List Int} {g : Nat} (h : g + 1 < x.length) (hx : x.getD (g + 1) 0 < x.getD g 0) : pairsN x = pairsN (swL x g) + 1 := by
  obtain ⟨e1, e2⟩ := sw_g h
  have := pairs_sw (ns := swL x g) (g := g) (by rw [sw_len h]; exact h) (by rw [e1, e2]; exact hx)
  rw [sw_sw h] at this; exact this
theorem up_rise {x : List Int} (h : ∀ g, g + 1 < x.length → x.getD g 0 < x.getD (g + 1) 0) : ∀ j i, i < j → j < x.length → x.getD i 0 < x.getD j 0
  | 0, _, hi, _ => absurd hi (Nat.not_lt_zero _)
  | j + 1, i, hi, hj => by
    have h1 := h j hj
    by_cases e : i = j
    · rw [e]; exact h1
    · exact Int.lt_trans (up_rise h j i (by omega) (by omega)) h1
theorem no_desc {x : List Int} (r : IsRow x) (h : ∀ g, g + 1 < x.length → x.getD g 0 < x.getD (g + 1) 0) : x = row0 x.length := by
  refine r.sorted (List.Perm.refl _) (List.pairwise_iff_getElem.mpr fun i j hi hj hij => ?_)
  have := up_rise h j i hij hj
  rw [List.getD_eq_getElem?_getD, List.getD_eq_getElem?_getD, List.getElem?_eq_getElem hi, List.getElem?_eq_getElem hj] at this
  exact Int.le_of_lt this
theorem no_pairs {x : List Int} (r : IsRow x) (h : pairsN x = 0) : x = row0 x.length := no_desc r fun g hg => by
  have h1 := row_ne r hg
  refine Classical.byContradiction fun hn => ?_
  have := pairs_desc hg (show x.getD (g + 1) 0 < x.getD g 0 by omega)
  omega
end MM
namespace MM
open PySem PySem.Spec PyProof.Rows L2 GxR
def pr2 (a b : Int) : PyData := .tuple [.int a, .int b]
theorem inV_ints (k : Int) (ns : List Int) : inV (.int k) (ns.map V.int) = decide (k ∈ ns) := by
  unfold inV
  rw [List.any_map]
  rw [Bool.eq_iff_iff, decide_eq_true_iff, List.any_eq_true]
  constructor
  · rintro ⟨x, hx, e⟩
    have : x = k := by simpa [eqV] using e
    exact this ▸ hx
  · intro h
    exact ⟨k, h, by simp [eqV]⟩
end MM
namespace MM
open PySem PySem.Spec PyProof.Rows L2 GxR
/-! ### words that many laws want -/
theorem flat_ints (ns : List Int) : (ns.map V.int).all flatV = true := by
  rw [List.all_map]; exact List.all_eq_true.mpr fun _ _ => rfl
theorem ne_rows {K : PySem.W.Frag} {H : Hp} {a b : Addr} {ns ms : List Int} (ha : SqT K H a (ns.map V.int)) (hb : SqT K H b (ms.map V.int)) (r1 : IsRow ns) (r2 : IsRow ms) {Q : VK} (q : Q (.bl (!decide (ns = ms))) H) : rNeD K (.ref a) (.ref b) H Q := by
  refine ⟨_, _, dp_row ha, dp_row hb, (nice_row r1).shaped (by decide), (nice_row r2).shaped (by decide), ?_⟩
  rw [eqv_rows]; exact q
structure RowsF (H : Hp) (r gs : List Int) (cs : List Bool) (n : Nat) (ts : List Addr) : Prop where
  len : ts.length = n
  at_ : ∀ (k : Nat) t, ts[k]? = some t → FTup H t ((rowAt r gs cs k).map V.int)
theorem RowsF.ex {B : Addr → Prop} {H H' : Hp} {r gs : List Int} {cs : List Bool} {n : Nat} {ts : List Addr} (h : RowsF H r gs cs n ts) (e : ExB B H H') : RowsF H' r gs cs n ts := ⟨h.len, fun k t a => (h.at_ k t a).ex e⟩
theorem RowsF.push {H : Hp} {r gs : List Int} {cs : List Bool} {n : Nat} {ts : List Addr} {t : Addr} (h : RowsF H r gs cs n ts) (q : FTup H t ((rowAt r gs cs n).map V.int)) : RowsF H r gs cs (n + 1) (ts ++ [t]) := by
  refine ⟨by rw [List.length_append, h.len]; rfl, fun k t' hk => ?_⟩
  by_cases hl : k < ts.length
  · rw [List.getElem?_append_left hl] at hk; exact h.at_ k t' hk
  · rw [List.getElem?_append_right (by omega)] at hk
    have : k - ts.length = 0 := by
      refine Classical.byContradiction fun z => ?_
      rw [List.getElem?_eq_none (by show 1 ≤ _; omega)] at hk; cases hk
    rw [this] at hk; cases hk
    have : k = n := by rw [← h.len]; omega
    rw [this]; exact q
end MM
namespace MM
open PySem PySem.Spec PyProof.Rows L2 GxR
/-! ### the other bag of draws; books with meetings left out -/
def BagD (n : Nat) (H : Hp) (b : Addr) : Prop := ∃ x y z : Int, H b = some (.lst [.int x, .int y, .int z]) ∧ 0 ≤ x ∧ 0 ≤ y ∧ y < 10 ^ 41 ∧ 0 ≤ z ∧ z ≤ n
theorem BagD.mono {n m : Nat} {H : Hp} {b : Addr} (h : BagD n H b) (l : n ≤ m) : BagD m H b := let ⟨x, y, z, e, a, c, d, f, g⟩ := h; ⟨x, y, z, e, a, c, d, f, by omega⟩
theorem BagD.ex {n : Nat} {H H' : Hp} {b : Addr} (h : BagD n H b) (e : Ex H H') : BagD n H' b := let ⟨x, y, z, r⟩ := h; ⟨x, y, z, Ex.lst e r.1, r.2⟩
theorem BagD.exB {n : Nat} {H H' : Hp} {b : Addr} {B : Addr → Prop} (h : BagD n H b) (e : ExB B H H') (nb : ¬ B b) : BagD n H' b := let ⟨x, y, z, r⟩ := h; ⟨x, y, z, e.lst r.1 nb, r.2⟩
theorem BagD.some {n : Nat} {H : Hp} {b : Addr} (h : BagD n H b) : H b ≠ none := by obtain ⟨_, _, _, e, _⟩ := h; rw [e]; exact fun z => nomatch z
theorem mix_okD {y z c : Int} (hy : 0 ≤ y) (hy2 : y < 10 ^ 41) (hz : 0 ≤ z) (hz2 : z ≤ 1000000) (hc : 0 ≤ c) (hc2 : c ≤ 1000000000) {e : Int} (he : 0 ≤ e) (he2 : e ≤ 10) : CPowW (y + z * c) e := by
  have h1 : z * c ≤ 1000000 * 1000000000 := Int.mul_le_mul hz2 hc2 hc (by decide)
  have h2 : 0 ≤ z * c := Int.mul_nonneg hz hc
  refine pow_ok (k := 200) he ?_ ?_
  · have h3 : (10 : Int) ^ 41 + 1000000 * 1000000000 < 2 ^ 200 := by decide
    have h4 : (y + z * c) < 2 ^ 200 := by omega
    have h5 : ((y + z * c).natAbs : Int) < ((2 ^ 200 : Nat) : Int) := by
      rw [Int.natAbs_of_nonneg (by omega)]; exact h4
    exact Int.ofNat_lt.mp h5
  · have : (2 : Int) ^ 27 = 134217728 := by decide
    rw [this]
    have : ((200 : Nat) : Int) * e ≤ 200 * 10 := Int.mul_le_mul (by decide) he2 he (by decide)
    omega
/-- the book of the meetings whose numbers, up to n, are not among ks -/
def outS (gs ks : List Int) (n : Nat) : List Int := ((List.range n).filter fun (k : Nat) => !decide ((k : Int) ∈ ks)).map fun k => gs.getD k 0
theorem outS_succ (gs ks : List Int) (n : Nat) : outS gs ks (n + 1) = outS gs ks n ++ if (n : Int) ∈ ks then [] else [gs.getD n 0] := by
  unfold outS
  rw [List.range_succ, List.filter_append, List.map_append]
  by_cases h : (n : Int) ∈ ks
  · rw [if_pos h, List.filter_cons_of_neg (by rw [decide_eq_true h]; decide)]; rfl
  · rw [if_neg h, List.filter_cons_of_pos (by rw [decide_eq_false h]; rfl)]; rfl
theorem outS_len (gs ks : List Int) (n : Nat) : (outS gs ks n).length ≤ n := by
  unfold outS; rw [List.length_map]; exact Nat.le_trans (List.length_filter_le _ _) (by rw [List.length_range]; exact Nat.le_refl _)
theorem outS_book {m : Nat} {gs ks : List Int} (hb : BookOk m gs) {n : Nat} (hn : n ≤ gs.length) : BookOk m (outS gs ks n) := fun x hx => by
  unfold outS at hx
  obtain ⟨k, hk, rfl⟩ := List.mem_map.mp hx
  have := List.mem_range.mp (List.mem_filter.mp hk).1
  obtain ⟨g, e, hg⟩ := book_at hb (k := k) (by omega)
  rw [e]; omega
end MM
/-! zip_longest of two lists: its facts -/
namespace ZL
open PySem PySem.Spec PyProof.Rows
theorem slot_next : Slot "itertools.zip_longest" "__next__" "itertools.zip_longest.__next__" :=
  .of (owner := "itertools.zip_longest") (n := "__next__") (by rw [typeLookup_type, builtinLookup_eq_fast]; kernel_rfl) (by decide +kernel) (by decide +kernel) (by decide +kernel)
    (by first | exact .inl (by decide +kernel) | exact .inr (by decide +kernel)) (by rw [isSubtype_type]; kernel_rfl)
theorem entry_next : entryFor table "itertools.zip_longest.__next__" = some Builtin.«itertools.zip_longest.__next__» := entryFor_of_tree (by kernel_rfl)
theorem slot_iter : Slot "itertools.zip_longest" "__iter__" "itertools.zip_longest.__iter__" :=
  .of (owner := "itertools.zip_longest") (n := "__iter__") (by rw [typeLookup_type, builtinLookup_eq_fast]; kernel_rfl) (by decide +kernel) (by decide +kernel) (by decide +kernel)
    (by first | exact .inl (by decide +kernel) | exact .inr (by decide +kernel)) (by rw [isSubtype_type]; kernel_rfl)
theorem entry_iter : entryFor table "itertools.zip_longest.__iter__" = some Builtin.«dict_keyiterator.__iter__» :=
  entryFor_alias (id' := "dict_keyiterator.__iter__") (by kernel_rfl) (by first | rfl | decide +kernel | (unfold String.splitOn; simp +decide [String.splitOnAux])) (by decide +kernel) (by kernel_rfl)
theorem mro_zl : mroOf (.type "itertools.zip_longest") = pure [.type "itertools.zip_longest", .type "object"] := by rw [mroOf_type]; kernel_rfl
theorem lookup_new : typeLookup (.type "itertools.zip_longest") "__new__" = pure (some (.builtin "itertools.zip_longest.__new__")) := by rw [typeLookup_type, builtinLookup_eq_fast]; kernel_rfl
theorem slot_init : Slot "itertools.zip_longest" "__init__" "object.__init__" :=
  .of (owner := "object") (n := "__init__") (by rw [typeLookup_type, builtinLookup_eq_fast]; kernel_rfl) (by decide +kernel) (by decide +kernel) (by decide +kernel)
    (by first | exact .inl (by decide +kernel) | exact .inr (by decide +kernel)) (by rw [isSubtype_type]; kernel_rfl)
theorem called : TypeCalled "itertools.zip_longest" "itertools.zip_longest.__new__" "object.__init__" :=
  ⟨by decide +kernel, by decide +kernel, ⟨_, _, mro_zl⟩, madeBy_type mro_zl lookup_new (by decide +kernel), by decide +kernel, by rw [isSubtype_type]; kernel_rfl, slot_init⟩
theorem entry_new : entryFor table "itertools.zip_longest.__new__" = some Builtin.«itertools.zip_longest.__new__» := entryFor_of_tree (by kernel_rfl)
theorem typeCall (a b f : Value) : checkTypeCall "itertools.zip_longest" ⟨[a, b], [(Str.ofString "fillvalue", f)]⟩ = pure () := by kernel_rfl
theorem newCall (a b f : Value) : checkBuiltinCall "itertools.zip_longest.__new__" ⟨[.type "itertools.zip_longest", a, b], [(Str.ofString "fillvalue", f)]⟩ = pure () := by kernel_rfl
theorem owner_zl : Manifest.owners.lookup (String.ofList ['t', 's', 'e', 'g', 'n', 'o', 'l', '_', 'p', 'i', 'z', '.', 's', 'l', 'o', 'o', 't', 'r', 'e', 't', 'i'].reverse) = some Manifest.sig_itertools_zip_longest := by kernel_rfl
theorem args_next (a : Value) : argsOk "itertools.zip_longest.__next__" ⟨[a], []⟩ := by
  unfold argsOk; rw [signature?_of (id := "itertools.zip_longest.__next__") (n := ['_', '_', 't', 'x', 'e', 'n', '_', '_']) (o := ['t', 's', 'e', 'g', 'n', 'o', 'l', '_', 'p', 'i', 'z', '.', 's', 'l', 'o', 'o', 't', 'r', 'e', 't', 'i']) (by kernel_rfl) owner_zl]; kernel_rfl
theorem args_iter (a : Value) : argsOk "itertools.zip_longest.__iter__" ⟨[a], []⟩ := by
  unfold argsOk; rw [signature?_of (id := "itertools.zip_longest.__iter__") (n := ['_', '_', 'r', 'e', 't', 'i', '_', '_']) (o := ['t', 's', 'e', 'g', 'n', 'o', 'l', '_', 'p', 'i', 'z', '.', 's', 'l', 'o', 'o', 't', 'r', 'e', 't', 'i']) (by kernel_rfl) owner_zl]; kernel_rfl
theorem args_init (obj a b f : Value) : argsOk "object.__init__" ⟨[obj, a, b], [(Str.ofString "fillvalue", f)]⟩ := by
  unfold argsOk; rw [signature?_of (id := "object.__init__") (n := ['_', '_', 't', 'i', 'n', 'i', '_', '_']) (o := ['t', 'c', 'e', 'j', 'b', 'o']) (by kernel_rfl) F.owner_object]; kernel_rfl
theorem sub_zl : isSubtype (.type "itertools.zip_longest") (.type "itertools.zip_longest") = pure true := by rw [isSubtype_type]; kernel_rfl
end ZL
/-! zip_longest of two lists: made -/
namespace ZL
open PySem PySem.Spec PyProof.Rows
section
variable {prog : Program} {w : World} {A : Around} {E : Value → Shared → Prop} {s : Shared}
theorem object_init_kw {T newId : String} {self a b f : Value} (hl : typeLookup (.type T) "__init__" = pure (some (.builtin "object.__init__")))
    (hm : Bind.madeBy (.type T) = pure (some newId)) (hne : (some newId != some "object.__new__") = true) :
    Meets (Builtin.«object.__init__» ⟨[self, a, b], [(Str.ofString "fillvalue", f)]⟩) (fun _ R s => s.TypeIs self T ∧ R (.ok (.ret .none)) s) := by
  refine Meets.of_wp fun prog w A R s hs => ?_
  obtain ⟨hT, hq⟩ := hs
  repeat (any_goals (first | assumption | wp_step))
  exact ⟨_, rfl, hq⟩
theorem callType_kw {T newId : String} {Bn : Builtin} {a b f : Value} {S : PySem.Spec} {Q : Value → Shared → Prop} (ft : TypeCalled T newId "object.__init__")
    (hne : (some newId != some "object.__new__") = true) (hct : checkTypeCall T ⟨[a, b], [(Str.ofString "fillvalue", f)]⟩ = pure ()) (hcn : checkBuiltinCall newId ⟨[.type T, a, b], [(Str.ofString "fillvalue", f)]⟩ = pure ())
    (entryN : entryFor table newId = some Bn) (g : Meets (Bn ⟨[.type T, a, b], [(Str.ofString "fillvalue", f)]⟩) S)
    (h : S A.in1 (wants (fun obj s₁ => s₁.TypeIs obj T ∧ Q obj s₁) E) s) :
    wpAny (model prog w) A (call (.type T) [a, b] [(Str.ofString "fillvalue", f)]) Q E s := by
  obtain ⟨c, tl, hmro⟩ := ft.mro
  have hmade := ft.made
  have hsub := ft.sub
  refine wpAny_call (codeAny_of_tree ?_)
  show wpAny _ _ (callAny (.type T) _) _ _ _
  refine wpAny_pure ⟨Code.quiet_builtin _ (by decide +kernel), codeAny_builtin F.entry_type_call ?_⟩
  rw [Around.under_plain (weight_type_call_type T [a, b] [(Str.ofString "fillvalue", f)]) (units_type_call_type T [a, b] [(Str.ofString "fillvalue", f)])]
  have h1 := ft.notType
  have h2 := ft.canCreate
  repeat (any_goals (first | assumption | wp_step))
  refine codeAny_mono (codeAny_call_builtin ft.plain entryN (wpAny_of_eq hcn (g prog w A.in1 _ s h))) fun r s₁ hr => ?_
  cases r with
  | error e => exact hr
  | ok fl =>
    cases fl with
    | ret obj =>
      obtain ⟨hT, hq⟩ := hr
      have hli := ft.init.lookup
      have hbi := ft.init.bind obj
      repeat (any_goals (first | assumption | wp_step))
      refine codeAny_mono (codeAny_call_builtin ft.init.plain F.entry_object_init (ft.init.check _ _ _ _ _ _ _ _ hT (args_init obj a b f) (object_init_kw (a := a) (b := b) (f := f) ft.init.lookup ft.made hne prog w A.in1 (wants (fun r s₂ => r = .none ∧ Q obj s₂) E) s₁ ⟨hT, rfl, hq⟩))) fun r₂ s₂ hr₂ => ?_
      cases r₂ with
      | error e => exact hr₂
      | ok fl₂ =>
        cases fl₂ with
        | ret r =>
          obtain ⟨rfl, hq⟩ := hr₂
          repeat (any_goals (first | assumption | wp_step))
        | _ => exact hr₂.elim
    | _ => exact hr.elim
end
end ZL
/-! zip_longest of two lists: made, its record -/
namespace ZL
open PySem PyProof.Rows
abbrev IsZL (h : Heap) (z TI TO : Addr) (f0 : Value) (f : Value) (n : Int) : Prop :=
  h.get? z = some { cls := .type "itertools.zip_longest", dict := none, data := .fields #[f0, .bool false, f, rawInt n, .ref TI, .ref TO], slots := #[] }
abbrev zlH5 (h : Heap) (l1 l2 : Addr) (f : Value) : Heap := (zipH4 h l1 l2).push { cls := .type "itertools.zip_longest", data := .fields #[.none, .bool false, f, rawInt 2, .ref (zipH2 h l1 l2).objs.size, .ref (zipH3 h l1 l2).objs.size] }
theorem no_dict : typeHasDict (.type "itertools.zip_longest") = false := by decide +kernel
theorem meets_new (l1 l2 : Addr) (f : Value) (xs ys : Array Value) :
    Meets (Builtin.«itertools.zip_longest.__new__» ⟨[.type "itertools.zip_longest", .ref l1, .ref l2], [(Str.ofString "fillvalue", f)]⟩) (fun _ R s => s.heap.IsList l1 xs ∧ s.heap.IsList l2 ys ∧
      R (.ok (.ret (.ref (zipH4 s.heap l1 l2).objs.size))) { s with heap := zlH5 s.heap l1 l2 f }) :=
  .of_wp fun prog w A R s h => by
    obtain ⟨hp, g, d, tk, os⟩ := s; obtain ⟨hl1, hl2, h⟩ := h
    have hsub : isSubtype (.type "itertools.zip_longest") (.type ("itertools." ++ "zip_longest")) = pure true := by rw [show ("itertools." ++ "zip_longest" : String) = "itertools.zip_longest" by decide +kernel]; exact sub_zl
    have hk : (Str.ofString "fillvalue" == Str.ofString "fillvalue") = true := by decide +kernel
    have hnd := no_dict
    have hL1 : Heap.IsList (Shared.heap ⟨hp, g, d, tk, os⟩) l1 xs := hl1
    have hL2 : Heap.IsList (Shared.heap ⟨hp.push { cls := .type "list_iterator", data := .fields #[.ref l1, .int 0 0] }, g, d, tk, os⟩) l2 ys := Heap.IsList.push hl2 _
    unfold Builtin.«itertools.zip_longest.__new__» Builtin.Itertools.itClassAndRest Builtin.Itertools.itNewRecord
    wp_walk using wpAny_pyIter_list hL1, wpAny_pyIter_list hL2
    exact ⟨_, rfl, h⟩
section
variable {prog : Program} {w : World} {A : Around} {E : Value → Shared → Prop} {s : Shared}
theorem call_zl {l1 l2 : Addr} {f : Value} {xs ys : Array Value} {Q : Value → Shared → Prop} (hl1 : s.heap.IsList l1 xs) (hl2 : s.heap.IsList l2 ys)
    (h : ∀ h', IsZL h' (s.heap.objs.size + 4) (s.heap.objs.size + 2) (s.heap.objs.size + 3) .none f 2 → IsPair h' (s.heap.objs.size + 2) (.ref s.heap.objs.size) (.ref (s.heap.objs.size + 1)) →
      IsPair h' (s.heap.objs.size + 3) .none .none → h'.IsListIter s.heap.objs.size l1 0 → h'.IsListIter (s.heap.objs.size + 1) l2 0 → h'.objs.size = s.heap.objs.size + 5 →
      (∀ c o, s.heap.get? c = some o → h'.get? c = some o) → Q (.ref (s.heap.objs.size + 4)) { s with heap := h' }) :
    wpAny (model prog w) A (call (.type "itertools.zip_longest") [.ref l1, .ref l2] [(Str.ofString "fillvalue", f)]) Q E s := by
  refine callType_kw called (by decide) (typeCall _ _ _) (newCall _ _ _) entry_new (meets_new l1 l2 f xs ys) ⟨hl1, hl2, ?_⟩
  have z1 : (zipH1 s.heap l1).objs.size = s.heap.objs.size + 1 := Heap.size_push ..
  have z2 : (zipH2 s.heap l1 l2).objs.size = s.heap.objs.size + 2 := by rw [Heap.size_push, z1]
  have z3 : (zipH3 s.heap l1 l2).objs.size = s.heap.objs.size + 3 := by rw [Heap.size_push, z2]
  have z4 : (zipH4 s.heap l1 l2).objs.size = s.heap.objs.size + 4 := by rw [Heap.size_push, z3]
  have z5 : (zlH5 s.heap l1 l2 f).objs.size = s.heap.objs.size + 5 := by rw [Heap.size_push, z4]
  have g5 : (zlH5 s.heap l1 l2 f).get? (zipH4 s.heap l1 l2).objs.size = some _ := Heap.get?_push_size _ rfl
  have g4 : (zlH5 s.heap l1 l2 f).get? (zipH3 s.heap l1 l2).objs.size = some _ := Heap.get?_push_of_some _ (Heap.get?_push_size _ rfl)
  have g3 : (zlH5 s.heap l1 l2 f).get? (zipH2 s.heap l1 l2).objs.size = some _ := Heap.get?_push_of_some _ (Heap.get?_push_of_some _ (Heap.get?_push_size _ rfl))
  have g2 : (zlH5 s.heap l1 l2 f).get? (zipH1 s.heap l1).objs.size = some _ := Heap.get?_push_of_some _ (Heap.get?_push_of_some _ (Heap.get?_push_of_some _ (Heap.get?_push_size _ rfl)))
  have g1 : (zlH5 s.heap l1 l2 f).get? s.heap.objs.size = some _ := Heap.get?_push_of_some _ (Heap.get?_push_of_some _ (Heap.get?_push_of_some _ (Heap.get?_push_of_some _ (Heap.get?_push_size _ rfl))))
  show _ ∧ _
  rw [z2, z3, z4] at g5
  rw [z1, z2] at g3
  rw [z3] at g4
  rw [z1] at g2
  rw [z4]
  exact ⟨⟨_, g5, rfl⟩, h _ g5 g3 g4 ⟨_, g1, rfl, rfl⟩ ⟨_, g2, rfl, rfl⟩ z5 fun c o x =>
    Heap.get?_push_of_some _ (Heap.get?_push_of_some _ (Heap.get?_push_of_some _ (Heap.get?_push_of_some _ (Heap.get?_push_of_some _ x))))⟩
end
end ZL
/-! zip_longest of two lists: the next pair, the end -/
namespace ZL
open PySem PyProof.Rows
section
variable {prog : Program} {w : World} {A : Around} {E : Value → Shared → Prop} {s : Shared}
/-- the end of a list, met: the iterator stands on -/
theorem list_end2 {it l : Addr} {i : Nat} {items : Array Value} {Q : Option Value → Shared → Prop} (hh : A.handled = none) (hit : s.heap.IsListIter it l i) (hl : s.heap.IsList l items) (hx : items[i]? = none)
    (hQ : ∀ h', Heap.ExtBut it s.heap h' → (∃ o, h'.get? it = some o ∧ ∀ v, o.data ≠ .cell v) → Q none { s with heap := h' }) : wpAny (model prog w) A (pyNext (.ref it)) Q E s := by
  obtain ⟨⟨oc, od, oda, osl⟩, ho, hc, hd⟩ := id hit
  simp only at hc hd
  subst hc hd
  obtain ⟨ol, hol, _, nl, hdl⟩ := hl
  unfold pyNext
  refine wpAny_bind (wpAny_attempt (wpAny_callSpecial?_slot (name := Str.ofString "__next__") hit.typeIs slot_listiter_next (wpAny_call_entry slot_listiter_next hit.typeIs entry_listiter_next ?_ (args_listiter_next _))))
  show wpAny _ _ (field (.ref it) 0 >>= _) _ _ s
  refine wpAny_bind (wpAny_field ho rfl (x := .ref l) rfl ?_)
  show wpAny _ _ (if (Value.ref l == Value.none) = true then _ else _) _ _ s
  rw [if_neg (show ¬ ((Value.ref l == Value.none) = true) from Bool.false_ne_true)]
  show wpAny _ _ (field (.ref it) 1 >>= _) _ _ s
  refine wpAny_bind (wpAny_field ho rfl (x := .int i 0) rfl ?_)
  show wpAny _ _ (seqItems? (.ref l) >>= _) _ _ s
  refine wpAny_bind (wpAny_seqItems hol hdl ?_)
  simp only [Int.toNat_natCast, hx]
  refine wpAny_bind (wpAny_rule (wpAny_bind (wpAny_setField ho rfl (by simp) ?_)))
  show wpAny _ _ (newExc (.type "StopIteration") [] >>= _) _ _ _
  refine wpAny_bind ?_
  simp only [newExc, newTuple]
  refine wpAny_bind (wpAny_newObj_type ?_ (by size_fits))
  refine wpAny_bind (m := firstArgMember _ _) (wpAny_of_eq (a := Value.none) (by first | rfl | (simp only [firstArgMember]; rfl)) ?_)
  refine wpAny_newObj_type ?_ (by size_fits)
  simp only [raiseNew]
  refine wpAny_bind (wpAny_handled ?_)
  rw [show A.in1.handled = none from hh]
  refine wpAny_bind (wpAny_pure (wpAny_throw ?_))
  refine wpAny_bind (wpAny_isInstance (T := "StopIteration") (b := true) ⟨_, Heap.get?_push_size _ rfl, rfl⟩ isSubtype_stop ?_)
  exact wpAny_pure (hQ _ (((Heap.SameBut.update ..).extBut.push _).push _) ⟨_, Heap.get?_push_of_some _ (Heap.get?_push_of_some _ (Heap.get?_update_self _ ho rfl)), fun v z => nomatch z⟩)
/-- a new StopIteration, raised -/
theorem stop_new {Q : Unit → Shared → Prop} (hh : A.handled = none) (hE : ∀ h' e, (∀ c o, s.heap.get? c = some o → h'.get? c = some o) → (∃ o, h'.get? e = some o ∧ o.cls = .type "StopIteration") → E (.ref e) { s with heap := h' }) :
    wpAny (model prog w) A (newExc (.type "StopIteration") [] >>= fun e => (raiseNew e : Sem Unit)) Q E s := by
  refine wpAny_bind ?_
  simp only [newExc, newTuple]
  refine wpAny_bind (wpAny_newObj_type ?_ (by size_fits))
  refine wpAny_bind (m := firstArgMember _ _) (wpAny_of_eq (a := Value.none) (by first | rfl | (simp only [firstArgMember]; rfl)) ?_)
  refine wpAny_newObj_type ?_ (by size_fits)
  simp only [raiseNew]
  refine wpAny_bind (wpAny_handled ?_)
  rw [hh]
  refine wpAny_bind (wpAny_pure (wpAny_throw ?_))
  exact hE _ _ (fun c o e => Heap.get?_push_of_some _ (Heap.get?_push_of_some _ e)) ⟨_, Heap.get?_push_size _ rfl, rfl⟩
theorem next_ll {z TI TO i1 i2 l1 l2 : Addr} {k1 : Nat} {xs : Array Value} {k2 : Nat} {ys : Array Value} {x : Value} {y : Value} {f c d : Value} {Q : Value → Shared → Prop} (D : ZipApart z TI TO i1 i2 l1 l2) (e1 : l1 ≠ TI) (e2 : l2 ≠ TI) (hz : IsZL s.heap z TI TO .none f 2) (hTI : IsPair s.heap TI (.ref i1) (.ref i2)) (hTO : IsPair s.heap TO c d) (h1 : s.heap.IsListIter i1 l1 k1) (hl1 : s.heap.IsList l1 xs) (hx : xs[k1]? = some x) (h2 : s.heap.IsListIter i2 l2 k2) (hl2 : s.heap.IsList l2 ys) (hy : ys[k2]? = some y)
    (hQ : ∀ (h5 h' : Heap), (∀ c o, c ≠ z → c ≠ TI → c ≠ TO → c ≠ i1 → c ≠ i2 → s.heap.get? c = some o → h5.get? c = some o) → (∀ c o, c ≠ z → h5.get? c = some o → h'.get? c = some o) → IsZL h' z TI TO (rawInt h5.objs.size) f 2 → IsPair h' TI (.ref i1) (.ref i2) → IsPair h' TO x y → h'.IsListIter i1 l1 (k1 + 1) → h'.IsListIter i2 l2 (k2 + 1) → IsPair h' h5.objs.size x y → (z < h5.objs.size ∧ TI < h5.objs.size ∧ TO < h5.objs.size ∧ i1 < h5.objs.size ∧ i2 < h5.objs.size) → Q (.ref h5.objs.size) { s with heap := h' }) :
    wpAny (model prog w) A (Builtin.«itertools.zip_longest.__next__» ⟨[.ref z], []⟩) (fun fin s' => ∃ v, fin = .done (.ret v) ∧ Q v s') E s := by
  have hn : (2 : Int) ≠ 0 := by decide
  unfold Builtin.«itertools.zip_longest.__next__»
  show wpAny _ _ (Builtin.Itertools.itIntField (.ref z) 3 >>= _) _ _ _
  unfold Builtin.Itertools.itIntField
  refine wpAny_bind (wpAny_bind (wpAny_field hz rfl (x := rawInt 2) rfl ?_))
  refine wpAny_pure ?_
  rw [if_neg (show ¬ (((2 : Int) == 0) = true) by decide)]
  show wpAny _ _ (field (.ref z) 4 >>= _) _ _ _
  refine wpAny_bind (wpAny_field hz rfl (x := .ref TI) rfl ?_)
  show wpAny _ _ (Builtin.Itertools.itPoolItems (.ref TI) >>= _) _ _ _
  unfold Builtin.Itertools.itPoolItems
  refine wpAny_bind (wpAny_bind (wpAny_seqItems hTI rfl (wpAny_pure ?_)))
  show wpAny _ _ (Builtin.Itertools.itOwnedIsFree (.ref z) >>= _) _ _ _
  unfold Builtin.Itertools.itOwnedIsFree
  refine wpAny_bind (wpAny_bind (wpAny_field hz rfl (x := .none) rfl (wpAny_pure ?_)))
  simp only [if_true]
  refine wpAny_bind (wpAny_rule ?_)
  refine wpAny_bind (wpAny_field hz rfl (x := .ref TO) rfl ?_)
  refine wpAny_bind (wpAny_setField_rec hz (by simp) fun H1 z1 hs1 => ?_)
  have ti_1 : IsPair H1 TI (.ref i1) (.ref i2) := (hs1.extBut) _ _ (D.TIz) hTI
  have to_1 : IsPair H1 TO c d := (hs1.extBut) _ _ (D.TOz) hTO
  have i1_1 := h1.extBut (hs1.extBut) (D.i1z)
  have l1_1 := hl1.extBut (hs1.extBut) (D.l1z)
  have i2_1 := h2.extBut (hs1.extBut) (D.i2z)
  have l2_1 := hl2.extBut (hs1.extBut) (D.l2z)
  replace z1 : IsZL H1 z TI TO .ellipsis f 2 := z1
  refine wpAny_bind ?_
  simp only [show List.range (#[(Value.ref i1), (Value.ref i2)] : Array Value).size = [0, 1] from rfl, List.forIn_cons, List.forIn_nil]
  refine wpAny_bind (wpAny_bind (wpAny_onRaise ?_))
  show wpAny _ _ (field (.ref z) 4 >>= _) _ _ _
  refine wpAny_bind (wpAny_field z1 rfl (x := .ref TI) rfl ?_)
  show wpAny _ _ (Builtin.Itertools.itPoolItems (.ref TI) >>= _) _ _ _
  unfold Builtin.Itertools.itPoolItems
  refine wpAny_bind (wpAny_bind (wpAny_seqItems ti_1 rfl (wpAny_pure ?_)))
  show wpAny _ _ (field (.ref z) 2 >>= _) _ _ _
  refine wpAny_bind (wpAny_field z1 rfl (x := f) rfl ?_)
  show wpAny _ _ (if (Value.ref i1 == Value.none) = true then _ else _) _ _ _
  rw [if_neg (show ¬ ((Value.ref i1 == Value.none) = true) from Bool.false_ne_true)]
  refine wpAny_bind (wpAny_onRaise ?_)
  refine wpAny_pyNext_list_item i1_1 l1_1 hx fun H2 it2 hs2 => ?_
  have z_2 : IsZL H2 z TI TO .ellipsis f 2 := (hs2.extBut) _ _ (D.i1z.symm) z1
  have ti_2 : IsPair H2 TI (.ref i1) (.ref i2) := (hs2.extBut) _ _ (D.TIi1) ti_1
  have to_2 : IsPair H2 TO c d := (hs2.extBut) _ _ (D.TOi1) to_1
  have l1_2 := l1_1.extBut (hs2.extBut) (D.l1i1)
  have i2_2 := i2_1.extBut (hs2.extBut) (D.i12.symm)
  have l2_2 := l2_1.extBut (hs2.extBut) (D.l2i1)
  refine wpAny_pure ?_
  show wpAny _ _ (Builtin.Itertools.itPoolItems (.ref TO) >>= _) _ _ _
  unfold Builtin.Itertools.itPoolItems
  refine wpAny_bind (wpAny_bind (wpAny_seqItems to_2 rfl (wpAny_pure ?_)))
  refine wpAny_bind (wpAny_updateSeq_pair to_2 fun H3 o3 hs3 => ?_)
  have z_3 : IsZL H3 z TI TO .ellipsis f 2 := (hs3.extBut) _ _ (D.TOz.symm) z_2
  have ti_3 : IsPair H3 TI (.ref i1) (.ref i2) := (hs3.extBut) _ _ (D.TITO) ti_2
  have i1_3 := it2.extBut (hs3.extBut) (D.TOi1.symm)
  have l1_3 := l1_2.extBut (hs3.extBut) (D.l1TO)
  have i2_3 := i2_2.extBut (hs3.extBut) (D.TOi2.symm)
  have l2_3 := l2_2.extBut (hs3.extBut) (D.l2TO)
  replace o3 : IsPair H3 TO x d := o3
  refine wpAny_bind (wpAny_letGo (wpAny_pure ?_))
  refine wpAny_bind (wpAny_bind (wpAny_onRaise ?_))
  show wpAny _ _ (field (.ref z) 4 >>= _) _ _ _
  refine wpAny_bind (wpAny_field z_3 rfl (x := .ref TI) rfl ?_)
  show wpAny _ _ (Builtin.Itertools.itPoolItems (.ref TI) >>= _) _ _ _
  unfold Builtin.Itertools.itPoolItems
  refine wpAny_bind (wpAny_bind (wpAny_seqItems ti_3 rfl (wpAny_pure ?_)))
  show wpAny _ _ (field (.ref z) 2 >>= _) _ _ _
  refine wpAny_bind (wpAny_field z_3 rfl (x := f) rfl ?_)
  show wpAny _ _ (if (Value.ref i2 == Value.none) = true then _ else _) _ _ _
  rw [if_neg (show ¬ ((Value.ref i2 == Value.none) = true) from Bool.false_ne_true)]
  refine wpAny_bind (wpAny_onRaise ?_)
  refine wpAny_pyNext_list_item i2_3 l2_3 hy fun H4 it4 hs4 => ?_
  have z_4 : IsZL H4 z TI TO .ellipsis f 2 := (hs4.extBut) _ _ (D.i2z.symm) z_3
  have ti_4 : IsPair H4 TI (.ref i1) (.ref i2) := (hs4.extBut) _ _ (D.TIi2) ti_3
  have to_4 : IsPair H4 TO x d := (hs4.extBut) _ _ (D.TOi2) o3
  have i1_4 := i1_3.extBut (hs4.extBut) (D.i12)
  have l1_4 := l1_3.extBut (hs4.extBut) (D.l1i2)
  have l2_4 := l2_3.extBut (hs4.extBut) (D.l2i2)
  refine wpAny_pure ?_
  show wpAny _ _ (Builtin.Itertools.itPoolItems (.ref TO) >>= _) _ _ _
  unfold Builtin.Itertools.itPoolItems
  refine wpAny_bind (wpAny_bind (wpAny_seqItems to_4 rfl (wpAny_pure ?_)))
  refine wpAny_bind (wpAny_updateSeq_pair to_4 fun H5 o5 hs5 => ?_)
  have z_5 : IsZL H5 z TI TO .ellipsis f 2 := (hs5.extBut) _ _ (D.TOz.symm) z_4
  have ti_5 : IsPair H5 TI (.ref i1) (.ref i2) := (hs5.extBut) _ _ (D.TITO) ti_4
  have i1_5 := i1_4.extBut (hs5.extBut) (D.TOi1.symm)
  have l1_5 := l1_4.extBut (hs5.extBut) (D.l1TO)
  have i2_5 := it4.extBut (hs5.extBut) (D.TOi2.symm)
  have l2_5 := l2_4.extBut (hs5.extBut) (D.l2TO)
  replace o5 : IsPair H5 TO x y := o5
  refine wpAny_bind (wpAny_letGo (wpAny_pure (wpAny_pure ?_)))
  show wpAny _ _ (Builtin.Itertools.itPoolItems (.ref TO) >>= _) _ _ _
  unfold Builtin.Itertools.itPoolItems
  refine wpAny_bind (wpAny_bind (wpAny_seqItems o5 rfl (wpAny_pure ?_)))
  refine wpAny_bind (wpAny_newTuple ?_)
  show wpAny _ _ (Builtin.Itertools.itOwnedHandOut (.ref z) (.ref H5.objs.size) >>= _) _ _ _
  unfold Builtin.Itertools.itOwnedHandOut
  have zlt : z < H5.objs.size := Heap.lt_size z_5
  have zp : IsZL (H5.push { cls := .type "tuple", data := .seq #[x, y] }) z TI TO .ellipsis f 2 := Heap.get?_push_of_some _ z_5
  refine wpAny_bind (wpAny_bind (wpAny_setField_rec zp (by simp) fun HA zA sA => ?_))
  replace zA : IsZL HA z TI TO (rawInt H5.objs.size) f 2 := zA
  refine wpAny_setField_rec zA (by simp) fun HB zB sB => ?_
  replace zB : IsZL HB z TI TO (rawInt H5.objs.size) f 2 := zB
  have up : ∀ c o, c ≠ z → H5.get? c = some o → HB.get? c = some o := fun c o cz e => sB.extBut _ _ cz (sA.extBut _ _ cz (Heap.get?_push_of_some _ e))
  have hT : IsPair HB H5.objs.size x y := sB.extBut _ _ (Nat.ne_of_gt zlt) (sA.extBut _ _ (Nat.ne_of_gt zlt) (Heap.get?_push_size _ rfl))
  exact wpAny_pure ⟨_, rfl, hQ H5 HB (fun c o cz cTI cTO c1 c2 e => ((hs5.extBut) _ _ cTO ((hs4.extBut) _ _ c2 ((hs3.extBut) _ _ cTO ((hs2.extBut) _ _ c1 ((hs1.extBut) _ _ cz e)))))) up zB (up _ _ D.TIz ti_5) (up _ _ D.TOz o5) (i1_5.at fun o e => up _ o D.i1z e) (i2_5.at fun o e => up _ o D.i2z e) hT ⟨Heap.lt_size z_5, Heap.lt_size ti_5, Heap.lt_size o5, (let ⟨_, e, _⟩ := i1_5; Heap.lt_size e), (let ⟨_, e, _⟩ := i2_5; Heap.lt_size e)⟩⟩
theorem next_le {z TI TO i1 i2 l1 l2 : Addr} {k1 : Nat} {xs : Array Value} {k2 : Nat} {ys : Array Value} {x : Value} {f c d : Value} {Q : Value → Shared → Prop} (D : ZipApart z TI TO i1 i2 l1 l2) (e1 : l1 ≠ TI) (e2 : l2 ≠ TI) (hh : A.handled = none) (hz : IsZL s.heap z TI TO .none f 2) (hTI : IsPair s.heap TI (.ref i1) (.ref i2)) (hTO : IsPair s.heap TO c d) (h1 : s.heap.IsListIter i1 l1 k1) (hl1 : s.heap.IsList l1 xs) (hx : xs[k1]? = some x) (h2 : s.heap.IsListIter i2 l2 k2) (hl2 : s.heap.IsList l2 ys) (hy : ys[k2]? = none)
    (hQ : ∀ (h5 h' : Heap), (∀ c o, c ≠ z → c ≠ TI → c ≠ TO → c ≠ i1 → c ≠ i2 → s.heap.get? c = some o → h5.get? c = some o) → (∀ c o, c ≠ z → h5.get? c = some o → h'.get? c = some o) → IsZL h' z TI TO (rawInt h5.objs.size) f 1 → IsPair h' TI (.ref i1) .none → IsPair h' TO x f → h'.IsListIter i1 l1 (k1 + 1) → (∃ o, h'.get? i2 = some o ∧ ∀ v, o.data ≠ .cell v) → IsPair h' h5.objs.size x f → (z < h5.objs.size ∧ TI < h5.objs.size ∧ TO < h5.objs.size ∧ i1 < h5.objs.size ∧ i2 < h5.objs.size) → Q (.ref h5.objs.size) { s with heap := h' }) :
    wpAny (model prog w) A (Builtin.«itertools.zip_longest.__next__» ⟨[.ref z], []⟩) (fun fin s' => ∃ v, fin = .done (.ret v) ∧ Q v s') E s := by
  have hn : (2 : Int) ≠ 0 := by decide
  unfold Builtin.«itertools.zip_longest.__next__»
  show wpAny _ _ (Builtin.Itertools.itIntField (.ref z) 3 >>= _) _ _ _
  unfold Builtin.Itertools.itIntField
  refine wpAny_bind (wpAny_bind (wpAny_field hz rfl (x := rawInt 2) rfl ?_))
  refine wpAny_pure ?_
  rw [if_neg (show ¬ (((2 : Int) == 0) = true) by decide)]
  show wpAny _ _ (field (.ref z) 4 >>= _) _ _ _
  refine wpAny_bind (wpAny_field hz rfl (x := .ref TI) rfl ?_)
  show wpAny _ _ (Builtin.Itertools.itPoolItems (.ref TI) >>= _) _ _ _
  unfold Builtin.Itertools.itPoolItems
  refine wpAny_bind (wpAny_bind (wpAny_seqItems hTI rfl (wpAny_pure ?_)))
  show wpAny _ _ (Builtin.Itertools.itOwnedIsFree (.ref z) >>= _) _ _ _
  unfold Builtin.Itertools.itOwnedIsFree
  refine wpAny_bind (wpAny_bind (wpAny_field hz rfl (x := .none) rfl (wpAny_pure ?_)))
  simp only [if_true]
  refine wpAny_bind (wpAny_rule ?_)
  refine wpAny_bind (wpAny_field hz rfl (x := .ref TO) rfl ?_)
  refine wpAny_bind (wpAny_setField_rec hz (by simp) fun H1 z1 hs1 => ?_)
  have ti_1 : IsPair H1 TI (.ref i1) (.ref i2) := (hs1.extBut) _ _ (D.TIz) hTI
  have to_1 : IsPair H1 TO c d := (hs1.extBut) _ _ (D.TOz) hTO
  have i1_1 := h1.extBut (hs1.extBut) (D.i1z)
  have l1_1 := hl1.extBut (hs1.extBut) (D.l1z)
  have i2_1 := h2.extBut (hs1.extBut) (D.i2z)
  have l2_1 := hl2.extBut (hs1.extBut) (D.l2z)
  replace z1 : IsZL H1 z TI TO .ellipsis f 2 := z1
  refine wpAny_bind ?_
  simp only [show List.range (#[(Value.ref i1), (Value.ref i2)] : Array Value).size = [0, 1] from rfl, List.forIn_cons, List.forIn_nil]
  refine wpAny_bind (wpAny_bind (wpAny_onRaise ?_))
  show wpAny _ _ (field (.ref z) 4 >>= _) _ _ _
  refine wpAny_bind (wpAny_field z1 rfl (x := .ref TI) rfl ?_)
  show wpAny _ _ (Builtin.Itertools.itPoolItems (.ref TI) >>= _) _ _ _
  unfold Builtin.Itertools.itPoolItems
  refine wpAny_bind (wpAny_bind (wpAny_seqItems ti_1 rfl (wpAny_pure ?_)))
  show wpAny _ _ (field (.ref z) 2 >>= _) _ _ _
  refine wpAny_bind (wpAny_field z1 rfl (x := f) rfl ?_)
  show wpAny _ _ (if (Value.ref i1 == Value.none) = true then _ else _) _ _ _
  rw [if_neg (show ¬ ((Value.ref i1 == Value.none) = true) from Bool.false_ne_true)]
  refine wpAny_bind (wpAny_onRaise ?_)
  refine wpAny_pyNext_list_item i1_1 l1_1 hx fun H2 it2 hs2 => ?_
  have z_2 : IsZL H2 z TI TO .ellipsis f 2 := (hs2.extBut) _ _ (D.i1z.symm) z1
  have ti_2 : IsPair H2 TI (.ref i1) (.ref i2) := (hs2.extBut) _ _ (D.TIi1) ti_1
  have to_2 : IsPair H2 TO c d := (hs2.extBut) _ _ (D.TOi1) to_1
  have l1_2 := l1_1.extBut (hs2.extBut) (D.l1i1)
  have i2_2 := i2_1.extBut (hs2.extBut) (D.i12.symm)
  have l2_2 := l2_1.extBut (hs2.extBut) (D.l2i1)
  refine wpAny_pure ?_
  show wpAny _ _ (Builtin.Itertools.itPoolItems (.ref TO) >>= _) _ _ _
  unfold Builtin.Itertools.itPoolItems
  refine wpAny_bind (wpAny_bind (wpAny_seqItems to_2 rfl (wpAny_pure ?_)))
  refine wpAny_bind (wpAny_updateSeq_pair to_2 fun H3 o3 hs3 => ?_)
  have z_3 : IsZL H3 z TI TO .ellipsis f 2 := (hs3.extBut) _ _ (D.TOz.symm) z_2
  have ti_3 : IsPair H3 TI (.ref i1) (.ref i2) := (hs3.extBut) _ _ (D.TITO) ti_2
  have i1_3 := it2.extBut (hs3.extBut) (D.TOi1.symm)
  have l1_3 := l1_2.extBut (hs3.extBut) (D.l1TO)
  have i2_3 := i2_2.extBut (hs3.extBut) (D.TOi2.symm)
  have l2_3 := l2_2.extBut (hs3.extBut) (D.l2TO)
  replace o3 : IsPair H3 TO x d := o3
  refine wpAny_bind (wpAny_letGo (wpAny_pure ?_))
  refine wpAny_bind (wpAny_bind (wpAny_onRaise ?_))
  show wpAny _ _ (field (.ref z) 4 >>= _) _ _ _
  refine wpAny_bind (wpAny_field z_3 rfl (x := .ref TI) rfl ?_)
  show wpAny _ _ (Builtin.Itertools.itPoolItems (.ref TI) >>= _) _ _ _
  unfold Builtin.Itertools.itPoolItems
  refine wpAny_bind (wpAny_bind (wpAny_seqItems ti_3 rfl (wpAny_pure ?_)))
  show wpAny _ _ (field (.ref z) 2 >>= _) _ _ _
  refine wpAny_bind (wpAny_field z_3 rfl (x := f) rfl ?_)
  show wpAny _ _ (if (Value.ref i2 == Value.none) = true then _ else _) _ _ _
  rw [if_neg (show ¬ ((Value.ref i2 == Value.none) = true) from Bool.false_ne_true)]
  refine wpAny_bind (wpAny_onRaise ?_)
  refine list_end2 hh i2_3 l2_3 hy fun H4 hs4 xx4 => ?_
  have z_4 : IsZL H4 z TI TO .ellipsis f 2 := (hs4) _ _ (D.i2z.symm) z_3
  have ti_4 : IsPair H4 TI (.ref i1) (.ref i2) := (hs4) _ _ (D.TIi2) ti_3
  have to_4 : IsPair H4 TO x d := (hs4) _ _ (D.TOi2) o3
  have i1_4 := i1_3.extBut (hs4) (D.i12)
  have l1_4 := l1_3.extBut (hs4) (D.l1i2)
  have l2_4 := l2_3.extBut (hs4) (D.l2i2)
  show wpAny _ _ (Builtin.Itertools.itPoolItems (.ref TI) >>= _) _ _ _
  unfold Builtin.Itertools.itPoolItems
  refine wpAny_bind (wpAny_bind (wpAny_seqItems ti_4 rfl (wpAny_pure ?_)))
  show wpAny _ _ (if (Value.ref i2 == Value.none) = true then _ else _) _ _ _
  rw [if_neg (show ¬ ((Value.ref i2 == Value.none) = true) from Bool.false_ne_true)]
  show wpAny _ _ (Builtin.Itertools.itIntField (.ref z) 3 >>= _) _ _ _
  unfold Builtin.Itertools.itIntField
  refine wpAny_bind (wpAny_bind (wpAny_field z_4 rfl (x := rawInt 2) rfl (wpAny_pure ?_)))
  refine wpAny_bind (wpAny_setField_rec z_4 (by simp) fun H5 z5 hs5 => ?_)
  have ti_5 : IsPair H5 TI (.ref i1) (.ref i2) := (hs5.extBut) _ _ (D.TIz) ti_4
  have to_5 : IsPair H5 TO x d := (hs5.extBut) _ _ (D.TOz) to_4
  have i1_5 := i1_4.extBut (hs5.extBut) (D.i1z)
  have l1_5 := l1_4.extBut (hs5.extBut) (D.l1z)
  have l2_5 := l2_4.extBut (hs5.extBut) (D.l2z)
  have x2_5 : ∃ o, H5.get? i2 = some o ∧ ∀ v, o.data ≠ .cell v := let ⟨o, a, b⟩ := xx4; ⟨o, (hs5.extBut) _ _ (D.i2z) a, b⟩
  replace z5 : IsZL H5 z TI TO .ellipsis f (2 - 1) := z5
  replace z5 : IsZL H5 z TI TO .ellipsis f 1 := z5
  show wpAny _ _ (if ((2 : Int) == 1) = true then _ else _) _ _ _
  rw [if_neg (by decide)]
  refine wpAny_bind (wpAny_rule ?_)
  refine wpAny_bind (wpAny_updateSeq_pair ti_5 fun H6 t6 hs6 => ?_)
  have z_6 : IsZL H6 z TI TO .ellipsis f 1 := (hs6.extBut) _ _ (D.TIz.symm) z5
  have to_6 : IsPair H6 TO x d := (hs6.extBut) _ _ (D.TITO.symm) to_5
  have i1_6 := i1_5.extBut (hs6.extBut) (D.TIi1.symm)
  have l1_6 := l1_5.extBut (hs6.extBut) (e1)
  have l2_6 := l2_5.extBut (hs6.extBut) (e2)
  have x2_6 : ∃ o, H6.get? i2 = some o ∧ ∀ v, o.data ≠ .cell v := let ⟨o, a, b⟩ := x2_5; ⟨o, (hs6.extBut) _ _ (D.TIi2.symm) a, b⟩
  replace t6 : IsPair H6 TI (.ref i1) .none := t6
  refine wpAny_bind (wpAny_letGo (wpAny_pure ?_))
  show wpAny _ _ (Builtin.Itertools.itPoolItems (.ref TO) >>= _) _ _ _
  unfold Builtin.Itertools.itPoolItems
  refine wpAny_bind (wpAny_bind (wpAny_seqItems to_6 rfl (wpAny_pure ?_)))
  refine wpAny_bind (wpAny_updateSeq_pair to_6 fun H7 o7 hs7 => ?_)
  have z_7 : IsZL H7 z TI TO .ellipsis f 1 := (hs7.extBut) _ _ (D.TOz.symm) z_6
  have ti_7 : IsPair H7 TI (.ref i1) .none := (hs7.extBut) _ _ (D.TITO) t6
  have i1_7 := i1_6.extBut (hs7.extBut) (D.TOi1.symm)
  have l1_7 := l1_6.extBut (hs7.extBut) (D.l1TO)
  have l2_7 := l2_6.extBut (hs7.extBut) (D.l2TO)
  have x2_7 : ∃ o, H7.get? i2 = some o ∧ ∀ v, o.data ≠ .cell v := let ⟨o, a, b⟩ := x2_6; ⟨o, (hs7.extBut) _ _ (D.TOi2.symm) a, b⟩
  replace o7 : IsPair H7 TO x f := o7
  refine wpAny_bind (wpAny_letGo (wpAny_pure (wpAny_pure ?_)))
  show wpAny _ _ (Builtin.Itertools.itPoolItems (.ref TO) >>= _) _ _ _
  unfold Builtin.Itertools.itPoolItems
  refine wpAny_bind (wpAny_bind (wpAny_seqItems o7 rfl (wpAny_pure ?_)))
  refine wpAny_bind (wpAny_newTuple ?_)
  show wpAny _ _ (Builtin.Itertools.itOwnedHandOut (.ref z) (.ref H7.objs.size) >>= _) _ _ _
  unfold Builtin.Itertools.itOwnedHandOut
  have zlt : z < H7.objs.size := Heap.lt_size z_7
  have zp : IsZL (H7.push { cls := .type "tuple", data := .seq #[x, f] }) z TI TO .ellipsis f 1 := Heap.get?_push_of_some _ z_7
  refine wpAny_bind (wpAny_bind (wpAny_setField_rec zp (by simp) fun HA zA sA => ?_))
  replace zA : IsZL HA z TI TO (rawInt H7.objs.size) f 1 := zA
  refine wpAny_setField_rec zA (by simp) fun HB zB sB => ?_
  replace zB : IsZL HB z TI TO (rawInt H7.objs.size) f 1 := zB
  have up : ∀ c o, c ≠ z → H7.get? c = some o → HB.get? c = some o := fun c o cz e => sB.extBut _ _ cz (sA.extBut _ _ cz (Heap.get?_push_of_some _ e))
  have hT : IsPair HB H7.objs.size x f := sB.extBut _ _ (Nat.ne_of_gt zlt) (sA.extBut _ _ (Nat.ne_of_gt zlt) (Heap.get?_push_size _ rfl))
  exact wpAny_pure ⟨_, rfl, hQ H7 HB (fun c o cz cTI cTO c1 c2 e => ((hs7.extBut) _ _ cTO ((hs6.extBut) _ _ cTI ((hs5.extBut) _ _ cz (hs4 _ _ c2 ((hs3.extBut) _ _ cTO ((hs2.extBut) _ _ c1 ((hs1.extBut) _ _ cz e)))))))) up zB (up _ _ D.TIz ti_7) (up _ _ D.TOz o7) (i1_7.at fun o e => up _ o D.i1z e) (let ⟨o, a, b⟩ := x2_7; ⟨o, up _ _ D.i2z a, b⟩) hT ⟨Heap.lt_size z_7, Heap.lt_size ti_7, Heap.lt_size o7, (let ⟨_, e, _⟩ := i1_7; Heap.lt_size e), (let ⟨_, e, _⟩ := x2_7; Heap.lt_size e)⟩⟩
theorem next_el {z TI TO i1 i2 l1 l2 : Addr} {k1 : Nat} {xs : Array Value} {k2 : Nat} {ys : Array Value} {y : Value} {f c d : Value} {Q : Value → Shared → Prop} (D : ZipApart z TI TO i1 i2 l1 l2) (e1 : l1 ≠ TI) (e2 : l2 ≠ TI) (hh : A.handled = none) (hz : IsZL s.heap z TI TO .none f 2) (hTI : IsPair s.heap TI (.ref i1) (.ref i2)) (hTO : IsPair s.heap TO c d) (h1 : s.heap.IsListIter i1 l1 k1) (hl1 : s.heap.IsList l1 xs) (hx : xs[k1]? = none) (h2 : s.heap.IsListIter i2 l2 k2) (hl2 : s.heap.IsList l2 ys) (hy : ys[k2]? = some y)
    (hQ : ∀ (h5 h' : Heap), (∀ c o, c ≠ z → c ≠ TI → c ≠ TO → c ≠ i1 → c ≠ i2 → s.heap.get? c = some o → h5.get? c = some o) → (∀ c o, c ≠ z → h5.get? c = some o → h'.get? c = some o) → IsZL h' z TI TO (rawInt h5.objs.size) f 1 → IsPair h' TI .none (.ref i2) → IsPair h' TO f y → (∃ o, h'.get? i1 = some o ∧ ∀ v, o.data ≠ .cell v) → h'.IsListIter i2 l2 (k2 + 1) → IsPair h' h5.objs.size f y → (z < h5.objs.size ∧ TI < h5.objs.size ∧ TO < h5.objs.size ∧ i1 < h5.objs.size ∧ i2 < h5.objs.size) → Q (.ref h5.objs.size) { s with heap := h' }) :
    wpAny (model prog w) A (Builtin.«itertools.zip_longest.__next__» ⟨[.ref z], []⟩) (fun fin s' => ∃ v, fin = .done (.ret v) ∧ Q v s') E s := by
  have hn : (2 : Int) ≠ 0 := by decide
  unfold Builtin.«itertools.zip_longest.__next__»
  show wpAny _ _ (Builtin.Itertools.itIntField (.ref z) 3 >>= _) _ _ _
  unfold Builtin.Itertools.itIntField
  refine wpAny_bind (wpAny_bind (wpAny_field hz rfl (x := rawInt 2) rfl ?_))
  refine wpAny_pure ?_
  rw [if_neg (show ¬ (((2 : Int) == 0) = true) by decide)]
  show wpAny _ _ (field (.ref z) 4 >>= _) _ _ _
  refine wpAny_bind (wpAny_field hz rfl (x := .ref TI) rfl ?_)
  show wpAny _ _ (Builtin.Itertools.itPoolItems (.ref TI) >>= _) _ _ _
  unfold Builtin.Itertools.itPoolItems
  refine wpAny_bind (wpAny_bind (wpAny_seqItems hTI rfl (wpAny_pure ?_)))
  show wpAny _ _ (Builtin.Itertools.itOwnedIsFree (.ref z) >>= _) _ _ _
  unfold Builtin.Itertools.itOwnedIsFree
  refine wpAny_bind (wpAny_bind (wpAny_field hz rfl (x := .none) rfl (wpAny_pure ?_)))
  simp only [if_true]
  refine wpAny_bind (wpAny_rule ?_)
  refine wpAny_bind (wpAny_field hz rfl (x := .ref TO) rfl ?_)
  refine wpAny_bind (wpAny_setField_rec hz (by simp) fun H1 z1 hs1 => ?_)
  have ti_1 : IsPair H1 TI (.ref i1) (.ref i2) := (hs1.extBut) _ _ (D.TIz) hTI
  have to_1 : IsPair H1 TO c d := (hs1.extBut) _ _ (D.TOz) hTO
  have i1_1 := h1.extBut (hs1.extBut) (D.i1z)
  have l1_1 := hl1.extBut (hs1.extBut) (D.l1z)
  have i2_1 := h2.extBut (hs1.extBut) (D.i2z)
  have l2_1 := hl2.extBut (hs1.extBut) (D.l2z)
  replace z1 : IsZL H1 z TI TO .ellipsis f 2 := z1
  refine wpAny_bind ?_
  simp only [show List.range (#[(Value.ref i1), (Value.ref i2)] : Array Value).size = [0, 1] from rfl, List.forIn_cons, List.forIn_nil]
  refine wpAny_bind (wpAny_bind (wpAny_onRaise ?_))
  show wpAny _ _ (field (.ref z) 4 >>= _) _ _ _
  refine wpAny_bind (wpAny_field z1 rfl (x := .ref TI) rfl ?_)
  show wpAny _ _ (Builtin.Itertools.itPoolItems (.ref TI) >>= _) _ _ _
  unfold Builtin.Itertools.itPoolItems
  refine wpAny_bind (wpAny_bind (wpAny_seqItems ti_1 rfl (wpAny_pure ?_)))
  show wpAny _ _ (field (.ref z) 2 >>= _) _ _ _
  refine wpAny_bind (wpAny_field z1 rfl (x := f) rfl ?_)
  show wpAny _ _ (if (Value.ref i1 == Value.none) = true then _ else _) _ _ _
  rw [if_neg (show ¬ ((Value.ref i1 == Value.none) = true) from Bool.false_ne_true)]
  refine wpAny_bind (wpAny_onRaise ?_)
  refine list_end2 hh i1_1 l1_1 hx fun H2 hs2 xx2 => ?_
  have z_2 : IsZL H2 z TI TO .ellipsis f 2 := (hs2) _ _ (D.i1z.symm) z1
  have ti_2 : IsPair H2 TI (.ref i1) (.ref i2) := (hs2) _ _ (D.TIi1) ti_1
  have to_2 : IsPair H2 TO c d := (hs2) _ _ (D.TOi1) to_1
  have l1_2 := l1_1.extBut (hs2) (D.l1i1)
  have i2_2 := i2_1.extBut (hs2) (D.i12.symm)
  have l2_2 := l2_1.extBut (hs2) (D.l2i1)
  show wpAny _ _ (Builtin.Itertools.itPoolItems (.ref TI) >>= _) _ _ _
  unfold Builtin.Itertools.itPoolItems
  refine wpAny_bind (wpAny_bind (wpAny_seqItems ti_2 rfl (wpAny_pure ?_)))
  show wpAny _ _ (if (Value.ref i1 == Value.none) = true then _ else _) _ _ _
  rw [if_neg (show ¬ ((Value.ref i1 == Value.none) = true) from Bool.false_ne_true)]
  show wpAny _ _ (Builtin.Itertools.itIntField (.ref z) 3 >>= _) _ _ _
  unfold Builtin.Itertools.itIntField
  refine wpAny_bind (wpAny_bind (wpAny_field z_2 rfl (x := rawInt 2) rfl (wpAny_pure ?_)))
  refine wpAny_bind (wpAny_setField_rec z_2 (by simp) fun H3 z3 hs3 => ?_)
  have ti_3 : IsPair H3 TI (.ref i1) (.ref i2) := (hs3.extBut) _ _ (D.TIz) ti_2
  have to_3 : IsPair H3 TO c d := (hs3.extBut) _ _ (D.TOz) to_2
  have l1_3 := l1_2.extBut (hs3.extBut) (D.l1z)
  have i2_3 := i2_2.extBut (hs3.extBut) (D.i2z)
  have l2_3 := l2_2.extBut (hs3.extBut) (D.l2z)
  have x1_3 : ∃ o, H3.get? i1 = some o ∧ ∀ v, o.data ≠ .cell v := let ⟨o, a, b⟩ := xx2; ⟨o, (hs3.extBut) _ _ (D.i1z) a, b⟩
  replace z3 : IsZL H3 z TI TO .ellipsis f (2 - 1) := z3
  replace z3 : IsZL H3 z TI TO .ellipsis f 1 := z3
  show wpAny _ _ (if ((2 : Int) == 1) = true then _ else _) _ _ _
  rw [if_neg (by decide)]
  refine wpAny_bind (wpAny_rule ?_)
  refine wpAny_bind (wpAny_updateSeq_pair ti_3 fun H4 t4 hs4 => ?_)
  have z_4 : IsZL H4 z TI TO .ellipsis f 1 := (hs4.extBut) _ _ (D.TIz.symm) z3
  have to_4 : IsPair H4 TO c d := (hs4.extBut) _ _ (D.TITO.symm) to_3
  have l1_4 := l1_3.extBut (hs4.extBut) (e1)
  have i2_4 := i2_3.extBut (hs4.extBut) (D.TIi2.symm)
  have l2_4 := l2_3.extBut (hs4.extBut) (e2)
  have x1_4 : ∃ o, H4.get? i1 = some o ∧ ∀ v, o.data ≠ .cell v := let ⟨o, a, b⟩ := x1_3; ⟨o, (hs4.extBut) _ _ (D.TIi1.symm) a, b⟩
  replace t4 : IsPair H4 TI .none (.ref i2) := t4
  refine wpAny_bind (wpAny_letGo (wpAny_pure ?_))
  show wpAny _ _ (Builtin.Itertools.itPoolItems (.ref TO) >>= _) _ _ _
  unfold Builtin.Itertools.itPoolItems
  refine wpAny_bind (wpAny_bind (wpAny_seqItems to_4 rfl (wpAny_pure ?_)))
  refine wpAny_bind (wpAny_updateSeq_pair to_4 fun H5 o5 hs5 => ?_)
  have z_5 : IsZL H5 z TI TO .ellipsis f 1 := (hs5.extBut) _ _ (D.TOz.symm) z_4
  have ti_5 : IsPair H5 TI .none (.ref i2) := (hs5.extBut) _ _ (D.TITO) t4
  have l1_5 := l1_4.extBut (hs5.extBut) (D.l1TO)
  have i2_5 := i2_4.extBut (hs5.extBut) (D.TOi2.symm)
  have l2_5 := l2_4.extBut (hs5.extBut) (D.l2TO)
  have x1_5 : ∃ o, H5.get? i1 = some o ∧ ∀ v, o.data ≠ .cell v := let ⟨o, a, b⟩ := x1_4; ⟨o, (hs5.extBut) _ _ (D.TOi1.symm) a, b⟩
  replace o5 : IsPair H5 TO f d := o5
  refine wpAny_bind (wpAny_letGo (wpAny_pure ?_))
  refine wpAny_bind (wpAny_bind (wpAny_onRaise ?_))
  show wpAny _ _ (field (.ref z) 4 >>= _) _ _ _
  refine wpAny_bind (wpAny_field z_5 rfl (x := .ref TI) rfl ?_)
  show wpAny _ _ (Builtin.Itertools.itPoolItems (.ref TI) >>= _) _ _ _
  unfold Builtin.Itertools.itPoolItems
  refine wpAny_bind (wpAny_bind (wpAny_seqItems ti_5 rfl (wpAny_pure ?_)))
  show wpAny _ _ (field (.ref z) 2 >>= _) _ _ _
  refine wpAny_bind (wpAny_field z_5 rfl (x := f) rfl ?_)
  show wpAny _ _ (if (Value.ref i2 == Value.none) = true then _ else _) _ _ _
  rw [if_neg (show ¬ ((Value.ref i2 == Value.none) = true) from Bool.false_ne_true)]
  refine wpAny_bind (wpAny_onRaise ?_)
  refine wpAny_pyNext_list_item i2_5 l2_5 hy fun H6 it6 hs6 => ?_
  have z_6 : IsZL H6 z TI TO .ellipsis f 1 := (hs6.extBut) _ _ (D.i2z.symm) z_5
  have ti_6 : IsPair H6 TI .none (.ref i2) := (hs6.extBut) _ _ (D.TIi2) ti_5
  have to_6 : IsPair H6 TO f d := (hs6.extBut) _ _ (D.TOi2) o5
  have l1_6 := l1_5.extBut (hs6.extBut) (D.l1i2)
  have l2_6 := l2_5.extBut (hs6.extBut) (D.l2i2)
  have x1_6 : ∃ o, H6.get? i1 = some o ∧ ∀ v, o.data ≠ .cell v := let ⟨o, a, b⟩ := x1_5; ⟨o, (hs6.extBut) _ _ (D.i12) a, b⟩
  refine wpAny_pure ?_
  show wpAny _ _ (Builtin.Itertools.itPoolItems (.ref TO) >>= _) _ _ _
  unfold Builtin.Itertools.itPoolItems
  refine wpAny_bind (wpAny_bind (wpAny_seqItems to_6 rfl (wpAny_pure ?_)))
  refine wpAny_bind (wpAny_updateSeq_pair to_6 fun H7 o7 hs7 => ?_)
  have z_7 : IsZL H7 z TI TO .ellipsis f 1 := (hs7.extBut) _ _ (D.TOz.symm) z_6
  have ti_7 : IsPair H7 TI .none (.ref i2) := (hs7.extBut) _ _ (D.TITO) ti_6
  have l1_7 := l1_6.extBut (hs7.extBut) (D.l1TO)
  have i2_7 := it6.extBut (hs7.extBut) (D.TOi2.symm)
  have l2_7 := l2_6.extBut (hs7.extBut) (D.l2TO)
  have x1_7 : ∃ o, H7.get? i1 = some o ∧ ∀ v, o.data ≠ .cell v := let ⟨o, a, b⟩ := x1_6; ⟨o, (hs7.extBut) _ _ (D.TOi1.symm) a, b⟩
  replace o7 : IsPair H7 TO f y := o7
  refine wpAny_bind (wpAny_letGo (wpAny_pure (wpAny_pure ?_)))
  show wpAny _ _ (Builtin.Itertools.itPoolItems (.ref TO) >>= _) _ _ _
  unfold Builtin.Itertools.itPoolItems
  refine wpAny_bind (wpAny_bind (wpAny_seqItems o7 rfl (wpAny_pure ?_)))
  refine wpAny_bind (wpAny_newTuple ?_)
  show wpAny _ _ (Builtin.Itertools.itOwnedHandOut (.ref z) (.ref H7.objs.size) >>= _) _ _ _
  unfold Builtin.Itertools.itOwnedHandOut
  have zlt : z < H7.objs.size := Heap.lt_size z_7
  have zp : IsZL (H7.push { cls := .type "tuple", data := .seq #[f, y] }) z TI TO .ellipsis f 1 := Heap.get?_push_of_some _ z_7
  refine wpAny_bind (wpAny_bind (wpAny_setField_rec zp (by simp) fun HA zA sA => ?_))
  replace zA : IsZL HA z TI TO (rawInt H7.objs.size) f 1 := zA
  refine wpAny_setField_rec zA (by simp) fun HB zB sB => ?_
  replace zB : IsZL HB z TI TO (rawInt H7.objs.size) f 1 := zB
  have up : ∀ c o, c ≠ z → H7.get? c = some o → HB.get? c = some o := fun c o cz e => sB.extBut _ _ cz (sA.extBut _ _ cz (Heap.get?_push_of_some _ e))
  have hT : IsPair HB H7.objs.size f y := sB.extBut _ _ (Nat.ne_of_gt zlt) (sA.extBut _ _ (Nat.ne_of_gt zlt) (Heap.get?_push_size _ rfl))
  exact wpAny_pure ⟨_, rfl, hQ H7 HB (fun c o cz cTI cTO c1 c2 e => ((hs7.extBut) _ _ cTO ((hs6.extBut) _ _ c2 ((hs5.extBut) _ _ cTO ((hs4.extBut) _ _ cTI ((hs3.extBut) _ _ cz (hs2 _ _ c1 ((hs1.extBut) _ _ cz e)))))))) up zB (up _ _ D.TIz ti_7) (up _ _ D.TOz o7) (let ⟨o, a, b⟩ := x1_7; ⟨o, up _ _ D.i1z a, b⟩) (i2_7.at fun o e => up _ o D.i2z e) hT ⟨Heap.lt_size z_7, Heap.lt_size ti_7, Heap.lt_size o7, (let ⟨_, e, _⟩ := x1_7; Heap.lt_size e), (let ⟨_, e, _⟩ := i2_7; Heap.lt_size e)⟩⟩
theorem next_ld {z TI TO i1 i2 l1 l2 : Addr} {k1 : Nat} {xs : Array Value} {x : Value} {f c d : Value} {Q : Value → Shared → Prop} (D : ZipApart z TI TO i1 i2 l1 l2) (e1 : l1 ≠ TI) (e2 : l2 ≠ TI) (hz : IsZL s.heap z TI TO .none f 1) (hTI : IsPair s.heap TI (.ref i1) .none) (hTO : IsPair s.heap TO c d) (h1 : s.heap.IsListIter i1 l1 k1) (hl1 : s.heap.IsList l1 xs) (hx : xs[k1]? = some x) (d2 : ∃ o, s.heap.get? i2 = some o ∧ ∀ v, o.data ≠ .cell v)
    (hQ : ∀ (h5 h' : Heap), (∀ c o, c ≠ z → c ≠ TI → c ≠ TO → c ≠ i1 → c ≠ i2 → s.heap.get? c = some o → h5.get? c = some o) → (∀ c o, c ≠ z → h5.get? c = some o → h'.get? c = some o) → IsZL h' z TI TO (rawInt h5.objs.size) f 1 → IsPair h' TI (.ref i1) .none → IsPair h' TO x f → h'.IsListIter i1 l1 (k1 + 1) → (∃ o, h'.get? i2 = some o ∧ ∀ v, o.data ≠ .cell v) → IsPair h' h5.objs.size x f → (z < h5.objs.size ∧ TI < h5.objs.size ∧ TO < h5.objs.size ∧ i1 < h5.objs.size ∧ i2 < h5.objs.size) → Q (.ref h5.objs.size) { s with heap := h' }) :
    wpAny (model prog w) A (Builtin.«itertools.zip_longest.__next__» ⟨[.ref z], []⟩) (fun fin s' => ∃ v, fin = .done (.ret v) ∧ Q v s') E s := by
  have hn : (1 : Int) ≠ 0 := by decide
  unfold Builtin.«itertools.zip_longest.__next__»
  show wpAny _ _ (Builtin.Itertools.itIntField (.ref z) 3 >>= _) _ _ _
  unfold Builtin.Itertools.itIntField
  refine wpAny_bind (wpAny_bind (wpAny_field hz rfl (x := rawInt 1) rfl ?_))
  refine wpAny_pure ?_
  rw [if_neg (show ¬ (((1 : Int) == 0) = true) by decide)]
  show wpAny _ _ (field (.ref z) 4 >>= _) _ _ _
  refine wpAny_bind (wpAny_field hz rfl (x := .ref TI) rfl ?_)
  show wpAny _ _ (Builtin.Itertools.itPoolItems (.ref TI) >>= _) _ _ _
  unfold Builtin.Itertools.itPoolItems
  refine wpAny_bind (wpAny_bind (wpAny_seqItems hTI rfl (wpAny_pure ?_)))
  show wpAny _ _ (Builtin.Itertools.itOwnedIsFree (.ref z) >>= _) _ _ _
  unfold Builtin.Itertools.itOwnedIsFree
  refine wpAny_bind (wpAny_bind (wpAny_field hz rfl (x := .none) rfl (wpAny_pure ?_)))
  simp only [if_true]
  refine wpAny_bind (wpAny_rule ?_)
  refine wpAny_bind (wpAny_field hz rfl (x := .ref TO) rfl ?_)
  refine wpAny_bind (wpAny_setField_rec hz (by simp) fun H1 z1 hs1 => ?_)
  have ti_1 : IsPair H1 TI (.ref i1) .none := (hs1.extBut) _ _ (D.TIz) hTI
  have to_1 : IsPair H1 TO c d := (hs1.extBut) _ _ (D.TOz) hTO
  have i1_1 := h1.extBut (hs1.extBut) (D.i1z)
  have l1_1 := hl1.extBut (hs1.extBut) (D.l1z)
  have x2_1 : ∃ o, H1.get? i2 = some o ∧ ∀ v, o.data ≠ .cell v := let ⟨o, a, b⟩ := d2; ⟨o, (hs1.extBut) _ _ (D.i2z) a, b⟩
  replace z1 : IsZL H1 z TI TO .ellipsis f 1 := z1
  refine wpAny_bind ?_
  simp only [show List.range (#[(Value.ref i1), Value.none] : Array Value).size = [0, 1] from rfl, List.forIn_cons, List.forIn_nil]
  refine wpAny_bind (wpAny_bind (wpAny_onRaise ?_))
  show wpAny _ _ (field (.ref z) 4 >>= _) _ _ _
  refine wpAny_bind (wpAny_field z1 rfl (x := .ref TI) rfl ?_)
  show wpAny _ _ (Builtin.Itertools.itPoolItems (.ref TI) >>= _) _ _ _
  unfold Builtin.Itertools.itPoolItems
  refine wpAny_bind (wpAny_bind (wpAny_seqItems ti_1 rfl (wpAny_pure ?_)))
  show wpAny _ _ (field (.ref z) 2 >>= _) _ _ _
  refine wpAny_bind (wpAny_field z1 rfl (x := f) rfl ?_)
  show wpAny _ _ (if (Value.ref i1 == Value.none) = true then _ else _) _ _ _
  rw [if_neg (show ¬ ((Value.ref i1 == Value.none) = true) from Bool.false_ne_true)]
  refine wpAny_bind (wpAny_onRaise ?_)
  refine wpAny_pyNext_list_item i1_1 l1_1 hx fun H2 it2 hs2 => ?_
  have z_2 : IsZL H2 z TI TO .ellipsis f 1 := (hs2.extBut) _ _ (D.i1z.symm) z1
  have ti_2 : IsPair H2 TI (.ref i1) .none := (hs2.extBut) _ _ (D.TIi1) ti_1
  have to_2 : IsPair H2 TO c d := (hs2.extBut) _ _ (D.TOi1) to_1
  have l1_2 := l1_1.extBut (hs2.extBut) (D.l1i1)
  have x2_2 : ∃ o, H2.get? i2 = some o ∧ ∀ v, o.data ≠ .cell v := let ⟨o, a, b⟩ := x2_1; ⟨o, (hs2.extBut) _ _ (D.i12.symm) a, b⟩
  refine wpAny_pure ?_
  show wpAny _ _ (Builtin.Itertools.itPoolItems (.ref TO) >>= _) _ _ _
  unfold Builtin.Itertools.itPoolItems
  refine wpAny_bind (wpAny_bind (wpAny_seqItems to_2 rfl (wpAny_pure ?_)))
  refine wpAny_bind (wpAny_updateSeq_pair to_2 fun H3 o3 hs3 => ?_)
  have z_3 : IsZL H3 z TI TO .ellipsis f 1 := (hs3.extBut) _ _ (D.TOz.symm) z_2
  have ti_3 : IsPair H3 TI (.ref i1) .none := (hs3.extBut) _ _ (D.TITO) ti_2
  have i1_3 := it2.extBut (hs3.extBut) (D.TOi1.symm)
  have l1_3 := l1_2.extBut (hs3.extBut) (D.l1TO)
  have x2_3 : ∃ o, H3.get? i2 = some o ∧ ∀ v, o.data ≠ .cell v := let ⟨o, a, b⟩ := x2_2; ⟨o, (hs3.extBut) _ _ (D.TOi2.symm) a, b⟩
  replace o3 : IsPair H3 TO x d := o3
  refine wpAny_bind (wpAny_letGo (wpAny_pure ?_))
  refine wpAny_bind (wpAny_bind (wpAny_onRaise ?_))
  show wpAny _ _ (field (.ref z) 4 >>= _) _ _ _
  refine wpAny_bind (wpAny_field z_3 rfl (x := .ref TI) rfl ?_)
  show wpAny _ _ (Builtin.Itertools.itPoolItems (.ref TI) >>= _) _ _ _
  unfold Builtin.Itertools.itPoolItems
  refine wpAny_bind (wpAny_bind (wpAny_seqItems ti_3 rfl (wpAny_pure ?_)))
  show wpAny _ _ (field (.ref z) 2 >>= _) _ _ _
  refine wpAny_bind (wpAny_field z_3 rfl (x := f) rfl ?_)
  show wpAny _ _ (if (Value.none == Value.none) = true then _ else _) _ _ _
  rw [if_pos (show (Value.none == Value.none) = true from rfl)]
  refine wpAny_pure ?_
  show wpAny _ _ (Builtin.Itertools.itPoolItems (.ref TO) >>= _) _ _ _
  unfold Builtin.Itertools.itPoolItems
  refine wpAny_bind (wpAny_bind (wpAny_seqItems o3 rfl (wpAny_pure ?_)))
  refine wpAny_bind (wpAny_updateSeq_pair o3 fun H4 o4 hs4 => ?_)
  have z_4 : IsZL H4 z TI TO .ellipsis f 1 := (hs4.extBut) _ _ (D.TOz.symm) z_3
  have ti_4 : IsPair H4 TI (.ref i1) .none := (hs4.extBut) _ _ (D.TITO) ti_3
  have i1_4 := i1_3.extBut (hs4.extBut) (D.TOi1.symm)
  have l1_4 := l1_3.extBut (hs4.extBut) (D.l1TO)
  have x2_4 : ∃ o, H4.get? i2 = some o ∧ ∀ v, o.data ≠ .cell v := let ⟨o, a, b⟩ := x2_3; ⟨o, (hs4.extBut) _ _ (D.TOi2.symm) a, b⟩
  replace o4 : IsPair H4 TO x f := o4
  refine wpAny_bind (wpAny_letGo (wpAny_pure (wpAny_pure ?_)))
  show wpAny _ _ (Builtin.Itertools.itPoolItems (.ref TO) >>= _) _ _ _
  unfold Builtin.Itertools.itPoolItems
  refine wpAny_bind (wpAny_bind (wpAny_seqItems o4 rfl (wpAny_pure ?_)))
  refine wpAny_bind (wpAny_newTuple ?_)
  show wpAny _ _ (Builtin.Itertools.itOwnedHandOut (.ref z) (.ref H4.objs.size) >>= _) _ _ _
  unfold Builtin.Itertools.itOwnedHandOut
  have zlt : z < H4.objs.size := Heap.lt_size z_4
  have zp : IsZL (H4.push { cls := .type "tuple", data := .seq #[x, f] }) z TI TO .ellipsis f 1 := Heap.get?_push_of_some _ z_4
  refine wpAny_bind (wpAny_bind (wpAny_setField_rec zp (by simp) fun HA zA sA => ?_))
  replace zA : IsZL HA z TI TO (rawInt H4.objs.size) f 1 := zA
  refine wpAny_setField_rec zA (by simp) fun HB zB sB => ?_
  replace zB : IsZL HB z TI TO (rawInt H4.objs.size) f 1 := zB
  have up : ∀ c o, c ≠ z → H4.get? c = some o → HB.get? c = some o := fun c o cz e => sB.extBut _ _ cz (sA.extBut _ _ cz (Heap.get?_push_of_some _ e))
  have hT : IsPair HB H4.objs.size x f := sB.extBut _ _ (Nat.ne_of_gt zlt) (sA.extBut _ _ (Nat.ne_of_gt zlt) (Heap.get?_push_size _ rfl))
  exact wpAny_pure ⟨_, rfl, hQ H4 HB (fun c o cz cTI cTO c1 c2 e => ((hs4.extBut) _ _ cTO ((hs3.extBut) _ _ cTO ((hs2.extBut) _ _ c1 ((hs1.extBut) _ _ cz e))))) up zB (up _ _ D.TIz ti_4) (up _ _ D.TOz o4) (i1_4.at fun o e => up _ o D.i1z e) (let ⟨o, a, b⟩ := x2_4; ⟨o, up _ _ D.i2z a, b⟩) hT ⟨Heap.lt_size z_4, Heap.lt_size ti_4, Heap.lt_size o4, (let ⟨_, e, _⟩ := i1_4; Heap.lt_size e), (let ⟨_, e, _⟩ := x2_4; Heap.lt_size e)⟩⟩
theorem next_dl {z TI TO i1 i2 l1 l2 : Addr} {k2 : Nat} {ys : Array Value} {y : Value} {f c d : Value} {Q : Value → Shared → Prop} (D : ZipApart z TI TO i1 i2 l1 l2) (e1 : l1 ≠ TI) (e2 : l2 ≠ TI) (hz : IsZL s.heap z TI TO .none f 1) (hTI : IsPair s.heap TI .none (.ref i2)) (hTO : IsPair s.heap TO c d) (h2 : s.heap.IsListIter i2 l2 k2) (hl2 : s.heap.IsList l2 ys) (hy : ys[k2]? = some y) (d1 : ∃ o, s.heap.get? i1 = some o ∧ ∀ v, o.data ≠ .cell v)
    (hQ : ∀ (h5 h' : Heap), (∀ c o, c ≠ z → c ≠ TI → c ≠ TO → c ≠ i1 → c ≠ i2 → s.heap.get? c = some o → h5.get? c = some o) → (∀ c o, c ≠ z → h5.get? c = some o → h'.get? c = some o) → IsZL h' z TI TO (rawInt h5.objs.size) f 1 → IsPair h' TI .none (.ref i2) → IsPair h' TO f y → (∃ o, h'.get? i1 = some o ∧ ∀ v, o.data ≠ .cell v) → h'.IsListIter i2 l2 (k2 + 1) → IsPair h' h5.objs.size f y → (z < h5.objs.size ∧ TI < h5.objs.size ∧ TO < h5.objs.size ∧ i1 < h5.objs.size ∧ i2 < h5.objs.size) → Q (.ref h5.objs.size) { s with heap := h' }) :
    wpAny (model prog w) A (Builtin.«itertools.zip_longest.__next__» ⟨[.ref z], []⟩) (fun fin s' => ∃ v, fin = .done (.ret v) ∧ Q v s') E s := by
  have hn : (1 : Int) ≠ 0 := by decide
  unfold Builtin.«itertools.zip_longest.__next__»
  show wpAny _ _ (Builtin.Itertools.itIntField (.ref z) 3 >>= _) _ _ _
  unfold Builtin.Itertools.itIntField
  refine wpAny_bind (wpAny_bind (wpAny_field hz rfl (x := rawInt 1) rfl ?_))
  refine wpAny_pure ?_
  rw [if_neg (show ¬ (((1 : Int) == 0) = true) by decide)]
  show wpAny _ _ (field (.ref z) 4 >>= _) _ _ _
  refine wpAny_bind (wpAny_field hz rfl (x := .ref TI) rfl ?_)
  show wpAny _ _ (Builtin.Itertools.itPoolItems (.ref TI) >>= _) _ _ _
  unfold Builtin.Itertools.itPoolItems
  refine wpAny_bind (wpAny_bind (wpAny_seqItems hTI rfl (wpAny_pure ?_)))
  show wpAny _ _ (Builtin.Itertools.itOwnedIsFree (.ref z) >>= _) _ _ _
  unfold Builtin.Itertools.itOwnedIsFree
  refine wpAny_bind (wpAny_bind (wpAny_field hz rfl (x := .none) rfl (wpAny_pure ?_)))
  simp only [if_true]
  refine wpAny_bind (wpAny_rule ?_)
  refine wpAny_bind (wpAny_field hz rfl (x := .ref TO) rfl ?_)
  refine wpAny_bind (wpAny_setField_rec hz (by simp) fun H1 z1 hs1 => ?_)
  have ti_1 : IsPair H1 TI .none (.ref i2) := (hs1.extBut) _ _ (D.TIz) hTI
  have to_1 : IsPair H1 TO c d := (hs1.extBut) _ _ (D.TOz) hTO
  have i2_1 := h2.extBut (hs1.extBut) (D.i2z)
  have l2_1 := hl2.extBut (hs1.extBut) (D.l2z)
  have x1_1 : ∃ o, H1.get? i1 = some o ∧ ∀ v, o.data ≠ .cell v := let ⟨o, a, b⟩ := d1; ⟨o, (hs1.extBut) _ _ (D.i1z) a, b⟩
  replace z1 : IsZL H1 z TI TO .ellipsis f 1 := z1
  refine wpAny_bind ?_
  simp only [show List.range (#[Value.none, (Value.ref i2)] : Array Value).size = [0, 1] from rfl, List.forIn_cons, List.forIn_nil]
  refine wpAny_bind (wpAny_bind (wpAny_onRaise ?_))
  show wpAny _ _ (field (.ref z) 4 >>= _) _ _ _
  refine wpAny_bind (wpAny_field z1 rfl (x := .ref TI) rfl ?_)
  show wpAny _ _ (Builtin.Itertools.itPoolItems (.ref TI) >>= _) _ _ _
  unfold Builtin.Itertools.itPoolItems
  refine wpAny_bind (wpAny_bind (wpAny_seqItems ti_1 rfl (wpAny_pure ?_)))
  show wpAny _ _ (field (.ref z) 2 >>= _) _ _ _
  refine wpAny_bind (wpAny_field z1 rfl (x := f) rfl ?_)
  show wpAny _ _ (if (Value.none == Value.none) = true then _ else _) _ _ _
  rw [if_pos (show (Value.none == Value.none) = true from rfl)]
  refine wpAny_pure ?_
  show wpAny _ _ (Builtin.Itertools.itPoolItems (.ref TO) >>= _) _ _ _
  unfold Builtin.Itertools.itPoolItems
  refine wpAny_bind (wpAny_bind (wpAny_seqItems to_1 rfl (wpAny_pure ?_)))
  refine wpAny_bind (wpAny_updateSeq_pair to_1 fun H2 o2 hs2 => ?_)
  have z_2 : IsZL H2 z TI TO .ellipsis f 1 := (hs2.extBut) _ _ (D.TOz.symm) z1
  have ti_2 : IsPair H2 TI .none (.ref i2) := (hs2.extBut) _ _ (D.TITO) ti_1
  have i2_2 := i2_1.extBut (hs2.extBut) (D.TOi2.symm)
  have l2_2 := l2_1.extBut (hs2.extBut) (D.l2TO)
  have x1_2 : ∃ o, H2.get? i1 = some o ∧ ∀ v, o.data ≠ .cell v := let ⟨o, a, b⟩ := x1_1; ⟨o, (hs2.extBut) _ _ (D.TOi1.symm) a, b⟩
  replace o2 : IsPair H2 TO f d := o2
  refine wpAny_bind (wpAny_letGo (wpAny_pure ?_))
  refine wpAny_bind (wpAny_bind (wpAny_onRaise ?_))
  show wpAny _ _ (field (.ref z) 4 >>= _) _ _ _
  refine wpAny_bind (wpAny_field z_2 rfl (x := .ref TI) rfl ?_)
  show wpAny _ _ (Builtin.Itertools.itPoolItems (.ref TI) >>= _) _ _ _
  unfold Builtin.Itertools.itPoolItems
  refine wpAny_bind (wpAny_bind (wpAny_seqItems ti_2 rfl (wpAny_pure ?_)))
  show wpAny _ _ (field (.ref z) 2 >>= _) _ _ _
  refine wpAny_bind (wpAny_field z_2 rfl (x := f) rfl ?_)
  show wpAny _ _ (if (Value.ref i2 == Value.none) = true then _ else _) _ _ _
  rw [if_neg (show ¬ ((Value.ref i2 == Value.none) = true) from Bool.false_ne_true)]
  refine wpAny_bind (wpAny_onRaise ?_)
  refine wpAny_pyNext_list_item i2_2 l2_2 hy fun H3 it3 hs3 => ?_
  have z_3 : IsZL H3 z TI TO .ellipsis f 1 := (hs3.extBut) _ _ (D.i2z.symm) z_2
  have ti_3 : IsPair H3 TI .none (.ref i2) := (hs3.extBut) _ _ (D.TIi2) ti_2
  have to_3 : IsPair H3 TO f d := (hs3.extBut) _ _ (D.TOi2) o2
  have l2_3 := l2_2.extBut (hs3.extBut) (D.l2i2)
  have x1_3 : ∃ o, H3.get? i1 = some o ∧ ∀ v, o.data ≠ .cell v := let ⟨o, a, b⟩ := x1_2; ⟨o, (hs3.extBut) _ _ (D.i12) a, b⟩
  refine wpAny_pure ?_
  show wpAny _ _ (Builtin.Itertools.itPoolItems (.ref TO) >>= _) _ _ _
  unfold Builtin.Itertools.itPoolItems
  refine wpAny_bind (wpAny_bind (wpAny_seqItems to_3 rfl (wpAny_pure ?_)))
  refine wpAny_bind (wpAny_updateSeq_pair to_3 fun H4 o4 hs4 => ?_)
  have z_4 : IsZL H4 z TI TO .ellipsis f 1 := (hs4.extBut) _ _ (D.TOz.symm) z_3
  have ti_4 : IsPair H4 TI .none (.ref i2) := (hs4.extBut) _ _ (D.TITO) ti_3
  have i2_4 := it3.extBut (hs4.extBut) (D.TOi2.symm)
  have l2_4 := l2_3.extBut (hs4.extBut) (D.l2TO)
  have x1_4 : ∃ o, H4.get? i1 = some o ∧ ∀ v, o.data ≠ .cell v := let ⟨o, a, b⟩ := x1_3; ⟨o, (hs4.extBut) _ _ (D.TOi1.symm) a, b⟩
  replace o4 : IsPair H4 TO f y := o4
  refine wpAny_bind (wpAny_letGo (wpAny_pure (wpAny_pure ?_)))
  show wpAny _ _ (Builtin.Itertools.itPoolItems (.ref TO) >>= _) _ _ _
  unfold Builtin.Itertools.itPoolItems
  refine wpAny_bind (wpAny_bind (wpAny_seqItems o4 rfl (wpAny_pure ?_)))
  refine wpAny_bind (wpAny_newTuple ?_)
  show wpAny _ _ (Builtin.Itertools.itOwnedHandOut (.ref z) (.ref H4.objs.size) >>= _) _ _ _
  unfold Builtin.Itertools.itOwnedHandOut
  have zlt : z < H4.objs.size := Heap.lt_size z_4
  have zp : IsZL (H4.push { cls := .type "tuple", data := .seq #[f, y] }) z TI TO .ellipsis f 1 := Heap.get?_push_of_some _ z_4
  refine wpAny_bind (wpAny_bind (wpAny_setField_rec zp (by simp) fun HA zA sA => ?_))
  replace zA : IsZL HA z TI TO (rawInt H4.objs.size) f 1 := zA
  refine wpAny_setField_rec zA (by simp) fun HB zB sB => ?_
  replace zB : IsZL HB z TI TO (rawInt H4.objs.size) f 1 := zB
  have up : ∀ c o, c ≠ z → H4.get? c = some o → HB.get? c = some o := fun c o cz e => sB.extBut _ _ cz (sA.extBut _ _ cz (Heap.get?_push_of_some _ e))
  have hT : IsPair HB H4.objs.size f y := sB.extBut _ _ (Nat.ne_of_gt zlt) (sA.extBut _ _ (Nat.ne_of_gt zlt) (Heap.get?_push_size _ rfl))
  exact wpAny_pure ⟨_, rfl, hQ H4 HB (fun c o cz cTI cTO c1 c2 e => ((hs4.extBut) _ _ cTO ((hs3.extBut) _ _ c2 ((hs2.extBut) _ _ cTO ((hs1.extBut) _ _ cz e))))) up zB (up _ _ D.TIz ti_4) (up _ _ D.TOz o4) (let ⟨o, a, b⟩ := x1_4; ⟨o, up _ _ D.i1z a, b⟩) (i2_4.at fun o e => up _ o D.i2z e) hT ⟨Heap.lt_size z_4, Heap.lt_size ti_4, Heap.lt_size o4, (let ⟨_, e, _⟩ := x1_4; Heap.lt_size e), (let ⟨_, e, _⟩ := i2_4; Heap.lt_size e)⟩⟩
theorem stop_ee {z TI TO i1 i2 l1 l2 : Addr} {k1 : Nat} {xs : Array Value} {k2 : Nat} {ys : Array Value} {f c d : Value} {Q : PySem.Fin → Shared → Prop} (D : ZipApart z TI TO i1 i2 l1 l2) (e1 : l1 ≠ TI) (e2 : l2 ≠ TI) (hh : A.handled = none) (hz : IsZL s.heap z TI TO .none f 2) (hTI : IsPair s.heap TI (.ref i1) (.ref i2)) (hTO : IsPair s.heap TO c d) (h1 : s.heap.IsListIter i1 l1 k1) (hl1 : s.heap.IsList l1 xs) (hx : xs[k1]? = none) (h2 : s.heap.IsListIter i2 l2 k2) (hl2 : s.heap.IsList l2 ys) (hy : ys[k2]? = none)
    (hE : ∀ (h' : Heap) (e : Addr), (∀ c o, c ≠ z → c ≠ TI → c ≠ TO → c ≠ i1 → c ≠ i2 → s.heap.get? c = some o → h'.get? c = some o) → (∃ o, h'.get? e = some o ∧ o.cls = .type "StopIteration") → E (.ref e) { s with heap := h' }) :
    wpAny (model prog w) A (Builtin.«itertools.zip_longest.__next__» ⟨[.ref z], []⟩) Q E s := by
  have hn : (2 : Int) ≠ 0 := by decide
  unfold Builtin.«itertools.zip_longest.__next__»
  show wpAny _ _ (Builtin.Itertools.itIntField (.ref z) 3 >>= _) _ _ _
  unfold Builtin.Itertools.itIntField
  refine wpAny_bind (wpAny_bind (wpAny_field hz rfl (x := rawInt 2) rfl ?_))
  refine wpAny_pure ?_
  rw [if_neg (show ¬ (((2 : Int) == 0) = true) by decide)]
  show wpAny _ _ (field (.ref z) 4 >>= _) _ _ _
  refine wpAny_bind (wpAny_field hz rfl (x := .ref TI) rfl ?_)
  show wpAny _ _ (Builtin.Itertools.itPoolItems (.ref TI) >>= _) _ _ _
  unfold Builtin.Itertools.itPoolItems
  refine wpAny_bind (wpAny_bind (wpAny_seqItems hTI rfl (wpAny_pure ?_)))
  show wpAny _ _ (Builtin.Itertools.itOwnedIsFree (.ref z) >>= _) _ _ _
  unfold Builtin.Itertools.itOwnedIsFree
  refine wpAny_bind (wpAny_bind (wpAny_field hz rfl (x := .none) rfl (wpAny_pure ?_)))
  simp only [if_true]
  refine wpAny_bind (wpAny_rule ?_)
  refine wpAny_bind (wpAny_field hz rfl (x := .ref TO) rfl ?_)
  refine wpAny_bind (wpAny_setField_rec hz (by simp) fun H1 z1 hs1 => ?_)
  have ti_1 : IsPair H1 TI (.ref i1) (.ref i2) := (hs1.extBut) _ _ (D.TIz) hTI
  have to_1 : IsPair H1 TO c d := (hs1.extBut) _ _ (D.TOz) hTO
  have i1_1 := h1.extBut (hs1.extBut) (D.i1z)
  have l1_1 := hl1.extBut (hs1.extBut) (D.l1z)
  have i2_1 := h2.extBut (hs1.extBut) (D.i2z)
  have l2_1 := hl2.extBut (hs1.extBut) (D.l2z)
  replace z1 : IsZL H1 z TI TO .ellipsis f 2 := z1
  refine wpAny_bind ?_
  simp only [show List.range (#[(Value.ref i1), (Value.ref i2)] : Array Value).size = [0, 1] from rfl, List.forIn_cons, List.forIn_nil]
  refine wpAny_bind (wpAny_bind (wpAny_onRaise ?_))
  show wpAny _ _ (field (.ref z) 4 >>= _) _ _ _
  refine wpAny_bind (wpAny_field z1 rfl (x := .ref TI) rfl ?_)
  show wpAny _ _ (Builtin.Itertools.itPoolItems (.ref TI) >>= _) _ _ _
  unfold Builtin.Itertools.itPoolItems
  refine wpAny_bind (wpAny_bind (wpAny_seqItems ti_1 rfl (wpAny_pure ?_)))
  show wpAny _ _ (field (.ref z) 2 >>= _) _ _ _
  refine wpAny_bind (wpAny_field z1 rfl (x := f) rfl ?_)
  show wpAny _ _ (if (Value.ref i1 == Value.none) = true then _ else _) _ _ _
  rw [if_neg (show ¬ ((Value.ref i1 == Value.none) = true) from Bool.false_ne_true)]
  refine wpAny_bind (wpAny_onRaise ?_)
  refine list_end2 hh i1_1 l1_1 hx fun H2 hs2 xx2 => ?_
  have z_2 : IsZL H2 z TI TO .ellipsis f 2 := (hs2) _ _ (D.i1z.symm) z1
  have ti_2 : IsPair H2 TI (.ref i1) (.ref i2) := (hs2) _ _ (D.TIi1) ti_1
  have to_2 : IsPair H2 TO c d := (hs2) _ _ (D.TOi1) to_1
  have l1_2 := l1_1.extBut (hs2) (D.l1i1)
  have i2_2 := i2_1.extBut (hs2) (D.i12.symm)
  have l2_2 := l2_1.extBut (hs2) (D.l2i1)
  show wpAny _ _ (Builtin.Itertools.itPoolItems (.ref TI) >>= _) _ _ _
  unfold Builtin.Itertools.itPoolItems
  refine wpAny_bind (wpAny_bind (wpAny_seqItems ti_2 rfl (wpAny_pure ?_)))
  show wpAny _ _ (if (Value.ref i1 == Value.none) = true then _ else _) _ _ _
  rw [if_neg (show ¬ ((Value.ref i1 == Value.none) = true) from Bool.false_ne_true)]
  show wpAny _ _ (Builtin.Itertools.itIntField (.ref z) 3 >>= _) _ _ _
  unfold Builtin.Itertools.itIntField
  refine wpAny_bind (wpAny_bind (wpAny_field z_2 rfl (x := rawInt 2) rfl (wpAny_pure ?_)))
  refine wpAny_bind (wpAny_setField_rec z_2 (by simp) fun H3 z3 hs3 => ?_)
  have ti_3 : IsPair H3 TI (.ref i1) (.ref i2) := (hs3.extBut) _ _ (D.TIz) ti_2
  have to_3 : IsPair H3 TO c d := (hs3.extBut) _ _ (D.TOz) to_2
  have l1_3 := l1_2.extBut (hs3.extBut) (D.l1z)
  have i2_3 := i2_2.extBut (hs3.extBut) (D.i2z)
  have l2_3 := l2_2.extBut (hs3.extBut) (D.l2z)
  have x1_3 : ∃ o, H3.get? i1 = some o ∧ ∀ v, o.data ≠ .cell v := let ⟨o, a, b⟩ := xx2; ⟨o, (hs3.extBut) _ _ (D.i1z) a, b⟩
  replace z3 : IsZL H3 z TI TO .ellipsis f (2 - 1) := z3
  replace z3 : IsZL H3 z TI TO .ellipsis f 1 := z3
  show wpAny _ _ (if ((2 : Int) == 1) = true then _ else _) _ _ _
  rw [if_neg (by decide)]
  refine wpAny_bind (wpAny_rule ?_)
  refine wpAny_bind (wpAny_updateSeq_pair ti_3 fun H4 t4 hs4 => ?_)
  have z_4 : IsZL H4 z TI TO .ellipsis f 1 := (hs4.extBut) _ _ (D.TIz.symm) z3
  have to_4 : IsPair H4 TO c d := (hs4.extBut) _ _ (D.TITO.symm) to_3
  have l1_4 := l1_3.extBut (hs4.extBut) (e1)
  have i2_4 := i2_3.extBut (hs4.extBut) (D.TIi2.symm)
  have l2_4 := l2_3.extBut (hs4.extBut) (e2)
  have x1_4 : ∃ o, H4.get? i1 = some o ∧ ∀ v, o.data ≠ .cell v := let ⟨o, a, b⟩ := x1_3; ⟨o, (hs4.extBut) _ _ (D.TIi1.symm) a, b⟩
  replace t4 : IsPair H4 TI .none (.ref i2) := t4
  refine wpAny_bind (wpAny_letGo (wpAny_pure ?_))
  show wpAny _ _ (Builtin.Itertools.itPoolItems (.ref TO) >>= _) _ _ _
  unfold Builtin.Itertools.itPoolItems
  refine wpAny_bind (wpAny_bind (wpAny_seqItems to_4 rfl (wpAny_pure ?_)))
  refine wpAny_bind (wpAny_updateSeq_pair to_4 fun H5 o5 hs5 => ?_)
  have z_5 : IsZL H5 z TI TO .ellipsis f 1 := (hs5.extBut) _ _ (D.TOz.symm) z_4
  have ti_5 : IsPair H5 TI .none (.ref i2) := (hs5.extBut) _ _ (D.TITO) t4
  have l1_5 := l1_4.extBut (hs5.extBut) (D.l1TO)
  have i2_5 := i2_4.extBut (hs5.extBut) (D.TOi2.symm)
  have l2_5 := l2_4.extBut (hs5.extBut) (D.l2TO)
  have x1_5 : ∃ o, H5.get? i1 = some o ∧ ∀ v, o.data ≠ .cell v := let ⟨o, a, b⟩ := x1_4; ⟨o, (hs5.extBut) _ _ (D.TOi1.symm) a, b⟩
  replace o5 : IsPair H5 TO f d := o5
  refine wpAny_bind (wpAny_letGo (wpAny_pure ?_))
  refine wpAny_bind (wpAny_bind (wpAny_onRaise ?_))
  show wpAny _ _ (field (.ref z) 4 >>= _) _ _ _
  refine wpAny_bind (wpAny_field z_5 rfl (x := .ref TI) rfl ?_)
  show wpAny _ _ (Builtin.Itertools.itPoolItems (.ref TI) >>= _) _ _ _
  unfold Builtin.Itertools.itPoolItems
  refine wpAny_bind (wpAny_bind (wpAny_seqItems ti_5 rfl (wpAny_pure ?_)))
  show wpAny _ _ (field (.ref z) 2 >>= _) _ _ _
  refine wpAny_bind (wpAny_field z_5 rfl (x := f) rfl ?_)
  show wpAny _ _ (if (Value.ref i2 == Value.none) = true then _ else _) _ _ _
  rw [if_neg (show ¬ ((Value.ref i2 == Value.none) = true) from Bool.false_ne_true)]
  refine wpAny_bind (wpAny_onRaise ?_)
  refine list_end2 hh i2_5 l2_5 hy fun H6 hs6 xx6 => ?_
  have z_6 : IsZL H6 z TI TO .ellipsis f 1 := (hs6) _ _ (D.i2z.symm) z_5
  have ti_6 : IsPair H6 TI .none (.ref i2) := (hs6) _ _ (D.TIi2) ti_5
  have to_6 : IsPair H6 TO f d := (hs6) _ _ (D.TOi2) o5
  have l1_6 := l1_5.extBut (hs6) (D.l1i2)
  have l2_6 := l2_5.extBut (hs6) (D.l2i2)
  have x1_6 : ∃ o, H6.get? i1 = some o ∧ ∀ v, o.data ≠ .cell v := let ⟨o, a, b⟩ := x1_5; ⟨o, (hs6) _ _ (D.i12) a, b⟩
  show wpAny _ _ (Builtin.Itertools.itPoolItems (.ref TI) >>= _) _ _ _
  unfold Builtin.Itertools.itPoolItems
  refine wpAny_bind (wpAny_bind (wpAny_seqItems ti_6 rfl (wpAny_pure ?_)))
  show wpAny _ _ (if (Value.ref i2 == Value.none) = true then _ else _) _ _ _
  rw [if_neg (show ¬ ((Value.ref i2 == Value.none) = true) from Bool.false_ne_true)]
  show wpAny _ _ (Builtin.Itertools.itIntField (.ref z) 3 >>= _) _ _ _
  unfold Builtin.Itertools.itIntField
  refine wpAny_bind (wpAny_bind (wpAny_field z_6 rfl (x := rawInt 1) rfl (wpAny_pure ?_)))
  refine wpAny_bind (wpAny_setField_rec z_6 (by simp) fun H7 z7 hs7 => ?_)
  have ti_7 : IsPair H7 TI .none (.ref i2) := (hs7.extBut) _ _ (D.TIz) ti_6
  have to_7 : IsPair H7 TO f d := (hs7.extBut) _ _ (D.TOz) to_6
  have l1_7 := l1_6.extBut (hs7.extBut) (D.l1z)
  have l2_7 := l2_6.extBut (hs7.extBut) (D.l2z)
  have x1_7 : ∃ o, H7.get? i1 = some o ∧ ∀ v, o.data ≠ .cell v := let ⟨o, a, b⟩ := x1_6; ⟨o, (hs7.extBut) _ _ (D.i1z) a, b⟩
  have x2_7 : ∃ o, H7.get? i2 = some o ∧ ∀ v, o.data ≠ .cell v := let ⟨o, a, b⟩ := xx6; ⟨o, (hs7.extBut) _ _ (D.i2z) a, b⟩
  replace z7 : IsZL H7 z TI TO .ellipsis f (1 - 1) := z7
  replace z7 : IsZL H7 z TI TO .ellipsis f 0 := z7
  show wpAny _ _ (if ((1 : Int) == 1) = true then _ else _) _ _ _
  rw [if_pos (by decide)]
  refine wpAny_pure ?_
  refine wpAny_bind (wpAny_setField_rec z7 (by simp) fun H8 z8 hs8 => ?_)
  have ti_8 : IsPair H8 TI .none (.ref i2) := (hs8.extBut) _ _ (D.TIz) ti_7
  have to_8 : IsPair H8 TO f d := (hs8.extBut) _ _ (D.TOz) to_7
  have l1_8 := l1_7.extBut (hs8.extBut) (D.l1z)
  have l2_8 := l2_7.extBut (hs8.extBut) (D.l2z)
  have x1_8 : ∃ o, H8.get? i1 = some o ∧ ∀ v, o.data ≠ .cell v := let ⟨o, a, b⟩ := x1_7; ⟨o, (hs8.extBut) _ _ (D.i1z) a, b⟩
  have x2_8 : ∃ o, H8.get? i2 = some o ∧ ∀ v, o.data ≠ .cell v := let ⟨o, a, b⟩ := x2_7; ⟨o, (hs8.extBut) _ _ (D.i2z) a, b⟩
  replace z8 : IsZL H8 z TI TO .none f 0 := z8
  show wpAny _ _ (Builtin.Itertools.itStop >>= _) _ _ _
  unfold Builtin.Itertools.itStop
  exact wpAny_bind (stop_new hh fun h' e k he => hE h' e (fun c o cz cTI cTO c1 c2 e => k c o ((hs8.extBut) _ _ cz ((hs7.extBut) _ _ cz (hs6 _ _ c2 ((hs5.extBut) _ _ cTO ((hs4.extBut) _ _ cTI ((hs3.extBut) _ _ cz (hs2 _ _ c1 ((hs1.extBut) _ _ cz e))))))))) he)
theorem stop_ed {z TI TO i1 i2 l1 l2 : Addr} {k1 : Nat} {xs : Array Value} {f c d : Value} {Q : PySem.Fin → Shared → Prop} (D : ZipApart z TI TO i1 i2 l1 l2) (e1 : l1 ≠ TI) (e2 : l2 ≠ TI) (hh : A.handled = none) (hz : IsZL s.heap z TI TO .none f 1) (hTI : IsPair s.heap TI (.ref i1) .none) (hTO : IsPair s.heap TO c d) (h1 : s.heap.IsListIter i1 l1 k1) (hl1 : s.heap.IsList l1 xs) (hx : xs[k1]? = none) (d2 : ∃ o, s.heap.get? i2 = some o ∧ ∀ v, o.data ≠ .cell v)
    (hE : ∀ (h' : Heap) (e : Addr), (∀ c o, c ≠ z → c ≠ TI → c ≠ TO → c ≠ i1 → c ≠ i2 → s.heap.get? c = some o → h'.get? c = some o) → (∃ o, h'.get? e = some o ∧ o.cls = .type "StopIteration") → E (.ref e) { s with heap := h' }) :
    wpAny (model prog w) A (Builtin.«itertools.zip_longest.__next__» ⟨[.ref z], []⟩) Q E s := by
  have hn : (1 : Int) ≠ 0 := by decide
  unfold Builtin.«itertools.zip_longest.__next__»
  show wpAny _ _ (Builtin.Itertools.itIntField (.ref z) 3 >>= _) _ _ _
  unfold Builtin.Itertools.itIntField
  refine wpAny_bind (wpAny_bind (wpAny_field hz rfl (x := rawInt 1) rfl ?_))
  refine wpAny_pure ?_
  rw [if_neg (show ¬ (((1 : Int) == 0) = true) by decide)]
  show wpAny _ _ (field (.ref z) 4 >>= _) _ _ _
  refine wpAny_bind (wpAny_field hz rfl (x := .ref TI) rfl ?_)
  show wpAny _ _ (Builtin.Itertools.itPoolItems (.ref TI) >>= _) _ _ _
  unfold Builtin.Itertools.itPoolItems
  refine wpAny_bind (wpAny_bind (wpAny_seqItems hTI rfl (wpAny_pure ?_)))
  show wpAny _ _ (Builtin.Itertools.itOwnedIsFree (.ref z) >>= _) _ _ _
  unfold Builtin.Itertools.itOwnedIsFree
  refine wpAny_bind (wpAny_bind (wpAny_field hz rfl (x := .none) rfl (wpAny_pure ?_)))
  simp only [if_true]
  refine wpAny_bind (wpAny_rule ?_)
  refine wpAny_bind (wpAny_field hz rfl (x := .ref TO) rfl ?_)
  refine wpAny_bind (wpAny_setField_rec hz (by simp) fun H1 z1 hs1 => ?_)
  have ti_1 : IsPair H1 TI (.ref i1) .none := (hs1.extBut) _ _ (D.TIz) hTI
  have to_1 : IsPair H1 TO c d := (hs1.extBut) _ _ (D.TOz) hTO
  have i1_1 := h1.extBut (hs1.extBut) (D.i1z)
  have l1_1 := hl1.extBut (hs1.extBut) (D.l1z)
  have x2_1 : ∃ o, H1.get? i2 = some o ∧ ∀ v, o.data ≠ .cell v := let ⟨o, a, b⟩ := d2; ⟨o, (hs1.extBut) _ _ (D.i2z) a, b⟩
  replace z1 : IsZL H1 z TI TO .ellipsis f 1 := z1
  refine wpAny_bind ?_
  simp only [show List.range (#[(Value.ref i1), Value.none] : Array Value).size = [0, 1] from rfl, List.forIn_cons, List.forIn_nil]
  refine wpAny_bind (wpAny_bind (wpAny_onRaise ?_))
  show wpAny _ _ (field (.ref z) 4 >>= _) _ _ _
  refine wpAny_bind (wpAny_field z1 rfl (x := .ref TI) rfl ?_)
  show wpAny _ _ (Builtin.Itertools.itPoolItems (.ref TI) >>= _) _ _ _
  unfold Builtin.Itertools.itPoolItems
  refine wpAny_bind (wpAny_bind (wpAny_seqItems ti_1 rfl (wpAny_pure ?_)))
  show wpAny _ _ (field (.ref z) 2 >>= _) _ _ _
  refine wpAny_bind (wpAny_field z1 rfl (x := f) rfl ?_)
  show wpAny _ _ (if (Value.ref i1 == Value.none) = true then _ else _) _ _ _
  rw [if_neg (show ¬ ((Value.ref i1 == Value.none) = true) from Bool.false_ne_true)]
  refine wpAny_bind (wpAny_onRaise ?_)
  refine list_end2 hh i1_1 l1_1 hx fun H2 hs2 xx2 => ?_
  have z_2 : IsZL H2 z TI TO .ellipsis f 1 := (hs2) _ _ (D.i1z.symm) z1
  have ti_2 : IsPair H2 TI (.ref i1) .none := (hs2) _ _ (D.TIi1) ti_1
  have to_2 : IsPair H2 TO c d := (hs2) _ _ (D.TOi1) to_1
  have l1_2 := l1_1.extBut (hs2) (D.l1i1)
  have x2_2 : ∃ o, H2.get? i2 = some o ∧ ∀ v, o.data ≠ .cell v := let ⟨o, a, b⟩ := x2_1; ⟨o, (hs2) _ _ (D.i12.symm) a, b⟩
  show wpAny _ _ (Builtin.Itertools.itPoolItems (.ref TI) >>= _) _ _ _
  unfold Builtin.Itertools.itPoolItems
  refine wpAny_bind (wpAny_bind (wpAny_seqItems ti_2 rfl (wpAny_pure ?_)))
  show wpAny _ _ (if (Value.ref i1 == Value.none) = true then _ else _) _ _ _
  rw [if_neg (show ¬ ((Value.ref i1 == Value.none) = true) from Bool.false_ne_true)]
  show wpAny _ _ (Builtin.Itertools.itIntField (.ref z) 3 >>= _) _ _ _
  unfold Builtin.Itertools.itIntField
  refine wpAny_bind (wpAny_bind (wpAny_field z_2 rfl (x := rawInt 1) rfl (wpAny_pure ?_)))
  refine wpAny_bind (wpAny_setField_rec z_2 (by simp) fun H3 z3 hs3 => ?_)
  have ti_3 : IsPair H3 TI (.ref i1) .none := (hs3.extBut) _ _ (D.TIz) ti_2
  have to_3 : IsPair H3 TO c d := (hs3.extBut) _ _ (D.TOz) to_2
  have l1_3 := l1_2.extBut (hs3.extBut) (D.l1z)
  have x2_3 : ∃ o, H3.get? i2 = some o ∧ ∀ v, o.data ≠ .cell v := let ⟨o, a, b⟩ := x2_2; ⟨o, (hs3.extBut) _ _ (D.i2z) a, b⟩
  have x1_3 : ∃ o, H3.get? i1 = some o ∧ ∀ v, o.data ≠ .cell v := let ⟨o, a, b⟩ := xx2; ⟨o, (hs3.extBut) _ _ (D.i1z) a, b⟩
  replace z3 : IsZL H3 z TI TO .ellipsis f (1 - 1) := z3
  replace z3 : IsZL H3 z TI TO .ellipsis f 0 := z3
  show wpAny _ _ (if ((1 : Int) == 1) = true then _ else _) _ _ _
  rw [if_pos (by decide)]
  refine wpAny_pure ?_
  refine wpAny_bind (wpAny_setField_rec z3 (by simp) fun H4 z4 hs4 => ?_)
  have ti_4 : IsPair H4 TI (.ref i1) .none := (hs4.extBut) _ _ (D.TIz) ti_3
  have to_4 : IsPair H4 TO c d := (hs4.extBut) _ _ (D.TOz) to_3
  have l1_4 := l1_3.extBut (hs4.extBut) (D.l1z)
  have x2_4 : ∃ o, H4.get? i2 = some o ∧ ∀ v, o.data ≠ .cell v := let ⟨o, a, b⟩ := x2_3; ⟨o, (hs4.extBut) _ _ (D.i2z) a, b⟩
  have x1_4 : ∃ o, H4.get? i1 = some o ∧ ∀ v, o.data ≠ .cell v := let ⟨o, a, b⟩ := x1_3; ⟨o, (hs4.extBut) _ _ (D.i1z) a, b⟩
  replace z4 : IsZL H4 z TI TO .none f 0 := z4
  show wpAny _ _ (Builtin.Itertools.itStop >>= _) _ _ _
  unfold Builtin.Itertools.itStop
  exact wpAny_bind (stop_new hh fun h' e k he => hE h' e (fun c o cz cTI cTO c1 c2 e => k c o ((hs4.extBut) _ _ cz ((hs3.extBut) _ _ cz (hs2 _ _ c1 ((hs1.extBut) _ _ cz e))))) he)
theorem stop_de {z TI TO i1 i2 l1 l2 : Addr} {k2 : Nat} {ys : Array Value} {f c d : Value} {Q : PySem.Fin → Shared → Prop} (D : ZipApart z TI TO i1 i2 l1 l2) (e1 : l1 ≠ TI) (e2 : l2 ≠ TI) (hh : A.handled = none) (hz : IsZL s.heap z TI TO .none f 1) (hTI : IsPair s.heap TI .none (.ref i2)) (hTO : IsPair s.heap TO c d) (h2 : s.heap.IsListIter i2 l2 k2) (hl2 : s.heap.IsList l2 ys) (hy : ys[k2]? = none) (d1 : ∃ o, s.heap.get? i1 = some o ∧ ∀ v, o.data ≠ .cell v)
    (hE : ∀ (h' : Heap) (e : Addr), (∀ c o, c ≠ z → c ≠ TI → c ≠ TO → c ≠ i1 → c ≠ i2 → s.heap.get? c = some o → h'.get? c = some o) → (∃ o, h'.get? e = some o ∧ o.cls = .type "StopIteration") → E (.ref e) { s with heap := h' }) :
    wpAny (model prog w) A (Builtin.«itertools.zip_longest.__next__» ⟨[.ref z], []⟩) Q E s := by
  have hn : (1 : Int) ≠ 0 := by decide
  unfold Builtin.«itertools.zip_longest.__next__»
  show wpAny _ _ (Builtin.Itertools.itIntField (.ref z) 3 >>= _) _ _ _
  unfold Builtin.Itertools.itIntField
  refine wpAny_bind (wpAny_bind (wpAny_field hz rfl (x := rawInt 1) rfl ?_))
  refine wpAny_pure ?_
  rw [if_neg (show ¬ (((1 : Int) == 0) = true) by decide)]
  show wpAny _ _ (field (.ref z) 4 >>= _) _ _ _
  refine wpAny_bind (wpAny_field hz rfl (x := .ref TI) rfl ?_)
  show wpAny _ _ (Builtin.Itertools.itPoolItems (.ref TI) >>= _) _ _ _
  unfold Builtin.Itertools.itPoolItems
  refine wpAny_bind (wpAny_bind (wpAny_seqItems hTI rfl (wpAny_pure ?_)))
  show wpAny _ _ (Builtin.Itertools.itOwnedIsFree (.ref z) >>= _) _ _ _
  unfold Builtin.Itertools.itOwnedIsFree
  refine wpAny_bind (wpAny_bind (wpAny_field hz rfl (x := .none) rfl (wpAny_pure ?_)))
  simp only [if_true]
  refine wpAny_bind (wpAny_rule ?_)
  refine wpAny_bind (wpAny_field hz rfl (x := .ref TO) rfl ?_)
  refine wpAny_bind (wpAny_setField_rec hz (by simp) fun H1 z1 hs1 => ?_)
  have ti_1 : IsPair H1 TI .none (.ref i2) := (hs1.extBut) _ _ (D.TIz) hTI
  have to_1 : IsPair H1 TO c d := (hs1.extBut) _ _ (D.TOz) hTO
  have i2_1 := h2.extBut (hs1.extBut) (D.i2z)
  have l2_1 := hl2.extBut (hs1.extBut) (D.l2z)
  have x1_1 : ∃ o, H1.get? i1 = some o ∧ ∀ v, o.data ≠ .cell v := let ⟨o, a, b⟩ := d1; ⟨o, (hs1.extBut) _ _ (D.i1z) a, b⟩
  replace z1 : IsZL H1 z TI TO .ellipsis f 1 := z1
  refine wpAny_bind ?_
  simp only [show List.range (#[Value.none, (Value.ref i2)] : Array Value).size = [0, 1] from rfl, List.forIn_cons, List.forIn_nil]
  refine wpAny_bind (wpAny_bind (wpAny_onRaise ?_))
  show wpAny _ _ (field (.ref z) 4 >>= _) _ _ _
  refine wpAny_bind (wpAny_field z1 rfl (x := .ref TI) rfl ?_)
  show wpAny _ _ (Builtin.Itertools.itPoolItems (.ref TI) >>= _) _ _ _
  unfold Builtin.Itertools.itPoolItems
  refine wpAny_bind (wpAny_bind (wpAny_seqItems ti_1 rfl (wpAny_pure ?_)))
  show wpAny _ _ (field (.ref z) 2 >>= _) _ _ _
  refine wpAny_bind (wpAny_field z1 rfl (x := f) rfl ?_)
  show wpAny _ _ (if (Value.none == Value.none) = true then _ else _) _ _ _
  rw [if_pos (show (Value.none == Value.none) = true from rfl)]
  refine wpAny_pure ?_
  show wpAny _ _ (Builtin.Itertools.itPoolItems (.ref TO) >>= _) _ _ _
  unfold Builtin.Itertools.itPoolItems
  refine wpAny_bind (wpAny_bind (wpAny_seqItems to_1 rfl (wpAny_pure ?_)))
  refine wpAny_bind (wpAny_updateSeq_pair to_1 fun H2 o2 hs2 => ?_)
  have z_2 : IsZL H2 z TI TO .ellipsis f 1 := (hs2.extBut) _ _ (D.TOz.symm) z1
  have ti_2 : IsPair H2 TI .none (.ref i2) := (hs2.extBut) _ _ (D.TITO) ti_1
  have i2_2 := i2_1.extBut (hs2.extBut) (D.TOi2.symm)
  have l2_2 := l2_1.extBut (hs2.extBut) (D.l2TO)
  have x1_2 : ∃ o, H2.get? i1 = some o ∧ ∀ v, o.data ≠ .cell v := let ⟨o, a, b⟩ := x1_1; ⟨o, (hs2.extBut) _ _ (D.TOi1.symm) a, b⟩
  replace o2 : IsPair H2 TO f d := o2
  refine wpAny_bind (wpAny_letGo (wpAny_pure ?_))
  refine wpAny_bind (wpAny_bind (wpAny_onRaise ?_))
  show wpAny _ _ (field (.ref z) 4 >>= _) _ _ _
  refine wpAny_bind (wpAny_field z_2 rfl (x := .ref TI) rfl ?_)
  show wpAny _ _ (Builtin.Itertools.itPoolItems (.ref TI) >>= _) _ _ _
  unfold Builtin.Itertools.itPoolItems
  refine wpAny_bind (wpAny_bind (wpAny_seqItems ti_2 rfl (wpAny_pure ?_)))
  show wpAny _ _ (field (.ref z) 2 >>= _) _ _ _
  refine wpAny_bind (wpAny_field z_2 rfl (x := f) rfl ?_)
  show wpAny _ _ (if (Value.ref i2 == Value.none) = true then _ else _) _ _ _
  rw [if_neg (show ¬ ((Value.ref i2 == Value.none) = true) from Bool.false_ne_true)]
  refine wpAny_bind (wpAny_onRaise ?_)
  refine list_end2 hh i2_2 l2_2 hy fun H3 hs3 xx3 => ?_
  have z_3 : IsZL H3 z TI TO .ellipsis f 1 := (hs3) _ _ (D.i2z.symm) z_2
  have ti_3 : IsPair H3 TI .none (.ref i2) := (hs3) _ _ (D.TIi2) ti_2
  have to_3 : IsPair H3 TO f d := (hs3) _ _ (D.TOi2) o2
  have l2_3 := l2_2.extBut (hs3) (D.l2i2)
  have x1_3 : ∃ o, H3.get? i1 = some o ∧ ∀ v, o.data ≠ .cell v := let ⟨o, a, b⟩ := x1_2; ⟨o, (hs3) _ _ (D.i12) a, b⟩
  show wpAny _ _ (Builtin.Itertools.itPoolItems (.ref TI) >>= _) _ _ _
  unfold Builtin.Itertools.itPoolItems
  refine wpAny_bind (wpAny_bind (wpAny_seqItems ti_3 rfl (wpAny_pure ?_)))
  show wpAny _ _ (if (Value.ref i2 == Value.none) = true then _ else _) _ _ _
  rw [if_neg (show ¬ ((Value.ref i2 == Value.none) = true) from Bool.false_ne_true)]
  show wpAny _ _ (Builtin.Itertools.itIntField (.ref z) 3 >>= _) _ _ _
  unfold Builtin.Itertools.itIntField
  refine wpAny_bind (wpAny_bind (wpAny_field z_3 rfl (x := rawInt 1) rfl (wpAny_pure ?_)))
  refine wpAny_bind (wpAny_setField_rec z_3 (by simp) fun H4 z4 hs4 => ?_)
  have ti_4 : IsPair H4 TI .none (.ref i2) := (hs4.extBut) _ _ (D.TIz) ti_3
  have to_4 : IsPair H4 TO f d := (hs4.extBut) _ _ (D.TOz) to_3
  have l2_4 := l2_3.extBut (hs4.extBut) (D.l2z)
  have x1_4 : ∃ o, H4.get? i1 = some o ∧ ∀ v, o.data ≠ .cell v := let ⟨o, a, b⟩ := x1_3; ⟨o, (hs4.extBut) _ _ (D.i1z) a, b⟩
  have x2_4 : ∃ o, H4.get? i2 = some o ∧ ∀ v, o.data ≠ .cell v := let ⟨o, a, b⟩ := xx3; ⟨o, (hs4.extBut) _ _ (D.i2z) a, b⟩
  replace z4 : IsZL H4 z TI TO .ellipsis f (1 - 1) := z4
  replace z4 : IsZL H4 z TI TO .ellipsis f 0 := z4
  show wpAny _ _ (if ((1 : Int) == 1) = true then _ else _) _ _ _
  rw [if_pos (by decide)]
  refine wpAny_pure ?_
  refine wpAny_bind (wpAny_setField_rec z4 (by simp) fun H5 z5 hs5 => ?_)
  have ti_5 : IsPair H5 TI .none (.ref i2) := (hs5.extBut) _ _ (D.TIz) ti_4
  have to_5 : IsPair H5 TO f d := (hs5.extBut) _ _ (D.TOz) to_4
  have l2_5 := l2_4.extBut (hs5.extBut) (D.l2z)
  have x1_5 : ∃ o, H5.get? i1 = some o ∧ ∀ v, o.data ≠ .cell v := let ⟨o, a, b⟩ := x1_4; ⟨o, (hs5.extBut) _ _ (D.i1z) a, b⟩
  have x2_5 : ∃ o, H5.get? i2 = some o ∧ ∀ v, o.data ≠ .cell v := let ⟨o, a, b⟩ := x2_4; ⟨o, (hs5.extBut) _ _ (D.i2z) a, b⟩
  replace z5 : IsZL H5 z TI TO .none f 0 := z5
  show wpAny _ _ (Builtin.Itertools.itStop >>= _) _ _ _
  unfold Builtin.Itertools.itStop
  exact wpAny_bind (stop_new hh fun h' e k he => hE h' e (fun c o cz cTI cTO c1 c2 e => k c o ((hs5.extBut) _ _ cz ((hs4.extBut) _ _ cz (hs3 _ _ c2 ((hs2.extBut) _ _ cTO ((hs1.extBut) _ _ cz e)))))) he)
end
end ZL
namespace MM
open PySem PySem.Spec PyProof.Rows L2 GxR
/-! ### books by which the same rows come -/
def AsSame (m : Nat) (A B : List Int) : Prop := ∀ z, Come m A A.length z ↔ Come m B B.length z
theorem same_words {m : Nat} {A B : List Int} (h1 : 1 ≤ m) (h9 : m ≤ 9) (hA : BookOk m A) (hB : BookOk m B) (h : ∀ l : List Nat, l.Sublist (nat A) → ∃ l', l'.Sublist (nat B) ∧ ∀ j, Pw l j = Pw l' j) (z : List Int) (hz : Come m A A.length z) : Come m B B.length z := by
  obtain ⟨l, hl, rfl⟩ := (come_words h1 h9 hA).mp hz
  obtain ⟨l', hl', e⟩ := h l hl
  exact (come_words h1 h9 hB).mpr ⟨l', hl', ofF_congr fun j _ => e j⟩
theorem same_in {m : Nat} {A B B' C : List Int} (h1 : 1 ≤ m) (h9 : m ≤ 9) (hA : BookOk m A) (hB : BookOk m B) (hB' : BookOk m B') (hC : BookOk m C) (h : AsSame m B B') : AsSame m (A ++ (B ++ C)) (A ++ (B' ++ C)) := fun z =>
  ⟨fun k => come_app h1 h9 hA (book_app hB hC) hA (book_app hB' hC) (fun _ e => e) (fun _ e => come_app h1 h9 hB hC hB' hC (fun y => (h y).mp) (fun _ e => e) e) k,
   fun k => come_app h1 h9 hA (book_app hB' hC) hA (book_app hB hC) (fun _ e => e) (fun _ e => come_app h1 h9 hB' hC hB hC (fun y => (h y).mpr) (fun _ e => e) e) k⟩
/-! ### the three steps -/
theorem trs_far {a b : Nat} (h : a + 1 < b ∨ b + 1 < a) (j : Nat) : trs a (trs b j) = trs b (trs a j) := by
  unfold trs
  repeat' split
  all_goals omega
theorem trs_three {a b : Nat} (h : a + 1 = b ∨ b + 1 = a) (j : Nat) : trs a (trs b (trs a j)) = trs b (trs a (trs b j)) := by
  unfold trs
  repeat' split
  all_goals omega
theorem sub1 {a : Nat} {l : List Nat} (h : l.Sublist [a]) : l = [] ∨ l = [a] := by
  rcases List.sublist_cons_iff.mp h with k | ⟨r, e, k⟩
  · exact .inl (List.sublist_nil.mp k)
  · exact .inr (by rw [e, List.sublist_nil.mp k])
theorem sub2 {a b : Nat} {l : List Nat} (h : l.Sublist [a, b]) : l = [] ∨ l = [b] ∨ l = [a] ∨ l = [a, b] := by
  rcases List.sublist_cons_iff.mp h with k | ⟨r, e, k⟩
  · rcases sub1 k with z | z <;> simp [z]
  · rcases sub1 k with z | z <;> simp [e, z]
theorem sub3 {a b c : Nat} {l : List Nat} (h : l.Sublist [a, b, c]) : (l = [] ∨ l = [c] ∨ l = [b] ∨ l = [b, c]) ∨ l = [a] ∨ l = [a, c] ∨ l = [a, b] ∨ l = [a, b, c] := by
  rcases List.sublist_cons_iff.mp h with k | ⟨r, e, k⟩
  · exact .inl (sub2 k)
  · rcases sub2 k with z | z | z | z <;> simp [e, z]
theorem same_far1 {m : Nat} {a b : Int} (h1 : 1 ≤ m) (h9 : m ≤ 9) (hB : BookOk m [a, b]) (hB' : BookOk m [b, a]) (h : a + 1 < b ∨ b + 1 < a) (z : List Int) (k : Come m [a, b] 2 z) : Come m [b, a] 2 z := by
  have ha := hB a (by simp)
  have hb := hB b (by simp)
  refine same_words h1 h9 hB hB' (fun l hl => ?_) z k
  rcases sub2 hl with e | e | e | e <;> subst e
  · exact ⟨[], by simp, fun _ => rfl⟩
  · exact ⟨[b.toNat], by simp [nat], fun _ => rfl⟩
  · exact ⟨[a.toNat], by simp [nat], fun _ => rfl⟩
  · exact ⟨[b.toNat, a.toNat], by simp [nat], fun j => trs_far (by omega) j⟩
theorem swapB {m : Nat} {a b : Int} (hB : BookOk m [a, b]) : BookOk m [b, a] := fun x hx => hB x (by simp at hx ⊢; omega)
theorem same_far {m : Nat} {a b : Int} (h1 : 1 ≤ m) (h9 : m ≤ 9) (hB : BookOk m [a, b]) (h : a + 1 < b ∨ b + 1 < a) : AsSame m [a, b] [b, a] := fun z =>
  ⟨same_far1 h1 h9 hB (swapB hB) h z, same_far1 h1 h9 (swapB hB) hB (by omega) z⟩
theorem same_three1 {m : Nat} {a b : Int} (h1 : 1 ≤ m) (h9 : m ≤ 9) (hB : BookOk m [a, b, a]) (hB' : BookOk m [b, a, b]) (h : a + 1 = b ∨ b + 1 = a) (z : List Int) (k : Come m [a, b, a] 3 z) : Come m [b, a, b] 3 z := by
  have ha := hB a (by simp)
  have hb := hB b (by simp)
  refine same_words h1 h9 hB hB' (fun l hl => ?_) z k
  have s : nat [b, a, b] = [b.toNat, a.toNat, b.toNat] := rfl
  rw [s]
  rcases sub3 hl with (e | e | e | e) | e | e | e | e <;> subst e
  · exact ⟨[], List.nil_sublist _, fun _ => rfl⟩
  · exact ⟨[a.toNat], .cons _ (.cons₂ _ (List.nil_sublist _)), fun _ => rfl⟩
  · exact ⟨[b.toNat], .cons₂ _ (List.nil_sublist _), fun _ => rfl⟩
  · exact ⟨[b.toNat, a.toNat], .cons₂ _ (.cons₂ _ (List.nil_sublist _)), fun _ => rfl⟩
  · exact ⟨[a.toNat], .cons _ (.cons₂ _ (List.nil_sublist _)), fun _ => rfl⟩
  · exact ⟨[], List.nil_sublist _, fun j => trs_trs _ _⟩
  · exact ⟨[a.toNat, b.toNat], .cons _ (List.Sublist.refl _), fun _ => rfl⟩
  · exact ⟨[b.toNat, a.toNat, b.toNat], List.Sublist.refl _, fun j => trs_three (by omega) j⟩
theorem threeB {m : Nat} {a b : Int} (hB : BookOk m [a, b, a]) : BookOk m [b, a, b] := fun x hx => hB x (by simp at hx ⊢; omega)
theorem same_three {m : Nat} {a b : Int} (h1 : 1 ≤ m) (h9 : m ≤ 9) (hB : BookOk m [a, b, a]) (h : a + 1 = b ∨ b + 1 = a) : AsSame m [a, b, a] [b, a, b] := fun z =>
  ⟨same_three1 h1 h9 hB (threeB hB) h z, same_three1 h1 h9 (threeB hB) hB (by omega) z⟩
theorem same_once {m : Nat} {a : Int} (h1 : 1 ≤ m) (h9 : m ≤ 9) (hB : BookOk m [a, a]) : AsSame m [a, a] [a] := by
  have hB1 : BookOk m [a] := fun x hx => hB x (by simp at hx ⊢; exact hx)
  refine fun z => ⟨fun k => same_words h1 h9 hB hB1 (fun l hl => ?_) z k, fun k => same_words h1 h9 hB1 hB (fun l hl => ?_) z k⟩
  · have s : nat [a] = [a.toNat] := rfl
    rw [s]
    rcases sub2 hl with e | e | e | e <;> subst e
    · exact ⟨[], List.nil_sublist _, fun _ => rfl⟩
    · exact ⟨[a.toNat], List.Sublist.refl _, fun _ => rfl⟩
    · exact ⟨[a.toNat], List.Sublist.refl _, fun _ => rfl⟩
    · exact ⟨[], List.nil_sublist _, fun j => trs_trs _ _⟩
  · have s : nat [a, a] = [a.toNat, a.toNat] := rfl
    rw [s]
    rcases sub1 hl with e | e <;> subst e
    · exact ⟨[], List.nil_sublist _, fun _ => rfl⟩
    · exact ⟨[a.toNat], .cons _ (List.Sublist.refl _), fun _ => rfl⟩
/-! ### words and steps -/
def ab (x : Int) : Int := if x < 0 then -x else x
def wordL : List Int → Option Str
  | a :: b :: r => if 1 < ab (a - b) then some "far" else if ab (a - b) = 0 then some "once" else match r with
    | c :: _ => if a = c then some "three" else none
    | [] => none
  | _ => none
def wordM (gs : List Int) (k : Nat) : Option Str := wordL ((gs.drop k).take 3)
def stepM (gs : List Int) (k : Nat) (w : Str) : List Int :=
  if w = "far" then gs.take k ++ [gs.getD (k + 1) 0, gs.getD k 0] ++ gs.drop (k + 2)
  else if w = "three" then gs.take k ++ [gs.getD (k + 1) 0, gs.getD k 0, gs.getD (k + 1) 0] ++ gs.drop (k + 3)
  else gs.take k ++ [gs.getD k 0] ++ gs.drop (k + 2)
inductive IsStep : List Int → Nat → Str → List Int → Prop
  | far (A C : List Int) (a b : Int) (h : a + 1 < b ∨ b + 1 < a) : IsStep (A ++ ([a, b] ++ C)) A.length "far" (A ++ ([b, a] ++ C))
  | three (A C : List Int) (a b : Int) (h : a + 1 = b ∨ b + 1 = a) : IsStep (A ++ ([a, b, a] ++ C)) A.length "three" (A ++ ([b, a, b] ++ C))
  | once (A C : List Int) (a : Int) : IsStep (A ++ ([a, a] ++ C)) A.length "once" (A ++ ([a] ++ C))
theorem getD_mid (A : List Int) (a : Int) (l : List Int) : (A ++ a :: l).getD A.length 0 = a := by simp
theorem getD_mid1 (A : List Int) (a b : Int) (l : List Int) : (A ++ a :: b :: l).getD (A.length + 1) 0 = b := by
  rw [List.getD_eq_getElem?_getD, List.getElem?_append_right (by omega)]
  simp
theorem drop_mid (A : List Int) (k : Nat) (l : List Int) : (A ++ l).drop (A.length + k) = l.drop k := by
  rw [List.drop_append]; simp
theorem step_of {gs : List Int} {k : Nat} {w : Str} (h : wordM gs k = some w) : IsStep gs k w (stepM gs k w) := by
  unfold wordM at h
  have hk : k ≤ gs.length := by
    rcases Nat.lt_or_ge gs.length k with c | c
    · rw [List.drop_of_length_le (by omega)] at h; cases h
    · exact c
  obtain ⟨A, D, rfl, rfl⟩ : ∃ A D, gs = A ++ D ∧ A.length = k := ⟨gs.take k, gs.drop k, (List.take_append_drop k gs).symm, by rw [List.length_take]; omega⟩
  rw [List.drop_left] at h
  match D, h with
  | a :: b :: r, h =>
    unfold stepM
    rw [getD_mid, getD_mid1, List.take_left, drop_mid, drop_mid]
    replace h : (if 1 < ab (a - b) then (some "far" : Option Str) else if ab (a - b) = 0 then some "once" else match r.take 1 with | c :: _ => if a = c then some "three" else none | [] => none) = some w := h
    by_cases c1 : 1 < ab (a - b)
    · rw [if_pos c1] at h
      cases h
      rw [if_pos rfl, List.append_assoc]
      refine IsStep.far A r a b ?_
      unfold ab at c1; split at c1 <;> omega
    · rw [if_neg c1] at h
      by_cases c2 : ab (a - b) = 0
      · rw [if_pos c2] at h
        cases h
        rw [if_neg (by decide), if_neg (by decide), List.append_assoc]
        obtain rfl : a = b := by unfold ab at c2; split at c2 <;> omega
        exact IsStep.once A r a
      · rw [if_neg c2] at h
        match r, h with
        | c :: r, h =>
          replace h : (if a = c then (some "three" : Option Str) else none) = some w := h
          by_cases c3 : a = c
          · rw [if_pos c3] at h
            cases h
            subst c3
            rw [if_neg (by decide), if_pos rfl, List.append_assoc]
            refine IsStep.three A r a b ?_
            unfold ab at c1 c2; split at c1 <;> split at c2 <;> omega
          · rw [if_neg c3] at h; cases h
theorem ab_far {a b : Int} (h : a + 1 < b ∨ b + 1 < a) : 1 < ab (a - b) := by unfold ab; split <;> omega
theorem ab_near {a b : Int} (h : a + 1 = b ∨ b + 1 = a) : ab (a - b) = 1 := by unfold ab; split <;> omega
theorem IsStep.book {m : Nat} {gs hs : List Int} {k : Nat} {w : Str} (h : IsStep gs k w hs) (hb : BookOk m gs) : BookOk m hs := by
  cases h <;> exact fun x hx => hb x (by simp at hx ⊢; grind)
theorem IsStep.len {gs hs : List Int} {k : Nat} {w : Str} (h : IsStep gs k w hs) : hs.length + (if w = "once" then 1 else 0) = gs.length ∧ k + 1 < gs.length := by
  cases h with
  | far A C a b h => rw [if_neg (by decide)]; simp only [List.length_append, List.length_cons, List.length_nil]; omega
  | three A C a b h => rw [if_neg (by decide)]; simp only [List.length_append, List.length_cons, List.length_nil]; omega
  | once A C a => rw [if_pos rfl]; simp only [List.length_append, List.length_cons, List.length_nil]; omega
theorem IsStep.as {m : Nat} {gs hs : List Int} {k : Nat} {w : Str} (h1 : 1 ≤ m) (h9 : m ≤ 9) (h : IsStep gs k w hs) (hb : BookOk m gs) : AsSame m gs hs := by
  cases h with
  | far A C a b h => exact same_in h1 h9 (fun x hx => hb x (by simp [hx])) (fun x hx => hb x (by simp at hx ⊢; grind)) (fun x hx => hb x (by simp at hx ⊢; grind)) (fun x hx => hb x (by simp [hx])) (same_far h1 h9 (fun x hx => hb x (by simp at hx ⊢; grind)) h)
  | three A C a b h => exact same_in h1 h9 (fun x hx => hb x (by simp [hx])) (fun x hx => hb x (by simp at hx ⊢; grind)) (fun x hx => hb x (by simp at hx ⊢; grind)) (fun x hx => hb x (by simp [hx])) (same_three h1 h9 (fun x hx => hb x (by simp at hx ⊢; grind)) h)
  | once A C a => exact same_in h1 h9 (fun x hx => hb x (by simp [hx])) (fun x hx => hb x (by simp at hx ⊢; grind)) (fun x hx => hb x (by simp at hx ⊢; grind)) (fun x hx => hb x (by simp [hx])) (same_once h1 h9 (fun x hx => hb x (by simp at hx ⊢; grind)))
theorem IsStep.back {gs hs : List Int} {k : Nat} {w : Str} (h : IsStep gs k w hs) (hw : w ≠ "once") : wordM hs k = some w ∧ stepM hs k w = gs := by
  cases h with
  | far A C a b h =>
    constructor
    · unfold wordM
      rw [List.drop_left]
      show (if 1 < ab (b - a) then (some "far" : Option Str) else _) = _
      rw [if_pos (ab_far (by omega))]
    · show (if ("far" : Str) = "far" then _ else _) = _
      rw [if_pos rfl, List.cons_append, List.cons_append, getD_mid, getD_mid1, List.take_left, drop_mid, List.append_assoc]; rfl
  | three A C a b h =>
    constructor
    · unfold wordM
      rw [List.drop_left]
      show (if 1 < ab (b - a) then (some "far" : Option Str) else if ab (b - a) = 0 then some "once" else if b = b then some "three" else none) = _
      have := ab_near (a := b) (b := a) (by omega)
      rw [if_neg (by omega), if_neg (by omega), if_pos rfl]
    · show (if ("three" : Str) = "far" then _ else if ("three" : Str) = "three" then _ else _) = _
      rw [if_neg (by decide), if_pos rfl, List.cons_append, List.cons_append, getD_mid, getD_mid1, List.take_left, drop_mid, List.append_assoc]; rfl
  | once => exact absurd rfl hw
end MM
namespace MM
open PySem PySem.Spec PyProof.Rows L2 GxR
/-! ### by how many goings each row comes -/
def tkN (g : Nat) (f : List Int → Nat) : List Int → Nat := fun x => f x + f (swL x g)
def cntS (f : List Int → Nat) (gs : List Int) : List Int → Nat := gs.foldl (fun f (g : Int) => tkN g.toNat f) f
def one0 (m : Nat) : List Int → Nat := fun x => if x = row0 m then 1 else 0
theorem cntS_app (f : List Int → Nat) (A B : List Int) : cntS f (A ++ B) = cntS (cntS f A) B := List.foldl_append ..
end MM
namespace MM
open PySem PySem.Spec PyProof.Rows L2 GxR
/-! ### defs that may raise -/
section
variable {X : Cx} {C : Addr} {bmB : List Value} {B newId initId : String}
end
def CallX (P : Program) (w : World) (K : PySem.W.Frag) (mg : Str → Option Value) (base : Heap) (k : Nat) (x : Str) (ps : List Str) (sp : Sp) : Prop :=
  ∃ f fd, FnG P w K mg base (L2.CX P w) k f fd ps sp ∧ mg x = some (.ref f) ∧ PySem.W.keepIn K (.ref f) = true ∧ Binds K fd ps []
section
variable {P : Program} {w : World} {K : PySem.W.Frag} {mg : Str → Option Value} {base : Heap} {f : Addr} {fd : FuncData} {x : Str} {st : Stmt} {ps N : List Str} {k : Nat} {sp sp' : Sp}
theorem CallX.le {j : Nat} (C : CallX P w K mg base j x ps sp) (h : j ≤ k) : CallX P w K mg base k x ps sp := let ⟨f, fd, F, r⟩ := C; ⟨f, fd, F.mono h, r⟩
end
section
variable {X : Cx} {k : Nat} {ps : List Str} {sp : Sp} {x : Str} {p pos : Pos} {e : Expr} {es : List Expr} {t : TA} {W : WX}
def orS (a b : Sp) : Sp := fun vs H Q E => a vs H Q E ∨ b vs H Q E
end
end MM
namespace MM
open PySem PySem.Spec PyProof.Rows L2 GxR
/-- a value of data: a tuple or a list of flat ones, or a flat one -/
inductive Od (K : PySem.W.Frag) (H : Hp) : V → PyData → Prop
  | tup {a : Addr} {xs : List V} {ds : List PyData} (e : H a = some (.tup xs)) (h : DpAll K H xs ds) (f : xs.all flatV = true) : Od K H (.ref a) (.tuple ds)
  | lst {a : Addr} {xs : List V} {ds : List PyData} (e : H a = some (.lst xs)) (h : DpAll K H xs ds) (f : xs.all flatV = true) : Od K H (.ref a) (.list ds)
  | flat {v : V} {d : PyData} (h : Dp K H v d) (f : flatV v = true) : Od K H v d
theorem dp_flat {K : PySem.W.Frag} {H H' : Hp} {v : V} {d : PyData} (h : Dp K H v d) (f : flatV v = true) : Dp K H' v d := by
  cases h with
  | non => exact .non
  | bl b => exact .bl b
  | int i => exact .int i
  | str z => exact .str z
  | lst => cases f
  | tup => cases f
theorem dp_flats {K : PySem.W.Frag} {H H' : Hp} : ∀ {vs : List V} {ds : List PyData}, DpAll K H vs ds → vs.all flatV = true → DpAll K H' vs ds
  | _, _, .nil, _ => .nil
  | _, _, .cons h t, f => by
    rw [List.all_cons, Bool.and_eq_true] at f
    exact .cons (dp_flat h f.1) (dp_flats t f.2)
theorem Od.kind {K : PySem.W.Frag} {H : Hp} {v : V} {d : PyData} (h : Od K H v d) : (∃ (a : Addr) (xs : List V) (ds : List PyData), v = .ref a ∧ d = .tuple ds ∧ H a = some (.tup xs) ∧ DpAll K H xs ds ∧ xs.all flatV = true) ∨ ∃ T, Kd K H v T ∧ T ≠ "tuple" ∧ ∀ ds, d ≠ .tuple ds := by
  cases h with
  | tup e h f => exact .inl ⟨_, _, _, rfl, rfl, e, h, f⟩
  | lst e h f => exact .inr ⟨_, .lst e, by decide, fun _ z => nomatch z⟩
  | flat h f => cases h with
    | non => exact .inr ⟨_, .non, by decide, fun _ z => nomatch z⟩
    | bl b => exact .inr ⟨_, .bl b, by decide, fun _ z => nomatch z⟩
    | int i => exact .inr ⟨_, .int i, by decide, fun _ z => nomatch z⟩
    | str z => exact .inr ⟨_, .str z, by decide, fun _ z => nomatch z⟩
    | lst => cases f
    | tup => cases f
theorem Od.exB {K : PySem.W.Frag} {H H' : Hp} {B : Addr → Prop} (e : ExB B H H') {v : V} {d : PyData} (h : Od K H v d) (nb : ∀ a, v = .ref a → ¬ B a) : Od K H' v d := by
  cases h with
  | tup a b c => exact .tup (e.tup a) (dp_flats b c) c
  | lst a b c => exact .lst (e.lst a (nb _ rfl)) (dp_flats b c) c
  | flat h f => exact .flat (dp_flat h f) f
theorem Kd.ex {K : PySem.W.Frag} {H H' : Hp} (e : Ex H H') : ∀ {v : V} {T : String}, Kd K H v T → Kd K H' v T
  | _, _, .non => .non
  | _, _, .bl b => .bl b
  | _, _, .int i => .int i
  | _, _, .str x => .str x
  | _, _, .lst h => .lst (Ex.lst e h)
  | _, _, .tup h => .tup (e.sqt h)
  | _, _, .dic h => .dic (e.keep _ _ h (fun _ z => nomatch z) id)
theorem Od.ex {K : PySem.W.Frag} {H H' : Hp} (e : Ex H H') {v : V} {d : PyData} (h : Od K H v d) : Od K H' v d := h.exB e fun _ _ => id
theorem Od.dp {K : PySem.W.Frag} {H : Hp} {v : V} {d : PyData} (h : Od K H v d) : Dp K H v d := by
  cases h with
  | tup a b c => exact .tup (SqT.of a) b
  | lst a b c => exact .lst (SqL.of a) b
  | flat h f => exact h
inductive OdL (K : PySem.W.Frag) (H : Hp) : List V → List PyData → Prop
  | nil : OdL K H [] []
  | cons {v : V} {d : PyData} {vs : List V} {ds : List PyData} (h : Od K H v d) (s : SeqAt.shaped d = true) (t : OdL K H vs ds) : OdL K H (v :: vs) (d :: ds)
section
variable {K : PySem.W.Frag}
theorem OdL.exB {H H' : Hp} {B : Addr → Prop} (e : ExB B H H') {vs : List V} {ds : List PyData} (h : OdL K H vs ds) (nb : ∀ a, V.ref a ∈ vs → ¬ B a) : OdL K H' vs ds := by
  induction h with
  | nil => exact .nil
  | cons h s _ ih => exact .cons (h.exB e fun a z => nb a (z ▸ List.mem_cons_self)) s (ih fun a z => nb a (List.mem_cons_of_mem _ z))
theorem OdL.ex {H H' : Hp} (e : Ex H H') {vs : List V} {ds : List PyData} (h : OdL K H vs ds) : OdL K H' vs ds := h.exB e fun _ _ => id
theorem OdL.app {H : Hp} {vs ws : List V} {ds es : List PyData} (h : OdL K H vs ds) (h' : OdL K H ws es) : OdL K H (vs ++ ws) (ds ++ es) := by
  induction h with
  | nil => exact h'
  | cons h s _ ih => exact .cons h s ih
theorem OdL.get {H : Hp} {vs : List V} {ds : List PyData} (h : OdL K H vs ds) : ∀ {j : Nat} {v : V}, vs[j]? = some v → ∃ d, Od K H v d ∧ SeqAt.shaped d = true := by
  induction h with
  | nil => intro j v e; cases e
  | cons h s _ ih =>
    intro j v e
    cases j with
    | zero => cases e; exact ⟨_, h, s⟩
    | succ j => exact ih e
end
/-! ### data alike, texts too -/
inductive DaS (K : PySem.W.Frag) (H : Hp) : Nat → V → V → Prop
  | int {n : Nat} (i : Int) : DaS K H n (.int i) (.int i)
  | bl {n : Nat} (c : Bool) : DaS K H n (.bl c) (.bl c)
  | str {n : Nat} (z : Str) : DaS K H n (.str z) (.str z)
  | lst {n : Nat} {a b : Addr} {xs ys : List V} (ha : H a = some (.lst xs)) (hb : H b = some (.lst ys)) (hl : xs.length = ys.length) (h : ∀ (k : Nat) (x y : V), xs[k]? = some x → ys[k]? = some y → DaS K H n x y) (hz : xs.length ≤ 1000) : DaS K H (n + 1) (.ref a) (.ref b)
  | tup {n : Nat} {a b : Addr} {xs ys : List V} (ha : SqT K H a xs) (hb : SqT K H b ys) (hl : xs.length = ys.length) (h : ∀ (k : Nat) (x y : V), xs[k]? = some x → ys[k]? = some y → DaS K H n x y) (hz : xs.length ≤ 1000) : DaS K H (n + 1) (.ref a) (.ref b)
theorem DaS.ex {K : PySem.W.Frag} {H H' : Hp} (e : Ex H H') : ∀ {n : Nat} {x y : V}, DaS K H n x y → DaS K H' n x y := fun {n x y} h => by
  induction h with
  | int i => exact .int i
  | bl c => exact .bl c
  | str z => exact .str z
  | lst ha hb hl _ hz ih => exact .lst (Ex.lst e ha) (Ex.lst e hb) hl ih hz
  | tup ha hb hl _ hz ih => exact .tup (e.sqt ha) (e.sqt hb) hl ih hz
end MM
namespace MM
open PySem PySem.Spec PyProof.Rows L2 GxR
/-! ### the end of a law row whose defs show their data -/
section
variable {P : Program} {w : World} {K : PySem.W.Frag} {mg mb : Str → Option Value} {k : Nat} {fa a : Addr} {cs : List (Addr × Addr)} {x y : Str} {sp : Sp} {s1 : Shared} {vs : List Value} {ns : List Int}
/-- what is tracked at the entry: the script, where the written part does not hold it, and the tables -/
def entryH (K : PySem.W.Frag) (a : Addr) (o : Obj) (ns : List Int) (cs : List (Addr × Addr)) : Hp := fun b => if b ∈ cs.map (·.2) then some (.tbl #[]) else if b = a ∧ K.lookup a = none then some (.frz o (.lst (ns.map V.int))) else none
theorem entry_cases {o : Obj} {b : Addr} {u : HO} (h : entryH K a o ns cs b = some u) : (b ∈ cs.map (·.2) ∧ u = .tbl #[]) ∨ (b = a ∧ K.lookup a = none ∧ u = .frz o (.lst (ns.map V.int))) := by
  unfold entryH at h
  by_cases h1 : b ∈ cs.map (·.2)
  · rw [if_pos h1] at h; cases h; exact .inl ⟨h1, rfl⟩
  · rw [if_neg h1] at h
    by_cases h2 : b = a ∧ K.lookup a = none
    · rw [if_pos h2] at h; cases h; exact .inr ⟨h2.1, h2.2, rfl⟩
    · rw [if_neg h2] at h; cases h
theorem entry_none {o : Obj} {b : Addr} (h1 : b ∉ cs.map (·.2)) (h2 : b = a → K.lookup a ≠ none) : entryH K a o ns cs b = none := by
  unfold entryH; rw [if_neg h1, if_neg fun z => h2 z.1 z.2]
theorem endG (KX : K.In s1.heap) (hns : s1.heap.Ns mainGlobals mg) (hb : s1.heap.Ns builtinsNs mb) (hbb : ∀ x : Str, x ≠ "__name__" → mb x = bootBuiltins x) (hlim : s1.heap.NoLimit) (hg : s1.gens = #[]) (hT : ∀ p ∈ cs, s1.heap.get? p.2 = some { cls := .none, data := .fields #[] }) (nT : ∀ p ∈ cs, K.lookup p.2 = none) (C : ∀ p ∈ cs, PySem.W.CodeHd s1.heap p.1 p.2)
    (hbm : ∃ (bm : Addr) (ob : Obj), mg "__builtins__" = some (.ref bm) ∧ bm ≠ builtinsNs ∧ s1.heap.get? bm = some ob ∧ ob.cls = .type "module" ∧ ob.dict = some builtinsNs ∧ ob.data = .plain) (ha : s1.heap.get? a = some { cls := .type "list", data := .seq vs.toArray }) (hi : IntsAre vs ns) (hl : ns.length ≤ sizeLine) (hr : Room k callerA)
    (F : ∀ base : Heap, K.In base → base.Ns mainGlobals mg → (∀ p ∈ cs, TabB base mg p.1 p.2) → CallD P w K mg base k y [x] sp) (hy : mg y = some (.ref fa))
    (hsp : ∀ H : Hp, (∀ p ∈ cs, H p.2 = some (.tbl #[])) → Script K H a (ns.map V.int) → sp [.ref a] H (fun v _ => v = .bl true) fun _ _ _ => False) :
    codeAny (model P w) callerA (.call (.ref fa) ⟨[.ref a], []⟩) (fun r s' => r = .ok (.ret (.bool true)) ∧ OldK s1.heap s'.heap ∧ s'.os = s1.os ∧ AllBare s'.gens) s1 := by
  have rv := vals_ints hi
  have lenV := hi.length
  have isT : ∀ b : Addr, b ∈ cs.map (·.2) → s1.heap.get? b = some { cls := .none, data := .fields #[] } := fun b hb => by obtain ⟨p, hp, e⟩ := List.mem_map.mp hb; exact e ▸ hT p hp
  have aT : a ∉ cs.map (·.2) := fun z => by have q := isT a z; rw [ha] at q; cases q
  generalize hO : ({ cls := .type "list", data := .seq vs.toArray } : Obj) = oS at ha
  have dO : oS.data = .seq vs.toArray 0 := by rw [← hO]
  generalize hH : entryH K a oS ns cs = H
  have cas : ∀ {b : Addr} {u : HO}, H b = some u → (b ∈ cs.map (·.2) ∧ u = .tbl #[]) ∨ (b = a ∧ K.lookup a = none ∧ u = .frz oS (.lst (ns.map V.int))) := fun {b u} h => entry_cases (by rw [hH]; exact h)
  have non : ∀ {b : Addr}, b ∉ cs.map (·.2) → (b = a → K.lookup a ≠ none) → H b = none := fun {b} h1 h2 => by rw [← hH]; exact entry_none h1 h2
  have plain : ∀ {b : Addr} {o : Obj}, s1.heap.get? b = some o → (∀ vs n, o.data ≠ .seq vs n) → o.data ≠ .fields #[] → H b = none := fun {b o} e h1 h2 =>
    non (fun z => h2 (by have q := isT b z; rw [e] at q; cases q; rfl)) fun z => absurd dO (by rw [z, ha] at e; cases e; exact h1 _ _)
  have atT : ∀ p ∈ cs, H p.2 = some (.tbl #[]) := fun p hp => by rw [← hH]; unfold entryH; rw [if_pos (List.mem_map.mpr ⟨p, hp, rfl⟩)]
  have hScr : Script K H a (ns.map V.int) := by
    cases q : K.lookup a with
    | none => exact .inl ⟨oS, by rw [← hH]; unfold entryH; rw [if_neg aT, if_pos ⟨rfl, q⟩]⟩
    | some o =>
      have e := KX a o q; rw [ha] at e; cases e
      exact .inr ⟨_, vs.toArray, 0, q, by rw [← hO], by rw [← hO], dO, by rw [List.size_toArray, lenV]; exact hl, by simpa using rv⟩
  have ok : HOk P w H s1.heap := fun b u e => by
    rcases cas e with ⟨h1, rfl⟩ | ⟨rfl, _, rfl⟩
    · exact isT b h1
    · exact ⟨ha, by rw [List.length_map]; exact hl, vs, 0, rv, by rw [← hO] at ha; exact ha⟩
  have dic : ∀ {b : Addr} {o : Obj} {es : Array DictEntry} {ep : Nat}, s1.heap.get? b = some o → o.data = .dict es ep → H b = none := fun {b o es ep} e d => plain e (fun vs n z => by rw [d] at z; cases z) fun z => by rw [d] at z; cases z
  have nsK : ∀ {b : Addr} {m : Str → Option Value}, s1.heap.Ns b m → (hidT s1.heap H).Ns b m := fun {b m} ⟨o, es, ep, e, d, r⟩ => ⟨o, es, ep, hidT_get e (dic e d), d, r⟩
  have hKb : K.In (hidT s1.heap H) := fun b o e => hidT_get (KX b o e) (non (fun z => by obtain ⟨p, hp, ep⟩ := List.mem_map.mp z; rw [← ep, nT p hp] at e; cases e) fun z q => by rw [z, q] at e; cases e)
  have hM : L2.Mod K mg (hidT s1.heap H) := ⟨hKb, nsK hns, ⟨mb, nsK hb, hbb⟩, let ⟨mc, h1, h2⟩ := hlim; ⟨mc, nsK h1, h2⟩⟩
  have TB : ∀ p ∈ cs, TabB (hidT s1.heap H) mg p.1 p.2 := fun p hp => by
    have hTp := hT p hp
    refine ⟨?_, ?_, fun z => ?_⟩
    · obtain ⟨o, us, file, tf, flags, tg, inF, text, tt, e1, r1, r2, r3, r⟩ := C p hp
      exact ⟨o, us, file, tf, flags, tg, inF, text, tt, hidT_get e1 (plain e1 (fun vs n z => by rw [r2] at z; cases z) fun z => by rw [r2] at z; cases z; simp at r3), r1, r2, r3, r⟩
    · obtain ⟨bm, ob, b1, b2, b3, b4, b5, b6⟩ := hbm
      refine ⟨bm, ob, b1, b2, fun q => ?_, fun q => ?_, hidT_get b3 (plain b3 (fun vs n z => by rw [b6] at z; cases z) fun z => by rw [b6] at z; cases z), b4, b5, b6⟩
      · obtain ⟨o, es, ep, e, hd, _⟩ := hns; rw [q, e] at b3; cases b3; rw [hd] at b6; cases b6
      · rw [q, hTp] at b3; cases b3; cases b6
    · obtain ⟨o, es, ep, e, hd, _⟩ := hns; rw [z, hTp] at e; cases e; cases hd
  have e0 : Env0 P w K mg (hidT s1.heap H) callerA [] s1 H := ⟨rfl, hM, fun b o e => of_hidT e, Nat.le_of_eq (hidT_size _ _), trivial, (fun b hb => nomatch (show b ∈ ([] : List Addr) from hb)), ok, .of_eq hg⟩
  obtain ⟨f', fd, FG, hf', _, hbind⟩ := F _ hKb (nsK hns) TB
  rw [hy] at hf'
  cases hf'
  refine codeAny_mono (FG.run callerA [] s1 H ⟨[.ref a], []⟩ [.ref a] [.ref a] _ _ hr rfl e0 (hbind s1 [.ref a] KX rfl) (.cons rfl .nil) (hsp H atT hScr)) fun r s' h => ?_
  match r, h with
  | .error e, h => exact False.elim h
  | .ok (.ret u), ⟨v, H', os, bare, un, hok', r', q⟩ =>
    obtain rfl : v = .bl true := q
    obtain rfl : u = Value.bool true := r'
    have key : ∀ b o, b ∉ cs.map (·.2) → s1.heap.get? b = some o → s'.heap.get? b = some o := fun b o nb e => by
      cases q : H b with
      | none => exact un.keep b o e q (fun z => nomatch (show b ∈ ([] : List Addr) from z)) (by simp)
      | some u =>
        rcases cas q with ⟨z, _⟩ | ⟨rfl, _, rfl⟩
        · exact absurd z nb
        · obtain ⟨e2, _⟩ := hok' b _ (un.frzs b oS _ q)
          rw [ha] at e; cases e; exact e2
    have grown : ∀ b, b ∈ cs.map (·.2) → ∃ more : Array Value, s'.heap.get? b = some { cls := .none, data := .fields more } := fun b hb => by
      obtain ⟨p, hp, rfl⟩ := List.mem_map.mp hb
      obtain ⟨more, z⟩ := un.tbls p.2 #[] (atT p hp)
      exact ⟨_, hok' p.2 _ z⟩
    refine ⟨rfl, ⟨fun b o e => ?_, fun b o e => ?_⟩, os, bare⟩
    · by_cases hb : b ∈ cs.map (·.2)
      · obtain ⟨more, hm⟩ := grown b hb
        obtain ⟨p, hp, rfl⟩ := List.mem_map.mp hb
        rw [hT p hp] at e; cases e
        exact .inr (.inl ⟨((C p hp).tab (hT p hp)).isCodeTable, rfl, #[], more, rfl, by rw [Array.empty_append]; exact hm⟩)
      · exact .inl (key b o hb e)
    · by_cases hb : b ∈ cs.map (·.2)
      · obtain ⟨more, hm⟩ := grown b hb; exact ⟨_, hm⟩
      · exact ⟨o, key b o hb e⟩
end
/-- what is known of the law's promise at the head's heap h -/
def LawG (l : PySem.W.OpenLaw) (w : World) (K : PySem.W.Frag) (k n : Nat) (y x : Str) (mg : Str → Option Value) (h : Heap) : Prop :=
  ∃ (cs : List (Addr × Addr)) (sp : Sp), (∀ p ∈ cs, h.get? p.2 = some { cls := .none, data := .fields #[] }) ∧ (∀ p ∈ cs, K.lookup p.2 = none) ∧ (∀ p ∈ cs, PySem.W.CodeHd h p.1 p.2) ∧
    (∀ (H : Hp) (a : Addr) (ns : List Int), ns.length ≤ n → (∀ z ∈ ns, Builtin.Int.intBits z ≤ 1048576) → (∀ p ∈ cs, H p.2 = some (.tbl #[])) → Script K H a (ns.map V.int) → sp [.ref a] H (fun v _ => v = .bl true) fun _ _ _ => False) ∧
    ∀ base : Heap, K.In base → base.Ns mainGlobals mg → (∀ p ∈ cs, TabB base mg p.1 p.2) → CallD l.prog w K mg base k y [x] sp
theorem walkG {l : PySem.W.OpenLaw} {n k : Nat} {q : Program} {loose : List Str} {XP : (Str → Option Value) → Heap → Prop} {YP : World → Heap → Prop} {d : DefRec} {x : Str} (hn : l.most = some n) (hn2 : n ≤ sizeLine) (hdf : d.params.defaults = []) (hr : Room k callerA)
    (F : ∀ (w : World) (mg : Str → Option Value) (fa : Addr) (h : Heap), YP w h → h.Ns mainGlobals mg → mg d.name = some (.ref fa) → ∃ K : PySem.W.Frag, K.In h ∧ LawG l w K k n d.name x mg h) :
    PySem.W.WalkO q loose XP YP l.row.toRowW d [] (fun f vs => PySem.call f vs) := by
  refine Att.attach_callB hn hdf fun w s₀ s₁ mg mb fa o pm cd doc a vs ns G Y ho hd hcd hmg hobj hints hlen hbits hg => ?_
  obtain ⟨K, KX, cs, sp, hT, nT, C, hsp, hF⟩ := F w mg fa _ Y G.T.g hmg
  exact endG KX G.T.g G.T.b G.T.builtins G.T.nolimit hg hT nT C G.T.bmain hobj hints (Nat.le_trans hlen hn2) hr hF hmg fun H hH hS => hsp H a ns hlen hbits hH hS
end MM
namespace MM
open PySem PySem.Spec PyProof.Rows L2 GxR
/-! ### anything that may be handed in -/
/-- a tuple of what is known by kind, or no tuple -/
inductive Thing (K : PySem.W.Frag) (H : Hp) : V → Option (List V) → Prop
  | tup {a : Addr} {xs : List V} (e : SqT K H a xs) (h : ∀ x ∈ xs, ∃ T, Kd K H x T) : Thing K H (.ref a) (some xs)
  | no {v : V} {T : String} (k : Kd K H v T) (n : T ≠ "tuple") : Thing K H v none
def RowP (o : Option (List V)) : Prop := ∃ ns : List Int, o = some (ns.map V.int) ∧ IsRow ns
def BkP (m : Nat) (o : Option (List V)) : Prop := ∃ gs : List Int, o = some (gs.map V.int) ∧ BookOk m gs
/-- data handed in: what never changes, a list, an empty dict -/
inductive Oq (K : PySem.W.Frag) (H : Hp) : V → PyData → Prop
  | fix {v : V} {d : PyData} (h : Dp K H v d) (n : noList d = true) : Oq K H v d
  | lst {a : Addr} {xs : List V} {ds : List PyData} (e : H a = some (.lst xs)) (h : DpAll K H xs ds) (n : noLists ds = true) : Oq K H (.ref a) (.list ds)
  | dct {a : Addr} (e : H a = some (.dK [])) : Oq K H (.ref a) (.dict [])
section
variable {K : PySem.W.Frag} {H H' : Hp} {v : V} {d : PyData} {B : Addr → Prop}
theorem Oq.exB (e : ExB B H H') (h : Oq K H v d) (nb : ∀ a, v = .ref a → ¬ B a) : Oq K H' v d := by
  cases h with
  | fix h n => exact .fix (Dp.exN e n h) n
  | lst a h n => exact .lst (e.lst a (nb _ rfl)) (Dp.exNAll e n h) n
  | dct a => exact .dct (e.keep _ _ a (fun _ z => (nomatch z)) (nb _ rfl))
theorem Oq.ex (e : Ex H H') (h : Oq K H v d) : Oq K H' v d := h.exB e fun _ _ => id
mutual
theorem Dp.noDict : ∀ {v : V} {d : PyData}, Dp K H v d → d.hasDict = false
  | _, _, .non => by simp only [PyData.hasDict]
  | _, _, .bl _ => by simp only [PyData.hasDict]
  | _, _, .int _ => by simp only [PyData.hasDict]
  | _, _, .str _ => by simp only [PyData.hasDict]
  | _, _, .lst _ h => by simp only [PyData.hasDict, Dp.noDicts h]
  | _, _, .tup _ h => by simp only [PyData.hasDict, Dp.noDicts h]
theorem Dp.noDicts : ∀ {vs : List V} {ds : List PyData}, DpAll K H vs ds → PyData.hasDictAll ds = false
  | _, _, .nil => by simp only [PyData.hasDictAll]
  | _, _, .cons h t => by simp only [PyData.hasDictAll, Dp.noDict h, Dp.noDicts t, Bool.or_self]
end
theorem dp_kd (h : Dp K H v d) (n : noList d = true) : ∃ T, Kd K H v T := by
  cases h with
  | non => exact ⟨_, .non⟩
  | bl b => exact ⟨_, .bl b⟩
  | int i => exact ⟨_, .int i⟩
  | str z => exact ⟨_, .str z⟩
  | lst => simp [noList] at n
  | tup e _ => exact ⟨_, .tup e⟩
theorem dpAll_kd : ∀ {xs : List V} {ds : List PyData}, DpAll K H xs ds → noLists ds = true → ∀ x ∈ xs, ∃ T, Kd K H x T
  | _, _, .nil, _ => fun _ h => nomatch h
  | _, _, .cons h t, n => fun x hx => by
    simp only [noLists, Bool.and_eq_true] at n
    rcases List.mem_cons.mp hx with rfl | hx
    · exact dp_kd h n.1
    · exact dpAll_kd t n.2 x hx
theorem dpAll_iff : ∀ {xs : List V} {ds : List PyData}, DpAll K H xs ds → ∀ ns : List Int, xs = ns.map V.int ↔ ds = ns.map PyData.int
  | _, _, .nil, [] => ⟨fun _ => rfl, fun _ => rfl⟩
  | _, _, .nil, _ :: _ => ⟨fun z => (nomatch z), fun z => (nomatch z)⟩
  | _, _, .cons h t, [] => ⟨fun z => (nomatch z), fun z => (nomatch z)⟩
  | _, _, .cons (v := v) (d := d) h t, i :: ns => by
    have ih := dpAll_iff t ns
    rw [List.map_cons, List.map_cons, List.cons.injEq, List.cons.injEq, ih]
    have e : v = .int i ↔ d = .int i := by
      cases h with
      | int j => exact ⟨fun z => by cases z; rfl, fun z => by cases z; rfl⟩
      | _ => exact ⟨fun z => (by cases z), fun z => (by cases z)⟩
    rw [e]
def RowD (d : PyData) : Prop := ∃ ns : List Int, d = .tuple (ns.map PyData.int) ∧ IsRow ns
def BkD (m : Nat) (d : PyData) : Prop := ∃ gs : List Int, d = .tuple (gs.map PyData.int) ∧ BookOk m gs
def ManyD (d : PyData) : Prop := ∃ m : Nat, d = .int (m : Int) ∧ 1 ≤ m ∧ m ≤ 9
def lenD : PyData → Nat
  | .tuple ds => ds.length
  | _ => 0
theorem dpAll_length : ∀ {xs : List V} {ds : List PyData}, DpAll K H xs ds → xs.length = ds.length
  | _, _, .nil => rfl
  | _, _, .cons _ t => congrArg (· + 1) (dpAll_length t)
theorem Oq.thing (h : Oq K H v d) : ∃ o, Thing K H v o ∧ (RowP o ↔ RowD d) ∧ (∀ m, BkP m o ↔ BkD m d) ∧ ∀ xs, o = some xs → xs.length = lenD d := by
  have tupleOf : ∀ {a : Addr} {xs : List V} {ds : List PyData}, SqT K H a xs → DpAll K H xs ds → noLists ds = true → ∃ o, Thing K H (.ref a) o ∧ (RowP o ↔ RowD (.tuple ds)) ∧ (∀ m, BkP m o ↔ BkD m (.tuple ds)) ∧ ∀ xs, o = some xs → xs.length = lenD (.tuple ds) := fun {a xs ds} e h n => by
    have hi := dpAll_iff h
    refine ⟨some xs, .tup e (dpAll_kd h n), ⟨fun ⟨ns, z, r⟩ => ⟨ns, ?_, r⟩, fun ⟨ns, z, r⟩ => ⟨ns, ?_, r⟩⟩, fun m => ⟨fun ⟨ns, z, r⟩ => ⟨ns, ?_, r⟩, fun ⟨ns, z, r⟩ => ⟨ns, ?_, r⟩⟩, fun ys e => ?_⟩
    · rw [(hi ns).mp (Option.some.inj z)]
    · injection z with z; rw [(hi ns).mpr z]
    · rw [(hi ns).mp (Option.some.inj z)]
    · injection z with z; rw [(hi ns).mpr z]
    · cases e; exact dpAll_length h
  have no : ∀ {T : String}, Kd K H v T → T ≠ "tuple" → (∀ ds, d ≠ .tuple ds) → ∃ o, Thing K H v o ∧ (RowP o ↔ RowD d) ∧ (∀ m, BkP m o ↔ BkD m d) ∧ ∀ xs, o = some xs → xs.length = lenD d := fun k nt nd =>
    ⟨none, .no k nt, ⟨fun ⟨_, z, _⟩ => (nomatch z), fun ⟨_, z, _⟩ => absurd z (nd _)⟩, fun _ => ⟨fun ⟨_, z, _⟩ => (nomatch z), fun ⟨_, z, _⟩ => absurd z (nd _)⟩, fun _ z => (nomatch z)⟩
  cases h with
  | fix h n =>
    cases h with
    | non => exact no .non (by decide) (fun _ z => (nomatch z))
    | bl b => exact no (.bl b) (by decide) (fun _ z => (nomatch z))
    | int i => exact no (.int i) (by decide) (fun _ z => (nomatch z))
    | str z => exact no (.str z) (by decide) (fun _ z => (nomatch z))
    | lst => simp [noList] at n
    | tup e h => exact tupleOf e h (by simpa [noList] using n)
  | lst e h n => exact no (.lst e) (by decide) (fun _ z => (nomatch z))
  | dct e => exact no (.dic e) (by decide) (fun _ z => (nomatch z))
/-- what a value is, by kind, as a whole number or not -/
theorem Oq.kd (h : Oq K H v d) : ∃ T, Kd K H v T := by
  cases h with
  | fix h n => exact dp_kd h n
  | lst e _ _ => exact ⟨_, .lst e⟩
  | dct e => exact ⟨_, .dic e⟩
def manyB : V → Bool
  | .int i => decide (1 ≤ i ∧ i ≤ 9)
  | _ => false
theorem Oq.many (h : Oq K H v d) : manyB v = true ↔ ManyD d := by
  have no : manyB v = false → (∀ i, d ≠ .int i) → (manyB v = true ↔ ManyD d) := fun e nd => ⟨fun z => (by rw [e] at z; cases z), fun ⟨_, z, _⟩ => absurd z (nd _)⟩
  cases h with
  | fix h n =>
    cases h with
    | int i =>
      refine ⟨fun z => ?_, fun ⟨m, z, h1, h9⟩ => ?_⟩
      · have z := of_decide_eq_true z
        exact ⟨i.toNat, by rw [Int.toNat_of_nonneg (by omega)], by omega, by omega⟩
      · cases z
        exact decide_eq_true ⟨by omega, by omega⟩
    | _ => exact no rfl (fun _ z => (nomatch z))
  | lst => exact no rfl (fun _ z => (nomatch z))
  | dct => exact no rfl (fun _ z => (nomatch z))
/-- a good row, book, number, as it stands -/
theorem Oq.row {d : PyData} (h : Oq K H v d) (r : RowD d) : ∃ (a : Addr) (ns : List Int), v = .ref a ∧ SqT K H a (ns.map V.int) ∧ IsRow ns ∧ d = .tuple (ns.map PyData.int) := by
  obtain ⟨ns, rfl, r⟩ := r
  cases h with
  | fix h n => cases h with
    | tup e h => exact ⟨_, ns, rfl, by rw [← (dpAll_iff h ns).mpr rfl]; exact e, r, rfl⟩
theorem Oq.book {d : PyData} {m : Nat} (h : Oq K H v d) (r : BkD m d) : ∃ (a : Addr) (ns : List Int), v = .ref a ∧ SqT K H a (ns.map V.int) ∧ BookOk m ns ∧ d = .tuple (ns.map PyData.int) := by
  obtain ⟨ns, rfl, r⟩ := r
  cases h with
  | fix h n => cases h with
    | tup e h => exact ⟨_, ns, rfl, by rw [← (dpAll_iff h ns).mpr rfl]; exact e, r, rfl⟩
end
/-! ### refusals, by name -/
inductive Rf | many | row | book | gap | going | unlike | number | step | notone | table | kinds | far | place | notlet | leaving | text | toomany
deriving DecidableEq
def Rf.nm : Rf → Str
  | .many => "NoMany" | .row => "NoRow" | .book => "NoBook" | .gap => "NoGap" | .going => "NoGoing" | .unlike => "Unlike" | .number => "NoNumber" | .step => "NoStep" | .notone => "NotOne"
  | .table => "NoTable" | .kinds => "NoKinds" | .far => "NoFar" | .place => "NoPlace" | .notlet => "NotLet" | .leaving => "NoLeaving" | .text => "NoText" | .toomany => "TooMany"
end MM
namespace MM
open PySem PySem.Spec PyProof.Rows L2 GxR
/-! ### repr of a list of what may be handed in -/
inductive OqL (K : PySem.W.Frag) (H : Hp) : List V → List PyData → Prop
  | nil : OqL K H [] []
  | cons {v : V} {d : PyData} {vs : List V} {ds : List PyData} (h : Oq K H v d) (t : OqL K H vs ds) : OqL K H (v :: vs) (d :: ds)
section
variable {K : PySem.W.Frag} {H H' : Hp} {vs ws : List V} {ds es : List PyData} {B : Addr → Prop}
theorem OqL.exB (e : ExB B H H') (h : OqL K H vs ds) (nb : ∀ a, V.ref a ∈ vs → ¬ B a) : OqL K H' vs ds := by
  induction h with
  | nil => exact .nil
  | cons h _ ih => exact .cons (h.exB e fun a z => nb a (z ▸ List.mem_cons_self)) (ih fun a z => nb a (List.mem_cons_of_mem _ z))
theorem OqL.ex (e : Ex H H') (h : OqL K H vs ds) : OqL K H' vs ds := h.exB e fun _ _ => id
theorem OqL.app (h : OqL K H vs ds) (h' : OqL K H ws es) : OqL K H (vs ++ ws) (ds ++ es) := by
  induction h with
  | nil => exact h'
  | cons h _ ih => exact .cons h ih
theorem OqL.length (h : OqL K H vs ds) : vs.length = ds.length := by
  induction h with
  | nil => rfl
  | cons _ _ ih => exact congrArg (· + 1) ih
theorem OqL.get (h : OqL K H vs ds) : ∀ {j : Nat} {v : V}, vs[j]? = some v → ∃ d, ds[j]? = some d ∧ Oq K H v d := by
  induction h with
  | nil => intro j v e; cases e
  | cons h _ ih =>
    intro j v e
    cases j with
    | zero => cases e; exact ⟨_, rfl, h⟩
    | succ j => exact ih e
end
section
variable {X : Cx} {pins : List (Addr × Obj)} {σ : L2.St} {H : Hp} {s : Shared}
theorem Oq.reads (I : Inv X pins σ H s) {v : V} {d : PyData} {u : Value} (h : Oq X.K H v d) (r : RelV v u) : ∃ as, Reads s.heap u d as ∧ (d.hasDict = true → sysModules ∉ as) := by
  cases h with
  | fix h n =>
    obtain ⟨as, q⟩ := Dp.reads I d v u h r
    exact ⟨as, q, PyData.noDict_hsm (Dp.noDict h)⟩
  | @lst a xs ds e h n =>
    have h' : Dp X.K H (.ref a) (.list ds) := .lst (SqL.of e) h
    obtain ⟨as, q⟩ := Dp.reads I _ _ u h' r
    exact ⟨as, q, PyData.noDict_hsm (Dp.noDict h')⟩
  | @dct a e =>
    cases (show u = Value.ref a from r)
    obtain ⟨_, hsys, vs, rel, o, es, ep, ho, hx, hd, _, hp, _⟩ := (show ObjOk X.prog X.w H s.heap a (.dK []) from I.hok a _ e)
    cases rel
    have he : es.toList = [] := by
      cases q : es.toList with
      | nil => rfl
      | cons y l => rw [q] at hp; exact nomatch hp
    refine ⟨_, Reads.dict ho hx.1 hd (as := []) (bs := []) (by rw [he]; exact .nil) (by rw [he]; exact .nil), fun _ hm => ?_⟩
    have hm : sysModules ∈ [a] := by simpa using hm
    rw [List.mem_singleton.mp hm] at hsys
    simp at hsys
theorem OqL.reads (I : Inv X pins σ H s) {vs : List V} {ds : List PyData} (h : OqL X.K H vs ds) : ∀ {us : List Value}, Vals vs us → PyData.showableAll ds = true → (∀ t ∈ PyData.shownAll ds, t.length ≤ sizeLine) →
    (∃ as, ReadsAll s.heap us ds as) ∧ ∃ bs, ReadAtMost s.heap (PyData.depthAll ds) bs ∧ ReprAllK X.prog X.w bs s.heap (PyData.depthAll ds) us (PyData.shownAll ds) := by
  induction h with
  | nil =>
    intro us r _ _
    cases r
    exact ⟨⟨_, .nil⟩, [], (fun _ h => nomatch h), by simp only [PyData.shownAll]; exact .nil⟩
  | @cons v d vs ds h _ ih =>
    intro us r hs hz
    cases r with
    | cons r1 r2 =>
      have hs' : d.showable = true ∧ PyData.showableAll ds = true := by simpa [PyData.showableAll] using hs
      obtain ⟨as, q, hsm⟩ := h.reads I r1
      obtain ⟨b1, hb1, k1⟩ := ReprK.of_reads (prog := X.prog) (w := X.w) q hs'.1 hsm (hz _ (by simp only [PyData.shownAll]; exact List.mem_cons_self ..))
      obtain ⟨⟨as2, q2⟩, b2, hb2, k2⟩ := ih r2 hs'.2 (fun t ht => hz t (by simp only [PyData.shownAll]; exact List.mem_cons_of_mem _ ht))
      refine ⟨⟨_, .cons q q2⟩, b1 ++ b2, ?_, ?_⟩
      · intro b hm
        simp only [PyData.depthAll]
        rcases List.mem_append.mp hm with hm | hm
        · obtain ⟨d', as', r', hd'⟩ := hb1 b hm
          exact ⟨d', as', r', Nat.le_trans hd' (Nat.le_max_left _ _)⟩
        · obtain ⟨d', as', r', hd'⟩ := hb2 b hm
          exact ⟨d', as', r', Nat.le_trans hd' (Nat.le_max_right _ _)⟩
      · simp only [PyData.depthAll, PyData.shownAll]
        exact .cons ((k1.more fun b hb => List.mem_append_left _ hb).level_le (Nat.le_max_left _ _)) (k2.more_le (fun b hb => List.mem_append_right _ hb) (Nat.le_max_right _ _))
end
section
variable {X : Cx} {K : PySem.W.Frag}
end
end MM
namespace MM
open PySem PySem.Spec PyProof.Rows L2 GxR
open HotX (HotAt)
/-! ### the end of a list, of a tuple, met while an error is handled -/
section
variable {prog : Program} {w : World} {A : Around} {E : Value → Shared → Prop} {s : Shared}
end
end MM
namespace MM
open PySem PySem.Spec PyProof.Rows L2 GxR
open HotX (HotAt)
/-! ### a tuple taken apart while an error is handled -/
section
variable {prog : Program} {w : World} {A : Around} {E : Value → Shared → Prop} {s : Shared}
theorem HotAt.keep {A : Around} {x1 : Addr} {h h' : Heap} (t : HotAt A x1 h) (k : ∀ o, h.get? x1 = some o → h'.get? x1 = some o) : HotAt A x1 h' := let ⟨a, o, vs, e, d, c⟩ := t; ⟨a, o, vs, k o e, d, c⟩
theorem HotAt.lt {A : Around} {x1 : Addr} {h : Heap} (t : HotAt A x1 h) : x1 < h.objs.size := let ⟨_, _, _, e, _, _⟩ := t; Heap.lt_size e
end
end MM
namespace MM
open PySem PySem.Spec PyProof.Rows L2 GxR
open L2H (Hot1 PinOk RoomH cxH HotC)
/-! ### defs that are handed the error which is handled: what they promise hangs on its object -/
abbrev SpE := Addr × Obj → Sp
structure FnE (P : Program) (w : World) (K : PySem.W.Frag) (mg : Str → Option Value) (base : Heap) (k : Nat) (f : Addr) (fd : FuncData) (ps : List Str) (sp : SpE) : Prop where
  len : ∀ p vs H Q E, sp p vs H Q E → vs.length = ps.length
  run : ∀ (A : Around) (outer : List Env) (s : Shared) (H : Hp) (args : Args) (us : List Value) (vs : List V) (Q : VK) (E : XK) (p : Addr × Obj), RoomH k A → Hot1 A p → PinOk outer H s p → Env0 P w K mg base A outer s H → BindsTo s fd args (ps.zip us) → Vals vs us → sp p vs H Q E →
    codeAny (model P w) A (.call (.ref f) args) (CR CX0 outer P w H s Q E) s
def CallE (P : Program) (w : World) (K : PySem.W.Frag) (mg : Str → Option Value) (base : Heap) (k : Nat) (x : Str) (ps : List Str) (sp : SpE) : Prop :=
  ∃ f fd, FnE P w K mg base k f fd ps sp ∧ mg x = some (.ref f) ∧ PySem.W.keepIn K (.ref f) = true ∧ Binds K fd ps []
section
variable {P : Program} {w : World} {K : PySem.W.Frag} {mg : Str → Option Value} {base : Heap} {f : Addr} {fd : FuncData} {x : Str} {st : Stmt} {ps N : List Str} {k : Nat} {sp : SpE}
end
end MM
namespace MM
open PySem PySem.Spec PyProof.Rows L2 GxR
open L2H (cxH)
/-! ### the same, of errors without a context (L2N): a def may then be handed the error -/
section
variable {X : Cx} {C : Addr} {bmB : List Value} {B newId initId : String}
end
def CallXN (P : Program) (w : World) (K : PySem.W.Frag) (mg : Str → Option Value) (base : Heap) (k : Nat) (x : Str) (ps : List Str) (sp : Sp) : Prop :=
  ∃ f fd, FnG P w K mg base (L2N.CX P w) k f fd ps sp ∧ mg x = some (.ref f) ∧ PySem.W.keepIn K (.ref f) = true ∧ Binds K fd ps []
section
variable {P : Program} {w : World} {K : PySem.W.Frag} {mg : Str → Option Value} {base : Heap} {f : Addr} {fd : FuncData} {x : Str} {st : Stmt} {ps N : List Str} {k : Nat} {sp sp' : Sp}
theorem CallXN.le {j : Nat} (C : CallXN P w K mg base j x ps sp) (h : j ≤ k) : CallXN P w K mg base k x ps sp := let ⟨f, fd, F, r⟩ := C; ⟨f, fd, F.mono h, r⟩
end
section
variable {X : Cx} {k : Nat} {ps : List Str} {sp : Sp} {x : Str} {p pos : Pos} {e : Expr} {es : List Expr} {t : TA} {W : WX}
theorem run_fnGSN {CX : CXT} {f : Addr} {fd : FuncData} {E : L2.St → XK} {pins : List (Addr × Obj)} {σ : L2.St} {H : Hp} {s : Shared} {Q : VK} {us : List Value} {vs : List V} (F : FnG X.prog X.w X.K X.mg X.base CX k f fd ps sp) (hr : Room k X.A) (hG : X.A.guards = some []) (hb : Binds X.K fd ps []) (hx : PassesAt CX X σ (E σ))
    (I : Inv X pins σ H s) (r : Vals vs us) (h : sp vs H Q (E σ)) : wpAny (model X.prog X.w) X.A (call (.ref f) us) (EP X pins σ Q) X.xe s := by
  have hl : us.length = ps.length := r.length ▸ F.len _ _ _ _ h
  have b := hb s us I.kIn (by rw [List.append_nil]; exact hl)
  rw [List.append_nil] at b
  refine wpAny_call (codeAny_mono (F.run X.A X.stack s H ⟨us, []⟩ us vs Q (E σ) hr hG I.env0 b r h) fun r s' hq => ?_)
  match r, hq with
  | .error e, hq => exact hx pins H s e s' I hq
  | .ok (.ret u), hq => exact I.after hq
end
/-! ### the error handed on -/
section
variable {X : Cx} {k : Nat} {ps : List Str} {sp : SpE} {x : Str} {q pos : Pos} {e : Expr} {es : List Expr} {t : TA}
end
end MM
namespace MM
open PySem PySem.Spec PyProof.Rows L2 GxR
open L2H (cxH)
/-! ### a call whose def an expression tells: [f, g, h][door](..) -/
/-- what the def at f promises, whatever its name; errors without a context -/
inductive HeldX (P : Program) (w : World) (K : PySem.W.Frag) (mg : Str → Option Value) (base : Heap) (k : Nat) (f : Addr) : Sp → Prop
  | one {fd : FuncData} {ps : List Str} {sp : Sp} (F : FnG P w K mg base (L2N.CX P w) k f fd ps sp) (kp : PySem.W.keepIn K (.ref f) = true) (b : Binds K fd ps []) : HeldX P w K mg base k f sp
  | or {sp sp' : Sp} (a : HeldX P w K mg base k f sp) (b : HeldX P w K mg base k f sp') : HeldX P w K mg base k f (orS sp sp')
theorem CallXN.held {P : Program} {w : World} {K : PySem.W.Frag} {mg : Str → Option Value} {base : Heap} {k : Nat} {x : Str} {ps : List Str} {sp : Sp} {f : Addr} (C : CallXN P w K mg base k x ps sp) (g : mg x = some (.ref f)) : HeldX P w K mg base k f sp := by
  obtain ⟨f', fd, F, g', kp, b⟩ := C
  obtain rfl : f' = f := by rw [g] at g'; injection g' with h; injection h with h; exact h.symm
  exact .one F kp b
section
variable {X : Cx} {k : Nat} {pos : Pos} {fe e : Expr} {es : List Expr} {tf : TE} {t : TA} {W : WX} {f : Addr} {sp : Sp}
theorem HeldX.run (C : HeldX X.prog X.w X.K X.mg X.base k f sp) (tk : L2N.Takes X W) (hr : Room k X.A) (hG : X.A.guards = some []) : ∀ {pins : List (Addr × Obj)} {σ : L2.St} {H : Hp} {s : Shared} {Q : VK} {us : List Value} {vs : List V}, Inv X pins σ H s → Vals vs us → sp vs H Q (WE W σ) →
    PySem.W.keepIn X.K (.ref f) = true ∧ wpAny (model X.prog X.w) X.A (call (.ref f) us) (EP X pins σ Q) X.xe s := by
  induction C with
  | one F kp b => exact fun I r h => ⟨kp, run_fnGSN (E := WE W) F hr hG b (L2N.passAt tk _) I r h⟩
  | or a b iha ihb => exact fun I r h => h.elim (iha I r) (ihb I r)
theorem HeldX.keep (C : HeldX X.prog X.w X.K X.mg X.base k f sp) : PySem.W.keepIn X.K (.ref f) = true := by
  induction C with
  | one F kp b => exact kp
  | or a b iha ihb => exact iha
end
end MM
namespace MM
open PySem PySem.Spec PyProof.Rows L2 GxR
theorem CallE.le {P : Program} {w : World} {K : PySem.W.Frag} {mg : Str → Option Value} {base : Heap} {j k : Nat} {x : Str} {ps : List Str} {sp : SpE} (C : CallE P w K mg base j x ps sp) (h : j ≤ k) : CallE P w K mg base k x ps sp := by
  obtain ⟨f, fd, F, r⟩ := C
  exact ⟨f, fd, ⟨F.len, fun A outer s H args us vs Q E p hr => F.run A outer s H args us vs Q E p (hr.mono h)⟩, r⟩
/-- words beside truths, as pairs -/
structure WPairs (H : Hp) (xs : List V) (items : List (Str × Bool)) : Prop where
  len : xs.length = items.length
  at_ : ∀ (k : Nat) (p : Str × Bool), items[k]? = some p → ∃ t, xs[k]? = some (.ref t) ∧ H t = some (.tup [.str p.1, .bl p.2])
theorem WPairs.ex {B : Addr → Prop} {H H' : Hp} {xs : List V} {items : List (Str × Bool)} (h : WPairs H xs items) (e : ExB B H H') : WPairs H' xs items := ⟨h.len, fun k p hp => let ⟨t, a, b⟩ := h.at_ k p hp; ⟨t, a, e.tup b⟩⟩
theorem WPairs.nil {H : Hp} : WPairs H [] [] := ⟨rfl, fun _ _ h => nomatch h⟩
theorem WPairs.snoc {H : Hp} {xs : List V} {items : List (Str × Bool)} {t : Addr} {w : Str} {b : Bool} (h : WPairs H xs items) (e : H t = some (.tup [.str w, .bl b])) : WPairs H (xs ++ [.ref t]) (items ++ [(w, b)]) := by
  refine ⟨by rw [List.length_append, List.length_append, h.len]; rfl, fun k p hp => ?_⟩
  by_cases hk : k < items.length
  · rw [List.getElem?_append_left hk] at hp
    obtain ⟨u, a, c⟩ := h.at_ k p hp
    exact ⟨u, by rw [List.getElem?_append_left (by rw [h.len]; exact hk)]; exact a, c⟩
  · have hk' : k = items.length := by
      have := (List.getElem?_eq_some_iff.mp hp).1
      rw [List.length_append, List.length_singleton] at this; omega
    subst hk'
    rw [List.getElem?_append_right (Nat.le_refl _), Nat.sub_self] at hp
    cases hp
    exact ⟨t, by rw [List.getElem?_append_right (by rw [h.len]; exact Nat.le_refl _), h.len, Nat.sub_self]; rfl, e⟩
end MM
namespace MM
open PySem PySem.Spec PyProof.Rows L2 GxR
section
variable {K : PySem.W.Frag} {H : Hp}
end
def mutD : PyData → Bool
  | .list _ => true
  | .dict _ => true
  | _ => false
theorem Oq.exM {K : PySem.W.Frag} {H H' : Hp} {B : Addr → Prop} {v : V} {d : PyData} (e : ExB B H H') (h : Oq K H v d) (nb : ∀ a, v = .ref a → mutD d = true → ¬ B a) : Oq K H' v d := by
  cases h with
  | fix h n => exact .fix (Dp.exN e n h) n
  | lst a h n => exact .lst (e.lst a (nb _ rfl rfl)) (Dp.exNAll e n h) n
  | dct a => exact .dct (e.keep _ _ a (fun _ z => nomatch z) (nb _ rfl rfl))
/-- what may change stands apart from b -/
inductive NbL (Pn : Addr → Prop) : List V → List PyData → Prop
  | nil : NbL Pn [] []
  | cons {v : V} {d : PyData} {vs : List V} {ds : List PyData} (h : ∀ a, v = .ref a → mutD d = true → Pn a) (t : NbL Pn vs ds) : NbL Pn (v :: vs) (d :: ds)
theorem NbL.imp {Pn Qn : Addr → Prop} {vs : List V} {ds : List PyData} (h : NbL Pn vs ds) (i : ∀ a, Pn a → Qn a) : NbL Qn vs ds := by
  induction h with
  | nil => exact .nil
  | cons h _ ih => exact .cons (fun a e m => i a (h a e m)) ih
theorem NbL.app {Pn : Addr → Prop} {vs ws : List V} {ds es : List PyData} (h : NbL Pn vs ds) (h' : NbL Pn ws es) : NbL Pn (vs ++ ws) (ds ++ es) := by
  induction h with
  | nil => exact h'
  | cons h _ ih => exact .cons h ih
theorem NbL.get {Pn : Addr → Prop} {vs : List V} {ds : List PyData} (h : NbL Pn vs ds) : ∀ {j : Nat} {v : V} {d : PyData}, vs[j]? = some v → ds[j]? = some d → ∀ a, v = .ref a → mutD d = true → Pn a := by
  induction h with
  | nil => intro j v d e; cases e
  | cons h _ ih =>
    intro j v d e e'
    cases j with
    | zero => cases e; cases e'; exact h
    | succ j => exact ih e e'
theorem OqL.exM {K : PySem.W.Frag} {H H' : Hp} {b : Addr} (e : ExB (At1 b) H H') {vs : List V} {ds : List PyData} (h : OqL K H vs ds) : NbL (fun a => a ≠ b) vs ds → OqL K H' vs ds := by
  induction h with
  | nil => exact fun _ => .nil
  | cons h _ ih => intro n; cases n with | cons a t => exact .cons (Oq.exM e h fun c z m => a c z m) (ih t)
/-- a menu: the list at S, of what may be handed in, b the bag -/
structure Menu (K : PySem.W.Frag) (Pn : Addr → Prop) (S : Addr) (Pd : PyData → Prop) (H : Hp) (vs : List V) (ds : List PyData) (n : Nat) : Prop where
  e : H S = some (.lst vs)
  oq : OqL K H vs ds
  nb : NbL Pn vs ds
  nS : NbL (fun a => a ≠ S) vs ds
  all : ∀ d ∈ ds, Pd d
  len : vs.length = n
section
variable {K : PySem.W.Frag} {Pn : Addr → Prop} {b S : Addr} {Pd : PyData → Prop} {H H' : Hp} {vs : List V} {ds : List PyData} {n : Nat}
theorem Menu.ex (M : Menu K Pn S Pd H vs ds n) (x : Ex H H') : Menu K Pn S Pd H' vs ds n := ⟨Ex.lst x M.e, M.oq.ex x, M.nb, M.nS, M.all, M.len⟩
theorem Menu.snoc {v : V} {d : PyData} (M : Menu K Pn S Pd H vs ds n) (o : Oq K H v d) (hm : mutD d = false) (hp : Pd d) : Menu K Pn S Pd (upd H S (.lst (vs ++ [v]))) (vs ++ [v]) (ds ++ [d]) (n + 1) := by
  have x : ExB (At1 S) H (upd H S (.lst (vs ++ [v]))) := ex_set M.e
  have nm : ∀ a, v = .ref a → mutD d = true → ¬ At1 S a := fun _ _ z => by rw [hm] at z; cases z
  refine ⟨upd_same, (M.oq.exM x M.nS).app (.cons (Oq.exM x o nm) .nil), M.nb.app (.cons (fun _ _ z => by rw [hm] at z; cases z) .nil), M.nS.app (.cons (fun _ _ z => by rw [hm] at z; cases z) .nil), fun e he => ?_, by rw [List.length_append, M.len]; rfl⟩
  rcases List.mem_append.mp he with he | he
  · exact M.all e he
  · rw [List.mem_singleton.mp he]; exact hp
theorem Menu.get (M : Menu K Pn S Pd H vs ds n) (x : ExB (At1 b) H H') (nb : S ≠ b) (pb : ∀ a, Pn a → a ≠ b) {j : Nat} (hj : j < n) : ∃ v d, H' S = some (.lst vs) ∧ vs[j]? = some v ∧ Oq K H' v d ∧ (∀ a, v = .ref a → mutD d = true → Pn a) ∧ Pd d := by
  have gj := List.getElem?_eq_getElem (show j < vs.length by rw [M.len]; exact hj)
  obtain ⟨d, gd, od⟩ := M.oq.get gj
  exact ⟨_, d, x.lst M.e nb, gj, Oq.exM x od fun a z m => pb a (M.nb.get gj gd a z m), M.nb.get gj gd, M.all d (List.mem_of_getElem? gd)⟩
end
end MM
namespace MM
open PySem PySem.Spec PyProof.Rows L2 GxR
/-! ### zip_longest(a, b, fillvalue=0) of two lists, walked -/
def zlRun (la lb i : Nat) : Int := (if la < i then 0 else 1) + (if lb < i then 0 else 1)
def zlSlot (l i : Nat) (it : Addr) : Value := if l < i then .none else .ref it
/-- both lists as they are, the shorter one filled up with 0 -/
def Itzl (K : PySem.W.Frag) (a b : Addr) (xs ys : List V) : It :=
  ⟨fun i H => SqL K H a xs ∧ SqL K H b ys ∧ i < max xs.length ys.length,
    fun i H v H' => ∃ T, v = .ref T ∧ H T = none ∧ H' = upd H T (.tup [xs.getD i (.int 0), ys.getD i (.int 0)]),
    fun i H => SqL K H a xs ∧ SqL K H b ys ∧ i = max xs.length ys.length⟩
theorem zl_letgo {prog : Program} {w : World} {A : Around} {E : Value → Shared → Prop} {s : Shared} {elts : List Expr} {x1 : Nat} {pos : Pos} {z TI TO T : Addr} {f : Value} {n : Int} {Q : Unit → Shared → Prop} (hz : ZL.IsZL s.heap z TI TO (rawInt T) f n)
    (hQ : ∀ h', ZL.IsZL h' z TI TO .none f n → Heap.SameBut z s.heap h' → Q () { s with heap := h' }) :
    wpAny (model prog w) A (letOwnedTupleGo (.Tuple elts x1 pos) (.ref z) (.ref T)) Q E s := by
  unfold letOwnedTupleGo
  refine wpAny_bind (wpAny_load hz ?_)
  show wpAny _ _ (if (["enumerate", "zip", "dict_itemiterator", "dict_reverseitemiterator", "odict_iterator", "itertools.zip_longest", "itertools.pairwise"].contains "itertools.zip_longest" &&
      (#[rawInt T, .bool false, f, rawInt n, .ref TI, .ref TO] : Array Value)[0]? == some (rawInt T)) = true then _ else _) Q E s
  rw [if_pos (by simp)]
  refine wpAny_bind (wpAny_rule ?_)
  show wpAny _ _ (setField (.ref z) 0 .none) Q E s
  exact wpAny_setField_rec hz (by simp) fun h' hz' hs' => hQ h' hz' hs'
theorem turn_zl {P : Program} {w : World} {K : PySem.W.Frag} {elts : List Expr} {kk : Nat} {tpos : Pos} {a b z TI TO i1 i2 : Addr} {xs ys : List V} {f : Value} (D : ZipApart z TI TO i1 i2 a b) (e1 : a ≠ TI) (e2 : b ≠ TI) (rf : RelV (.int 0) f) :
    Turn P w K (.Tuple elts kk tpos) (Itzl K a b xs ys) [z, TI, TO, i1, i2] z (fun i h => ZL.IsZL h z TI TO .none f (zlRun xs.length ys.length i) ∧ IsPair h TI (zlSlot xs.length i i1) (zlSlot ys.length i i2) ∧ (∃ x y, IsPair h TO x y) ∧ (i ≤ xs.length → h.IsListIter i1 a i) ∧ (i ≤ ys.length → h.IsListIter i2 b i) ∧
      (∃ o, h.get? i1 = some o ∧ ∀ v, o.data ≠ .cell v) ∧ ∃ o, h.get? i2 = some o ∧ ∀ v, o.data ≠ .cell v) where
  mem := by simp
  obj := fun i h st c hc => by
    obtain ⟨hz, hTI, ⟨x, y, hTO⟩, _, _, x1, x2⟩ := st
    have e' : c = z ∨ c = TI ∨ c = TO ∨ c = i1 ∨ c = i2 := by simpa using hc
    rcases e' with q | q | q | q | q
    · rw [q]; exact ⟨_, hz, fun v q => nomatch q⟩
    · rw [q]; exact ⟨_, hTI, fun v q => nomatch q⟩
    · rw [q]; exact ⟨_, hTO, fun v q => nomatch q⟩
    · rw [q]; exact x1
    · rw [q]; exact x2
  keep := fun i h h' st k => by
    obtain ⟨hz, hTI, ⟨x, y, hTO⟩, h1, h2, ⟨o1, a1, b1⟩, ⟨o2, a2, b2⟩⟩ := st
    exact ⟨k z (by simp) _ hz, k TI (by simp) _ hTI, ⟨x, y, k TO (by simp) _ hTO⟩, fun hi => (h1 hi).at fun o q => k i1 (by simp) o q, fun hi => (h2 hi).at fun o q => k i2 (by simp) o q, ⟨o1, k i1 (by simp) _ a1, b1⟩, ⟨o2, k i2 (by simp) _ a2, b2⟩⟩
  item := by
    intro X hP hw hK hc i pins s σ H E I hf st hg
    subst hP hw hK
    obtain ⟨hz, hTI, ⟨x0, y0, hTO⟩, h1, h2, d1, d2⟩ := st
    obtain ⟨hqx, hqy, hi⟩ := hg
    obtain ⟨its, rv, p, _⟩ := I.list hqx
    obtain ⟨its2, rv2, p2, _⟩ := I.list hqy
    have l1 := rv.length
    have l2 := rv2.length
    have hTy : s.TypeIs (.ref z) "itertools.zip_longest" := ⟨_, hz, rfl⟩
    have hh := I.ok.hd hc
    have fin : ∀ (h5 h' : Heap) (vx vy : Value) (n2 : Int) (sl1 sl2 : Value), (∀ c o, c ≠ z → c ≠ TI → c ≠ TO → c ≠ i1 → c ≠ i2 → s.heap.get? c = some o → h5.get? c = some o) → (∀ c o, c ≠ z → h5.get? c = some o → h'.get? c = some o) →
        ZL.IsZL h' z TI TO (rawInt h5.objs.size) f n2 → IsPair h' TI sl1 sl2 → IsPair h' TO vx vy → IsPair h' h5.objs.size vx vy → RelV (xs.getD i (.int 0)) vx → RelV (ys.getD i (.int 0)) vy → n2 = zlRun xs.length ys.length (i + 1) → sl1 = zlSlot xs.length (i + 1) i1 → sl2 = zlSlot ys.length (i + 1) i2 →
        (i + 1 ≤ xs.length → h'.IsListIter i1 a (i + 1)) → (i + 1 ≤ ys.length → h'.IsListIter i2 b (i + 1)) → (∃ o, h'.get? i1 = some o ∧ ∀ v, o.data ≠ .cell v) → (∃ o, h'.get? i2 = some o ∧ ∀ v, o.data ≠ .cell v) → (z < h5.objs.size ∧ TI < h5.objs.size ∧ TO < h5.objs.size ∧ i1 < h5.objs.size ∧ i2 < h5.objs.size) →
        ∃ u, some (Value.ref h5.objs.size) = some u ∧ wpAny (model X.prog X.w) X.A (letOwnedTupleGo (.Tuple elts kk tpos) (.ref z) u) (fun _ s2 => ∃ x H', Inv X pins σ H' s2 ∧ RelV x u ∧ (Itzl X.K a b xs ys).yld i H x H' ∧ (ZL.IsZL s2.heap z TI TO .none f (zlRun xs.length ys.length (i + 1)) ∧ IsPair s2.heap TI (zlSlot xs.length (i + 1) i1) (zlSlot ys.length (i + 1) i2) ∧ (∃ x y, IsPair s2.heap TO x y) ∧ (i + 1 ≤ xs.length → s2.heap.IsListIter i1 a (i + 1)) ∧ (i + 1 ≤ ys.length → s2.heap.IsListIter i2 b (i + 1)) ∧
          (∃ o, s2.heap.get? i1 = some o ∧ ∀ v, o.data ≠ .cell v) ∧ ∃ o, s2.heap.get? i2 = some o ∧ ∀ v, o.data ≠ .cell v) ∧ ∀ b ∈ [z, TI, TO, i1, i2], H' b = none) E { s with heap := h' } := by
      intro h5 h' vx vy n2 sl1 sl2 k5 k6 hz' hTI' hTO' hT rx ry en es1 es2 hi1 hi2 x1 x2 hlt
      have zlt := hlt.1
      subst en es1 es2
      refine ⟨_, rfl, zl_letgo (s := { s with heap := h' }) hz' fun h'' z'' sb => ?_⟩
      have I5 : Inv X pins σ H { s with heap := h5 } := I.turnedL (t' := s.toks) (ch := [z, TI, TO, i1, i2]) (fun c o hb q => k5 c o (fun q' => hb (by simp [q'])) (fun q' => hb (by simp [q'])) (fun q' => hb (by simp [q'])) (fun q' => hb (by simp [q'])) (fun q' => hb (by simp [q'])) q) hf
      have hT2 : h''.get? h5.objs.size = some { cls := .type "tuple", data := .seq #[vx, vy] } := (sb.2 _ (Nat.ne_of_gt zlt)).trans hT
      have new : ObjOk X.prog X.w (upd H h5.objs.size (.tup [xs.getD i (.int 0), ys.getD i (.int 0)])) h'' h5.objs.size (.tup [xs.getD i (.int 0), ys.getD i (.int 0)]) :=
        ⟨by show 2 ≤ sizeLine; decide, [vx, vy], .cons rx (.cons ry .nil), ⟨_, hT2, rfl, _, rfl⟩⟩
      have hn : H h5.objs.size = none := I5.hok.fresh (Nat.le_refl _)
      have I1 : Inv X pins σ (upd H h5.objs.size (.tup [xs.getD i (.int 0), ys.getD i (.int 0)])) { s with heap := h'' } :=
        I5.turnedNew (t' := s.toks) (ch := [z]) (fun c o hb q => (sb.2 c (fun q' => hb (by simp [q']))).trans (k6 c o (fun q' => hb (by simp [q'])) q)) (fun c hc' => hf c (by simp at hc'; simp [hc'])) (Nat.le_refl _) new
      have tr : ∀ c o, c ≠ z → h'.get? c = some o → h''.get? c = some o := fun c o cz q => (sb.2 _ cz).trans q
      refine ⟨.ref h5.objs.size, _, I1, rfl, ⟨_, rfl, hn, rfl⟩, ⟨z'', tr _ _ D.TIz hTI', ⟨_, _, tr _ _ D.TOz hTO'⟩, fun q => (hi1 q).at fun o e => tr _ _ D.i1z e, fun q => (hi2 q).at fun o e => tr _ _ D.i2z e, let ⟨o, p, q⟩ := x1; ⟨o, tr _ _ D.i1z p, q⟩, let ⟨o, p, q⟩ := x2; ⟨o, tr _ _ D.i2z p, q⟩⟩, fun c hcm => ?_⟩
      have hne : c ≠ h5.objs.size := fun z' => by
        have e' : c = z ∨ c = TI ∨ c = TO ∨ c = i1 ∨ c = i2 := by simpa using hcm
        obtain ⟨q1, q2, q3, q4, q5⟩ := hlt
        rcases e' with q | q | q | q | q
        · exact Nat.ne_of_lt q1 (q.symm.trans z')
        · exact Nat.ne_of_lt q2 (q.symm.trans z')
        · exact Nat.ne_of_lt q3 (q.symm.trans z')
        · exact Nat.ne_of_lt q4 (q.symm.trans z')
        · exact Nat.ne_of_lt q5 (q.symm.trans z')
      rw [upd_ne hne]
      exact (hf c hcm).1
    -- by the lists' ends
    unfold pyNext
    refine wpAny_bind (wpAny_attempt (wpAny_callSpecial?_slot (name := Str.ofString "__next__") hTy ZL.slot_next (wpAny_call_entry ZL.slot_next hTy ZL.entry_next ?_ (ZL.args_next _))))
    have item1 : i < xs.length → ∃ x u, xs[i]? = some x ∧ its.toArray[i]? = some u ∧ RelV x u ∧ xs.getD i (.int 0) = x := fun h => by
      have gx := List.getElem?_eq_getElem h
      obtain ⟨u, hu, ru⟩ := rv.get gx
      exact ⟨_, u, gx, by simpa using hu, ru, by rw [List.getD_eq_getElem?_getD, gx]; rfl⟩
    have item2 : i < ys.length → ∃ x u, ys[i]? = some x ∧ its2.toArray[i]? = some u ∧ RelV x u ∧ ys.getD i (.int 0) = x := fun h => by
      have gx := List.getElem?_eq_getElem h
      obtain ⟨u, hu, ru⟩ := rv2.get gx
      exact ⟨_, u, gx, by simpa using hu, ru, by rw [List.getD_eq_getElem?_getD, gx]; rfl⟩
    have out1 : xs.length ≤ i → xs.getD i (.int 0) = .int 0 := fun h => by rw [List.getD_eq_getElem?_getD, List.getElem?_eq_none h]; rfl
    have out2 : ys.length ≤ i → ys.getD i (.int 0) = .int 0 := fun h => by rw [List.getD_eq_getElem?_getD, List.getElem?_eq_none h]; rfl
    have none1 : xs.length ≤ i → its.toArray[i]? = none := fun h => by simp; omega
    have none2 : ys.length ≤ i → its2.toArray[i]? = none := fun h => by simp; omega
    rcases Nat.lt_trichotomy i xs.length with c1 | c1 | c1
    · obtain ⟨x, u, gx, gu, ru, ex⟩ := item1 c1
      rcases Nat.lt_trichotomy i ys.length with c2 | c2 | c2
      · obtain ⟨y, v, gy, gv, rw', ey⟩ := item2 c2
        have er : zlRun xs.length ys.length i = 2 := by unfold zlRun; rw [if_neg (by omega), if_neg (by omega)]; rfl
        have s1 : zlSlot xs.length i i1 = .ref i1 := if_neg (by omega)
        have s2 : zlSlot ys.length i i2 = .ref i2 := if_neg (by omega)
        rw [er] at hz; rw [s1, s2] at hTI
        exact ZL.next_ll D e1 e2 hz hTI hTO (h1 (by omega)) p.isList gu (h2 (by omega)) p2.isList gv fun h5 h' k5 k6 z' TI' TO' j1 j2 hT hlt => wpAny_pure (fin h5 h' u v 2 (.ref i1) (.ref i2) k5 k6 z' TI' TO' hT (ex ▸ ru) (ey ▸ rw') (by unfold zlRun; rw [if_neg (by omega), if_neg (by omega)]; rfl) (if_neg (by omega)).symm (if_neg (by omega)).symm (fun _ => j1) (fun _ => j2) (let ⟨o, a, _, d⟩ := j1; ⟨o, a, fun v z => by rw [d] at z; cases z⟩) (let ⟨o, a, _, d⟩ := j2; ⟨o, a, fun v z => by rw [d] at z; cases z⟩) hlt)
      · have er : zlRun xs.length ys.length i = 2 := by unfold zlRun; rw [if_neg (by omega), if_neg (by omega)]; rfl
        have s1 : zlSlot xs.length i i1 = .ref i1 := if_neg (by omega)
        have s2 : zlSlot ys.length i i2 = .ref i2 := if_neg (by omega)
        rw [er] at hz; rw [s1, s2] at hTI
        exact ZL.next_le D e1 e2 hh hz hTI hTO (h1 (by omega)) p.isList gu (h2 (by omega)) p2.isList (none2 (by omega)) fun h5 h' k5 k6 z' TI' TO' j1 j2 hT hlt => wpAny_pure (fin h5 h' u f 1 (.ref i1) .none k5 k6 z' TI' TO' hT (ex ▸ ru) (by rw [out2 (by omega)]; exact rf) (by unfold zlRun; rw [if_neg (by omega), if_pos (by omega)]; rfl) (if_neg (by omega)).symm (if_pos (by omega)).symm (fun _ => j1) (fun h => absurd h (by omega)) (let ⟨o, a, _, d⟩ := j1; ⟨o, a, fun v z => by rw [d] at z; cases z⟩) j2 hlt)
      · have er : zlRun xs.length ys.length i = 1 := by unfold zlRun; rw [if_neg (by omega), if_pos (by omega)]; rfl
        have s1 : zlSlot xs.length i i1 = .ref i1 := if_neg (by omega)
        have s2 : zlSlot ys.length i i2 = .none := if_pos (by omega)
        rw [er] at hz; rw [s1, s2] at hTI
        exact ZL.next_ld D e1 e2 hz hTI hTO (h1 (by omega)) p.isList gu d2 fun h5 h' k5 k6 z' TI' TO' j1 j2 hT hlt => wpAny_pure (fin h5 h' u f 1 (.ref i1) .none k5 k6 z' TI' TO' hT (ex ▸ ru) (by rw [out2 (by omega)]; exact rf) (by unfold zlRun; rw [if_neg (by omega), if_pos (by omega)]; rfl) (if_neg (by omega)).symm (if_pos (by omega)).symm (fun _ => j1) (fun h => absurd h (by omega)) (let ⟨o, a, _, d⟩ := j1; ⟨o, a, fun v z => by rw [d] at z; cases z⟩) j2 hlt)
    · obtain ⟨y, v, gy, gv, rw', ey⟩ := item2 (by omega)
      have er : zlRun xs.length ys.length i = 2 := by unfold zlRun; rw [if_neg (by omega), if_neg (by omega)]; rfl
      have s1 : zlSlot xs.length i i1 = .ref i1 := if_neg (by omega)
      have s2 : zlSlot ys.length i i2 = .ref i2 := if_neg (by omega)
      rw [er] at hz; rw [s1, s2] at hTI
      exact ZL.next_el D e1 e2 hh hz hTI hTO (h1 (by omega)) p.isList (none1 (by omega)) (h2 (by omega)) p2.isList gv fun h5 h' k5 k6 z' TI' TO' j1 j2 hT hlt => wpAny_pure (fin h5 h' f v 1 .none (.ref i2) k5 k6 z' TI' TO' hT (by rw [out1 (by omega)]; exact rf) (ey ▸ rw') (by unfold zlRun; rw [if_pos (by omega), if_neg (by omega)]; rfl) (if_pos (by omega)).symm (if_neg (by omega)).symm (fun h => absurd h (by omega)) (fun _ => j2) j1 (let ⟨o, a, _, d⟩ := j2; ⟨o, a, fun v z => by rw [d] at z; cases z⟩) hlt)
    · obtain ⟨y, v, gy, gv, rw', ey⟩ := item2 (by omega)
      have er : zlRun xs.length ys.length i = 1 := by unfold zlRun; rw [if_pos (by omega), if_neg (by omega)]; rfl
      have s1 : zlSlot xs.length i i1 = .none := if_pos (by omega)
      have s2 : zlSlot ys.length i i2 = .ref i2 := if_neg (by omega)
      rw [er] at hz; rw [s1, s2] at hTI
      exact ZL.next_dl D e1 e2 hz hTI hTO (h2 (by omega)) p2.isList gv d1 fun h5 h' k5 k6 z' TI' TO' j1 j2 hT hlt => wpAny_pure (fin h5 h' f v 1 .none (.ref i2) k5 k6 z' TI' TO' hT (by rw [out1 (by omega)]; exact rf) (ey ▸ rw') (by unfold zlRun; rw [if_pos (by omega), if_neg (by omega)]; rfl) (if_pos (by omega)).symm (if_neg (by omega)).symm (fun h => absurd h (by omega)) (fun _ => j2) j1 (let ⟨o, a, _, d⟩ := j2; ⟨o, a, fun v z => by rw [d] at z; cases z⟩) hlt)
  done := by
    intro X hP hw hK hc i pins s σ H E I hf st hg
    subst hP hw hK
    obtain ⟨hz, hTI, ⟨x0, y0, hTO⟩, h1, h2, d1, d2⟩ := st
    obtain ⟨hqx, hqy, hi⟩ := hg
    obtain ⟨its, rv, p, _⟩ := I.list hqx
    obtain ⟨its2, rv2, p2, _⟩ := I.list hqy
    have l1 := rv.length
    have l2 := rv2.length
    have hTy : s.TypeIs (.ref z) "itertools.zip_longest" := ⟨_, hz, rfl⟩
    have hh := I.ok.hd hc
    have none1 : xs.length ≤ i → its.toArray[i]? = none := fun h => by simp; omega
    have none2 : ys.length ≤ i → its2.toArray[i]? = none := fun h => by simp; omega
    have ed : ∀ (h' : Heap), (∀ c o, c ≠ z → c ≠ TI → c ≠ TO → c ≠ i1 → c ≠ i2 → s.heap.get? c = some o → h'.get? c = some o) → Inv X pins σ H { s with heap := h' } := fun h' k =>
      I.turnedL (t' := s.toks) (ch := [z, TI, TO, i1, i2]) (fun c o hb q => k c o (fun q' => hb (by simp [q'])) (fun q' => hb (by simp [q'])) (fun q' => hb (by simp [q'])) (fun q' => hb (by simp [q'])) (fun q' => hb (by simp [q'])) q) hf
    unfold pyNext
    refine wpAny_bind (wpAny_attempt (wpAny_callSpecial?_slot (name := Str.ofString "__next__") hTy ZL.slot_next (wpAny_call_entry ZL.slot_next hTy ZL.entry_next ?_ (ZL.args_next _))))
    rcases Nat.lt_trichotomy xs.length ys.length with c1 | c1 | c1
    · have er : zlRun xs.length ys.length i = 1 := by unfold zlRun; rw [if_pos (by omega), if_neg (by omega)]; rfl
      have s1 : zlSlot xs.length i i1 = .none := if_pos (by omega)
      have s2 : zlSlot ys.length i i2 = .ref i2 := if_neg (by omega)
      rw [er] at hz; rw [s1, s2] at hTI
      refine ZL.stop_de D e1 e2 hh hz hTI hTO (h2 (by omega)) p2.isList (none2 (by omega)) d1 fun h' e k he => ?_
      obtain ⟨o, ho, hcl⟩ := he
      refine wpAny_bind (wpAny_isInstance (T := "StopIteration") (b := true) ⟨o, ho, hcl⟩ isSubtype_stop ?_)
      exact wpAny_pure ⟨rfl, ed h' k⟩
    · have er : zlRun xs.length ys.length i = 2 := by unfold zlRun; rw [if_neg (by omega), if_neg (by omega)]; rfl
      have s1 : zlSlot xs.length i i1 = .ref i1 := if_neg (by omega)
      have s2 : zlSlot ys.length i i2 = .ref i2 := if_neg (by omega)
      rw [er] at hz; rw [s1, s2] at hTI
      refine ZL.stop_ee D e1 e2 hh hz hTI hTO (h1 (by omega)) p.isList (none1 (by omega)) (h2 (by omega)) p2.isList (none2 (by omega)) fun h' e k he => ?_
      obtain ⟨o, ho, hcl⟩ := he
      refine wpAny_bind (wpAny_isInstance (T := "StopIteration") (b := true) ⟨o, ho, hcl⟩ isSubtype_stop ?_)
      exact wpAny_pure ⟨rfl, ed h' k⟩
    · have er : zlRun xs.length ys.length i = 1 := by unfold zlRun; rw [if_neg (by omega), if_pos (by omega)]; rfl
      have s1 : zlSlot xs.length i i1 = .ref i1 := if_neg (by omega)
      have s2 : zlSlot ys.length i i2 = .none := if_pos (by omega)
      rw [er] at hz; rw [s1, s2] at hTI
      refine ZL.stop_ed D e1 e2 hh hz hTI hTO (h1 (by omega)) p.isList (none1 (by omega)) d2 fun h' e k he => ?_
      obtain ⟨o, ho, hcl⟩ := he
      refine wpAny_bind (wpAny_isInstance (T := "StopIteration") (b := true) ⟨o, ho, hcl⟩ isSubtype_stop ?_)
      exact wpAny_pure ⟨rfl, ed h' k⟩
  self := fun A i s Q E st h => by
    have hT : s.TypeIs (.ref z) "itertools.zip_longest" := ⟨_, st.1, rfl⟩
    refine wpAny_pyIter_slot hT ZL.slot_iter (wpAny_call_entry ZL.slot_iter hT ZL.entry_iter ?_ (ZL.args_iter _))
    show wpAny _ _ (ret (.ref z)) _ _ s
    exact wpAny_pure ⟨_, rfl, "itertools.zip_longest", _, hT, ZL.slot_next.lookup, h⟩
end MM
namespace MM
open PySem PySem.Spec PyProof.Rows L2 GxR
/-! ### for a, b in zip_longest(x, y, fillvalue=0) -/
section
variable {M : Model} {A : Around} {E : Value → Shared → Prop} {s : Shared} {env : Env}
theorem callWith_type_kw {pos : Pos} {T : String} {first : List Value} {args : List (Bool × Sem Value)} {keywords : List (Option Str × Sem Value)} {Q : Value → Shared → Prop}
    (hplain : args.any (·.1) = false) (hkw : keywords.any (·.1.isNone) = false)
    (h : wpAny M A (evalArgs (.type T) true args keywords) (fun a s₁ => wpAny M A (call (.type T) (first ++ a.pos) a.kw) Q E s₁) E s) :
    wpAny M A (callWith pos (.type T) first args keywords) Q E s := by
  unfold callWith
  refine wpAny_bind (wpAny_holding (wpAny_mono h (fun a s₁ h₁ => wpAny_bind (wpAny_standAt ?_)) fun _ _ x => x))
  simp only [hplain, hkw, Bool.or_false]
  refine wpAny_bind (wpAny_pure ?_)
  exact wpAny_bind (wpAny_mono h₁ (fun r s₂ hr => wpAny_bind (wpAny_holding (wpAny_point (wpAny_pure hr)))) fun _ _ x => x)
theorem callWith_typeKW {pos : Pos} {T : String} {e : Expr} {rest : List Expr} {kws : List Keyword} {Q : Value → Shared → Prop}
    (h : wpAny M A (spliced (backTo pos (starEach (e :: rest) env))) (fun vs s₁ => wpAny M A (evalAll ((backToKw pos (keywordEach kws env)).map (·.2)))
      (fun kvs s₂ => wpAny M A (call (.type T) vs (((backToKw pos (keywordEach kws env)).filterMap (·.1)).zip kvs)) Q E s₂) E s₁) E s)
    (he : backTo pos (starEach (e :: rest) env) = (false, eval e env) :: backTo pos (starEach rest env) := by rfl)
    (hplain : (backTo pos (starEach (e :: rest) env)).any (·.1) = false := by rfl)
    (hall : (backToKw pos (keywordEach kws env)).all (·.1.isSome) = true := by rfl)
    (hkw : (backToKw pos (keywordEach kws env)).any (·.1.isNone) = false := by rfl) :
    wpAny M A (callWith pos (.type T) [] (backTo pos (starEach (e :: rest) env)) (backToKw pos (keywordEach kws env))) Q E s := by
  refine callWith_type_kw hplain hkw ?_
  rw [he] at h ⊢
  exact evalArgs_kwB hall h
end
def iZl (K : PySem.W.Frag) (ta tk : TA) : TI := fun σ H R => ta σ H fun vs H1 => tk σ H1 fun zs H2 => ∃ a b xs ys, vs = [.ref a, .ref b] ∧ zs = [.int 0] ∧ SqL K H2 a xs ∧ SqL K H2 b ys ∧ R (Itzl K a b xs ys) H2
theorem pi_zl {X : Cx} {K : PySem.W.Frag} {x : Str} {e e2 : Expr} {kws : List Keyword} {ta tk : TA} {p pos tpos : Pos} {elts : List Expr} {kk : Nat} (hK : X.K = K) (hg : Gl X x) (hm : X.mg x = some (.type "itertools.zip_longest")) (ha : PA X [e, e2] ta) (hk : PK X kws tk)
    (he : backTo pos (starEach [e, e2] X.env) = (false, eval e X.env) :: backTo pos (starEach [e2] X.env) := by rfl) (hpl : (backTo pos (starEach [e, e2] X.env)).any (·.1) = false := by rfl)
    (hall : (backToKw pos (keywordEach kws X.env)).all (·.1.isSome) = true := by rfl) (hnone : (backToKw pos (keywordEach kws X.env)).any (·.1.isNone) = false := by rfl) (hks : (backToKw pos (keywordEach kws X.env)).filterMap (·.1) = [Str.ofString "fillvalue"] := by rfl)
    (hdb : (x == ("__debug__" : Str)) = false := by decide) :
    PI X (.Tuple elts kk tpos) (.Call (.Name x p) [e, e2] kws pos) (iZl K ta tk) := by
  subst hK
  refine ⟨fun pins s σ H R I h => ?_⟩
  refine wpAny_Call_Name_kw (ld_glob I hg hm ?_ hdb)
  refine callWith_typeKW (thn (ha.run pos pins s σ H _ I h) fun us s1 ⟨vs, H1, I1, r1, q1⟩ => thn (hk.run pos pins s1 σ H1 _ I1 q1) fun ws s2 ⟨zs, H2, I2, r2, q2⟩ => ?_) he hpl hall hnone
  obtain ⟨a, b, xs, ys, ex, ez, hqx, hqy, q⟩ := q2
  subst ex ez
  rw [hks]
  cases r1 with
  | cons r rr =>
    cases rr with
    | cons r' rr =>
      cases rr
      cases r
      cases r'
      cases r2 with
      | @cons _ fv _ _ rf rt =>
        cases rt
        obtain ⟨its, rv, p1, _⟩ := I2.list hqx
        obtain ⟨its2, rv2, p2, _⟩ := I2.list hqy
        have la : a < s2.heap.objs.size := p1.lt
        have lb : b < s2.heap.objs.size := p2.lt
        refine ZL.call_zl p1.isList p2.isList fun h' hz hTI hTO h1 h2 hsz hk => ?_
        have I3 : Inv X pins σ H2 { s2 with heap := h' } := I2.kept (t' := s2.toks) hk
        have hT : Shared.TypeIs { s2 with heap := h' } (.ref (s2.heap.objs.size + 4)) "itertools.zip_longest" := ⟨_, hz, rfl⟩
        refine wpAny_pyIter_slot hT ZL.slot_iter (wpAny_call_entry ZL.slot_iter hT ZL.entry_iter ?_ (ZL.args_iter _))
        show wpAny _ _ (ret (.ref (s2.heap.objs.size + 4))) _ _ _
        refine wpAny_pure ⟨_, rfl, "itertools.zip_longest", _, hT, ZL.slot_next.lookup, ?_⟩
        have o1 : ∃ o, h'.get? s2.heap.objs.size = some o ∧ ∀ v, o.data ≠ .cell v := by obtain ⟨o, ho, hd⟩ := h1; exact ⟨o, ho, fun v z => by simp_all⟩
        have o2 : ∃ o, h'.get? (s2.heap.objs.size + 1) = some o ∧ ∀ v, o.data ≠ .cell v := by obtain ⟨o, ho, hd⟩ := h2; exact ⟨o, ho, fun v z => by simp_all⟩
        refine ⟨s2.heap.objs.size + 4, [s2.heap.objs.size + 4, s2.heap.objs.size + 2, s2.heap.objs.size + 3, s2.heap.objs.size, s2.heap.objs.size + 1], _, _, H2, rfl, I3, turn_zl (PySem.W.ktu_apart s2.heap.objs.size a b la lb) (Nat.ne_of_lt (Nat.lt_of_lt_of_le la (Nat.le_add_right _ _))) (Nat.ne_of_lt (Nat.lt_of_lt_of_le lb (Nat.le_add_right _ _))) rf, ?_, fun c hcm => ?_, q⟩
        · have er : zlRun xs.length ys.length 0 = 2 := by unfold zlRun; rw [if_neg (Nat.not_lt_zero _), if_neg (Nat.not_lt_zero _)]; rfl
          refine ⟨by rw [er]; exact hz, ?_, ⟨_, _, hTO⟩, fun _ => h1, fun _ => h2, o1, o2⟩
          unfold zlSlot
          rw [if_neg (Nat.not_lt_zero _), if_neg (Nat.not_lt_zero _)]
          exact hTI
        · have e' : c = s2.heap.objs.size + 4 ∨ c = s2.heap.objs.size + 2 ∨ c = s2.heap.objs.size + 3 ∨ c = s2.heap.objs.size ∨ c = s2.heap.objs.size + 1 := by simpa using hcm
          have hle : s2.heap.objs.size ≤ c := by
            rcases e' with z | z | z | z | z
            · rw [z]; exact Nat.le_add_right _ _
            · rw [z]; exact Nat.le_add_right _ _
            · rw [z]; exact Nat.le_add_right _ _
            · rw [z]; exact Nat.le_refl _
            · rw [z]; exact Nat.le_add_right _ _
          exact I2.fpOk hle (I2.hok.fresh hle)
/-- drawn to its end -/
theorem walk_zl {K : PySem.W.Frag} {a b : Addr} {xs ys : List V} : Walk (Itzl K a b xs ys) (max xs.length ys.length) (fun H => SqL K H a xs ∧ SqL K H b ys)
    (fun i H v H' => ∃ T, v = .ref T ∧ H T = none ∧ H' = upd H T (.tup [xs.getD i (.int 0), ys.getD i (.int 0)])) :=
  ⟨fun i _ hi q => ⟨q.1, q.2, hi⟩, fun _ q => ⟨q.1, q.2, rfl⟩, fun _ _ _ _ _ _ y => y⟩
end MM
namespace MM
open PySem PySem.Spec PyProof.Rows L2 GxR
/-! ### a dict that tells for each row by how many goings it comes -/
def CC (m : Nat) (f : List Int → Nat) (kvs : List (List Key × V)) : Prop := ∀ x, IsRow x → x.length = m → (valV kvs (rk x)).getD (.int 0) = .int ((f x : Nat) : Int)
open Classical in
noncomputable def fJ (kvs : List (List Key × V)) (f : List Int → Nat) (g j : Nat) (x : List Int) : Nat := f x + if rk (swL x g) ∈ (kvs.map (fun p : List Key × V => p.1)).take j then f (swL x g) else 0
theorem fJ_zero (kvs : List (List Key × V)) (f : List Int → Nat) (g : Nat) (x : List Int) : fJ kvs f g 0 x = f x := by
  unfold fJ; rw [List.take_zero, if_neg (fun z => nomatch z)]; rfl
theorem take_key {kvs : List (List Key × V)} {j : Nat} {k : List Key} (h : (kvs[j]?).map (·.1) = some k) : (kvs.map (·.1)).take (j + 1) = (kvs.map (·.1)).take j ++ [k] := by
  rw [List.take_add_one, List.getElem?_map, h]; rfl
theorem not_before {kvs : List (List Key × V)} {j : Nat} {k : List Key} (hn : (kvs.map (·.1)).Nodup) (h : (kvs[j]?).map (·.1) = some k) : k ∉ (kvs.map (·.1)).take j := by
  have := hn.sublist (List.take_sublist (j + 1) _)
  rw [take_key h, List.nodup_append] at this
  exact fun z => this.2.2 k z k List.mem_cons_self rfl
theorem fJ_this {kvs : List (List Key × V)} {f : List Int → Nat} {g j : Nat} {ns : List Int} (hn : (kvs.map (·.1)).Nodup) (h : (kvs[j]?).map (·.1) = some (rk ns)) (hg : g + 1 < ns.length) : fJ kvs f g (j + 1) (swL ns g) = fJ kvs f g j (swL ns g) + f ns := by
  unfold fJ
  rw [sw_sw hg, take_key h, if_pos (List.mem_append_right _ List.mem_cons_self), if_neg (not_before hn h)]
  omega
theorem fJ_other {kvs : List (List Key × V)} {f : List Int → Nat} {g j : Nat} {ns x : List Int} (h : (kvs[j]?).map (·.1) = some (rk ns)) (hg : g + 1 < x.length) (hne : x ≠ swL ns g) : fJ kvs f g (j + 1) x = fJ kvs f g j x := by
  unfold fJ
  have e : rk (swL x g) ≠ rk ns := fun z => hne (by rw [← rk_inj z, sw_sw hg])
  rw [take_key h]
  congr 1
  by_cases c : rk (swL x g) ∈ (kvs.map (·.1)).take j
  · rw [if_pos c, if_pos (List.mem_append_left _ c)]
  · rw [if_neg c, if_neg (fun z => (List.mem_append.mp z).elim c fun z => e (List.mem_singleton.mp z))]
theorem CC.put {m : Nat} {kvs kv2 : List (List Key × V)} {f : List Int → Nat} {g j : Nat} {ns : List Int} (hn : (kvs.map (·.1)).Nodup) (h : (kvs[j]?).map (·.1) = some (rk ns)) (hl : ns.length = m) (hg : g + 1 < m) (hJ : CC m (fJ kvs f g j) kv2) :
    CC m (fJ kvs f g (j + 1)) (putK kv2 (rk (swL ns g)) (.int (((fJ kvs f g j (swL ns g) : Nat) : Int) + ((f ns : Nat) : Int)))) := by
  intro x hr hx
  rw [valV_put]
  by_cases e : rk x = rk (swL ns g)
  · rw [if_pos e, rk_inj e, fJ_this hn h (by omega)]
    show V.int _ = V.int _
    rw [Int.natCast_add]
  · rw [if_neg e, fJ_other h (by omega) (fun z => e (by rw [z]))]
    exact hJ x hr hx
theorem CC.one {m : Nat} : CC m (one0 m) (putK [] (rk (row0 m)) (.int 1)) := by
  intro x hr hx
  rw [valV_put]
  unfold one0
  by_cases e : rk x = rk (row0 m)
  · rw [if_pos e, if_pos (rk_inj e)]; rfl
  · rw [if_neg e, if_neg (fun z => e (by rw [z]))]; rfl
end MM
namespace MM
open PySem PySem.Spec PyProof.Rows L2 GxR
/-! ### by how many goings each row comes from a row -/
def oneR (r : List Int) : List Int → Nat := fun x => if x = r then 1 else 0
def wN (r : List Int) (gs : List Int) : List Int → Nat := cntS (oneR r) gs
theorem wN_nil (r : List Int) : wN r [] = oneR r := rfl
theorem wN_snoc (r as : List Int) (g : Int) (x : List Int) : wN r (as ++ [g]) x = wN r as x + wN r as (swL x g.toNat) := by
  unfold wN; rw [cntS_app]; rfl
theorem wN_take {r gs : List Int} {i : Nat} (h : i < gs.length) : wN r (gs.take (i + 1)) = tkN (gapN gs i) (wN r (gs.take i)) := by
  have e : gs.take (i + 1) = gs.take i ++ [gs.getD i 0] := by rw [List.take_add_one, getD_some h]; rfl
  rw [e]; unfold wN; rw [cntS_app]; rfl
theorem oneR_pos {r x : List Int} : 0 < oneR r x ↔ x = r := by
  unfold oneR
  by_cases e : x = r
  · rw [if_pos e]; exact ⟨fun _ => e, fun _ => Nat.one_pos⟩
  · rw [if_neg e]; exact ⟨fun h => absurd h (Nat.lt_irrefl _), fun h => absurd h e⟩
theorem tkN_pos {g : Nat} {f : List Int → Nat} {x : List Int} : 0 < tkN g f x ↔ 0 < f x ∨ 0 < f (swL x g) := by unfold tkN; omega
theorem cntS_pos {m : Nat} : ∀ {bs : List Int} {f : List Int → Nat} {x : List Int}, BookOk m bs → x.length = m → (0 < cntS f bs x ↔ ∃ y, y.length = m ∧ 0 < f y ∧ 0 < wN y bs x)
  | [], f, x, _, hx => by
    constructor
    · exact fun h => ⟨x, hx, h, oneR_pos.mpr rfl⟩
    · rintro ⟨y, _, h1, h2⟩
      rw [show x = y from oneR_pos.mp h2]; exact h1
  | b :: bs, f, x, hb, hx => by
    have hb' : BookOk m bs := fun z hz => hb z (List.mem_cons_of_mem _ hz)
    have hg := hb b List.mem_cons_self
    have hgn : b.toNat + 1 < m := by omega
    show 0 < cntS (tkN b.toNat f) bs x ↔ ∃ y, y.length = m ∧ 0 < f y ∧ 0 < cntS (tkN b.toNat (oneR y)) bs x
    rw [cntS_pos hb' hx]
    constructor
    · rintro ⟨z, hz, h1, h2⟩
      rcases tkN_pos.mp h1 with h | h
      · exact ⟨z, hz, h, (cntS_pos hb' hx).mpr ⟨z, hz, tkN_pos.mpr (.inl (oneR_pos.mpr rfl)), h2⟩⟩
      · exact ⟨_, by rw [sw_len (by omega)]; exact hz, h, (cntS_pos hb' hx).mpr ⟨z, hz, tkN_pos.mpr (.inr (oneR_pos.mpr rfl)), h2⟩⟩
    · rintro ⟨y, hy, h1, h2⟩
      obtain ⟨z, hz, h3, h4⟩ := (cntS_pos hb' hx).mp h2
      refine ⟨z, hz, tkN_pos.mpr ?_, h4⟩
      rcases tkN_pos.mp h3 with h | h
      · rw [oneR_pos.mp h]; exact .inl h1
      · rw [oneR_pos.mp h]; exact .inr h1
theorem wN_row {m : Nat} {r : List Int} (hr : IsRow r) : ∀ {n : Nat} {gs : List Int}, gs.length = n → BookOk m gs → ∀ {x : List Int}, x.length = m → 0 < wN r gs x → IsRow x
  | 0, gs, hl, _, x, _, h => by
    rw [List.length_eq_zero_iff.mp hl] at h
    rw [show x = r from oneR_pos.mp h]; exact hr
  | n + 1, gs, hl, hb, x, hx, h => by
    have hn : n < gs.length := by omega
    have e : gs = gs.take n ++ [gs.getD n 0] := by
      conv => lhs; rw [← List.take_length (l := gs), hl, List.take_add_one, getD_some hn]
      rfl
    have hb' : BookOk m (gs.take n) := fun y hy => hb y (List.mem_of_mem_take hy)
    have hg := hb (gs.getD n 0) (List.mem_of_getElem? (getD_some hn))
    rw [e, wN_snoc] at h
    have ih := @wN_row m r hr n (gs.take n) (by rw [List.length_take]; omega) hb'
    rcases (show 0 < wN r (gs.take n) x ∨ 0 < wN r (gs.take n) (swL x (gs.getD n 0).toNat) by omega) with h | h
    · exact ih hx h
    · have h2 := ih (by rw [sw_len (by omega)]; exact hx) h
      have := sw_row (g := (gs.getD n 0).toNat) (by rw [sw_len (by omega)]; omega) h2
      rw [sw_sw (by omega)] at this
      exact this
theorem sw_back {m : Nat} {x y : List Int} {g : Nat} (hx : x.length = m) (hg : g + 1 < m) : swL x g = y → x = swL y g := fun h => by rw [← h, sw_sw (by omega)]
/-- the other way about -/
theorem wN_rev {m : Nat} : ∀ {bs : List Int} {x y : List Int}, BookOk m bs → x.length = m → y.length = m → (0 < wN y bs x ↔ 0 < wN x bs.reverse y)
  | [], x, y, _, _, _ => by
    rw [List.reverse_nil, wN_nil, wN_nil, oneR_pos, oneR_pos]; exact ⟨Eq.symm, Eq.symm⟩
  | b :: bs, x, y, hb, hx, hy => by
    have hb' : BookOk m bs := fun z hz => hb z (List.mem_cons_of_mem _ hz)
    have hg := hb b List.mem_cons_self
    have hgn : b.toNat + 1 < m := by omega
    rw [List.reverse_cons, wN_snoc]
    show 0 < cntS (tkN b.toNat (oneR y)) bs x ↔ _
    have i1 := wN_rev hb' hx hy
    have i2 := wN_rev (y := swL y b.toNat) hb' hx (by rw [sw_len (by omega)]; exact hy)
    rw [cntS_pos hb' hx]
    constructor
    · rintro ⟨z, hz, h1, h2⟩
      rcases tkN_pos.mp h1 with h | h
      · rw [oneR_pos.mp h] at h2
        have := i1.mp h2; omega
      · rw [sw_back hz hgn (oneR_pos.mp h)] at h2
        have := i2.mp h2; omega
    · intro h
      rcases (show 0 < wN x bs.reverse y ∨ 0 < wN x bs.reverse (swL y b.toNat) by omega) with h | h
      · exact ⟨y, hy, tkN_pos.mpr (.inl (oneR_pos.mpr rfl)), i1.mpr h⟩
      · exact ⟨_, by rw [sw_len (by omega)]; exact hy, tkN_pos.mpr (.inr (by rw [sw_sw (by omega)]; exact oneR_pos.mpr rfl)), i2.mpr h⟩
theorem book_revI {m : Nat} {gs : List Int} (h : BookOk m gs) : BookOk m gs.reverse := fun x hx => h x (List.mem_reverse.mp hx)
theorem stay_pos {m : Nat} {r as bs x : List Int} (hb : BookOk m bs) (hx : x.length = m) (ha : BookOk m as) (hr : IsRow r) : 0 < wN r (as ++ bs) x ↔ ∃ y, IsRow y ∧ y.length = m ∧ 0 < wN r as y ∧ 0 < wN x bs.reverse y := by
  show 0 < cntS (oneR r) (as ++ bs) x ↔ _
  rw [cntS_app, cntS_pos hb hx]
  constructor
  · rintro ⟨y, hy, h1, h2⟩; exact ⟨y, wN_row hr rfl ha hy h1, hy, h1, (wN_rev hb hx hy).mp h2⟩
  · rintro ⟨y, _, hy, h1, h2⟩; exact ⟨y, hy, h1, (wN_rev hb hx hy).mpr h2⟩
theorem chg_pos {m : Nat} {r as bs x : List Int} {g : Nat} (hb : BookOk m bs) (hx : x.length = m) (ha : BookOk m as) (hr : IsRow r) (hg : g + 1 < m) : 0 < cntS (fun y => wN r as (swL y g)) bs x ↔ ∃ y, IsRow y ∧ y.length = m ∧ 0 < wN r as y ∧ 0 < wN x bs.reverse (swL y g) := by
  rw [cntS_pos hb hx]
  constructor
  · rintro ⟨y, hy, h1, h2⟩
    have h1 : 0 < wN r as (swL y g) := h1
    have hl : (swL y g).length = m := by rw [sw_len (by omega)]; exact hy
    exact ⟨swL y g, wN_row hr rfl ha hl h1, hl, h1, by rw [sw_sw (by omega)]; exact (wN_rev hb hx hy).mp h2⟩
  · rintro ⟨y, _, hl, h1, h2⟩
    refine ⟨swL y g, by rw [sw_len (by omega)]; exact hl, by show 0 < wN r as (swL (swL y g) g); rw [sw_sw (by omega)]; exact h1, (wN_rev hb hx (by rw [sw_len (by omega)]; exact hl)).mpr h2⟩
/-- a row comes just where some going leads there -/
theorem come_cnt {m : Nat} {gs : List Int} (hb : BookOk m gs) : ∀ k, k ≤ gs.length → ∀ x, IsRow x → x.length = m → (Come m gs k x ↔ 0 < wN (row0 m) (gs.take k) x)
  | 0, _, x, _, _ => by rw [List.take_zero, wN_nil, oneR_pos]; exact Iff.rfl
  | k + 1, hk, x, hr, hl => by
    have ih := come_cnt hb k (by omega)
    obtain ⟨g, e, hg⟩ := book_at hb (k := k) (by omega)
    have eg : gapN gs k = g := by unfold gapN; rw [e, Int.toNat_natCast]
    rw [wN_take (by omega), eg, tkN_pos, ← ih x hr hl, ← ih (swL x g) (sw_row (by omega) hr) (by rw [sw_len (by omega)]; exact hl)]
    constructor
    · rintro (h | ⟨y, h1, h2, h3, h4⟩)
      · exact .inl h
      · rw [e, Int.toNat_natCast] at h4
        rw [h4, sw_sw (by omega)]; exact .inr h3
    · rintro (h | h)
      · exact .inl h
      · exact .inr ⟨swL x g, sw_row (by omega) hr, by rw [sw_len (by omega)]; exact hl, h, by rw [e, Int.toNat_natCast, sw_sw (by omega)]⟩
theorem lets_cnt {m : Nat} {gs x : List Int} (h1 : 1 ≤ m) (h9 : m ≤ 9) (hb : BookOk m gs) (hr : IsRow x) (hl : x.length = m) : more x (farL (row0 m) gs) = [] ↔ 0 < wN (row0 m) gs x := by
  rw [← come_far h1 h9 hb hr hl, come_cnt hb gs.length (Nat.le_refl _) x hr hl, List.take_length]
/-! ### a dict that tells them -/
structure DW (m : Nat) (f : List Int → Nat) (kvs : List (List Key × V)) : Prop where
  nd : (kvs.map (·.1)).Nodup
  all : ∀ p ∈ kvs, ∃ ns, p.1 = rk ns ∧ IsRow ns ∧ ns.length = m
  val : ∀ x, IsRow x → x.length = m → valV kvs (rk x) = if f x = 0 then none else some (.int ((f x : Nat) : Int))
theorem DW.le {m : Nat} {f : List Int → Nat} {kvs : List (List Key × V)} (h : DW m f kvs) (h6 : m ≤ 6) : kvs.length ≤ 531441 := RowsK.le (S := fun ns => (valV kvs (rk ns)).isSome = true) ⟨h.nd, h.all, fun _ => Iff.rfl⟩ h6
theorem DW.get {m : Nat} {f : List Int → Nat} {kvs : List (List Key × V)} (h : DW m f kvs) {x : List Int} (hr : IsRow x) (hl : x.length = m) : (valV kvs (rk x)).getD (.int 0) = .int ((f x : Nat) : Int) := by
  rw [h.val x hr hl]
  by_cases e : f x = 0
  · rw [if_pos e, e]; rfl
  · rw [if_neg e]; rfl
theorem DW.has {m : Nat} {f : List Int → Nat} {kvs : List (List Key × V)} (h : DW m f kvs) {x : List Int} (hr : IsRow x) (hl : x.length = m) : (valV kvs (rk x)).isSome = decide (0 < f x) := by
  rw [h.val x hr hl]
  by_cases e : f x = 0
  · rw [if_pos e, e]; rfl
  · rw [if_neg e, decide_eq_true (by omega)]; rfl
theorem DW.congr {m : Nat} {f f' : List Int → Nat} {kvs : List (List Key × V)} (h : DW m f kvs) (e : ∀ x, IsRow x → x.length = m → f x = f' x) : DW m f' kvs := ⟨h.nd, h.all, fun x hr hl => by rw [← e x hr hl]; exact h.val x hr hl⟩
theorem DW.key {m : Nat} {f : List Int → Nat} {kvs : List (List Key × V)} (h : DW m f kvs) {x : List Int} (hr : IsRow x) (hl : x.length = m) : rk x ∈ kvs.map (·.1) ↔ 0 < f x := by
  rw [← valV_mem, h.has hr hl, decide_eq_true_eq]
theorem DW.at {m : Nat} {f : List Int → Nat} {kvs : List (List Key × V)} (h : DW m f kvs) {i : Nat} {k : List Key} {v : V} (e : kvs[i]? = some (k, v)) : ∃ ns, k = rk ns ∧ IsRow ns ∧ ns.length = m ∧ 0 < f ns ∧ valV kvs (rk ns) = some (.int ((f ns : Nat) : Int)) := by
  have hm := List.mem_of_getElem? e
  obtain ⟨ns, e1, h1, h2⟩ := h.all _ hm
  have hk := (h.key h1 h2).mp (List.mem_map.mpr ⟨_, hm, e1⟩)
  exact ⟨ns, e1, h1, h2, hk, by rw [h.val ns h1 h2, if_neg (by omega)]⟩
theorem DW.one {m : Nat} {r : List Int} (hr : IsRow r) (hl : r.length = m) : DW m (oneR r) (putK [] (rk r) (.int 1)) := by
  have R := RowsK.one hr hl (.int 1)
  refine ⟨R.nd, R.all, fun x _ _ => ?_⟩
  rw [valV_put]
  unfold oneR
  by_cases e : x = r
  · rw [if_pos (by rw [e]), if_pos e]; rfl
  · rw [if_neg (fun z => e (rk_inj z)), if_neg e]; rfl
theorem DW.put {m : Nat} {kvs kv2 : List (List Key × V)} {f : List Int → Nat} {g j : Nat} {ns : List Int} (hn : (kvs.map (·.1)).Nodup) (h : (kvs[j]?).map (·.1) = some (rk ns)) (hR : IsRow ns) (hl : ns.length = m) (hf : 0 < f ns) (hg : g + 1 < m) (hJ : DW m (fJ kvs f g j) kv2) :
    DW m (fJ kvs f g (j + 1)) (putK kv2 (rk (swL ns g)) (.int (((fJ kvs f g j (swL ns g) : Nat) : Int) + ((f ns : Nat) : Int)))) := by
  have R := (RowsK.put (S := fun ns => (valV kv2 (rk ns)).isSome = true) ⟨hJ.nd, hJ.all, fun _ => Iff.rfl⟩ (sw_row (g := g) (by omega) hR) (by rw [sw_len (by omega)]; exact hl) (.int (((fJ kvs f g j (swL ns g) : Nat) : Int) + ((f ns : Nat) : Int))))
  refine ⟨R.nd, R.all, fun x hr hx => ?_⟩
  rw [valV_put]
  by_cases e : rk x = rk (swL ns g)
  · rw [if_pos e, rk_inj e, fJ_this hn h (by omega), if_neg (by omega), Int.natCast_add]
  · rw [if_neg e, fJ_other h (by omega) (fun z => e (by rw [z]))]
    exact hJ.val x hr hx
theorem DW.fin {m : Nat} {kvs kv2 : List (List Key × V)} {f : List Int → Nat} {g : Nat} (h : DW m f kvs) (hg : g + 1 < m) (hJ : DW m (fJ kvs f g kvs.length) kv2) : DW m (tkN g f) kv2 := by
  refine hJ.congr fun x hr hl => ?_
  unfold fJ tkN
  rw [List.take_of_length_le (by rw [List.length_map]; exact Nat.le_refl _)]
  have hk := h.key (x := swL x g) (sw_row (by omega) hr) (by rw [sw_len (by omega)]; exact hl)
  by_cases c : rk (swL x g) ∈ kvs.map (·.1)
  · rw [if_pos c]
  · rw [if_neg c]
    have : ¬ 0 < f (swL x g) := fun z => c (hk.mpr z)
    omega
end MM
namespace MM
open PySem PySem.Spec PyProof.Rows L2 GxR
theorem val_of_nodup : ∀ {kvs : List (List Key × V)} (_ : (kvs.map (·.1)).Nodup) {i : Nat} {k : List Key} {v : V} (_ : kvs[i]? = some (k, v)), valV kvs k = some v
  | [], _, i, k, v, e => by rw [List.getElem?_nil] at e; cases e
  | p :: kvs, hn, i, k, v, e => by
    rw [List.map_cons, List.nodup_cons] at hn
    unfold valV
    cases i with
    | zero =>
      rw [List.getElem?_cons_zero] at e
      cases e
      rw [List.find?_cons_of_pos (by simp)]; rfl
    | succ i =>
      rw [List.getElem?_cons_succ] at e
      have ih := val_of_nodup hn.2 e
      unfold valV at ih
      rw [List.find?_cons_of_neg]
      · exact ih
      · intro z
        have z : p.1 = k := by simpa using z
        exact hn.1 (by rw [z]; exact List.mem_map.mpr ⟨(k, v), List.mem_of_getElem? e, rfl⟩)
end MM
namespace MM
open PySem PySem.Spec PyProof.Rows L2 GxR
theorem sw_trueD {kx vx : Expr} {gs : List Comprehension} {scope : Scope} {pos py : Pos} {y : Str} {l : Nat} {env : Env} (hk : env.scope.kind = .function) (hy : env.scope.names.lookup y = some .local) (hl : (py.line == pos.line) = true)
    (ha : (scope.names.any fun (n, k) => n == y && (k == .local || k == .cell)) = false) : swapsWith (.DictComp kx vx gs scope pos) (some (.Name y py)) l env = pure true := by
  have ky : env.kindOf y = some .local := hy
  have hb : env.blockKind = .function := by unfold Env.blockKind; rw [hk]; rfl
  unfold swapsWith
  simp only [hb, ky, ha, Expr.pos, hl]
  rfl
end MM
namespace MM
open PySem PySem.Spec PyProof.Rows L2 GxR
/-! ### dicts whose keys are any tuples of whole numbers and texts, also those known to have no dict of their own -/
theorem key_ofS {X : Cx} {pins : List (Addr × Obj)} {σ : L2.St} {H : Hp} {s : Shared} {a : Addr} {ks : List Key} (I : Inv X pins σ H s) (e : SqT X.K H a (ks.map kV)) : (tupleKind (mixKind X.prog X.w)).is s.heap ks a := by
  obtain ⟨its, r, ⟨o, h1, h2, n, h3⟩, _⟩ := I.tuple e
  exact ⟨o, its.toArray, n, h1, h2, h3, by simpa using items_are r⟩
abbrev KTn : List (List Key × Addr × V) → List (List Key × Addr × Value) → Prop := Paired fun p q => p.1 = q.1 ∧ p.2.1 = q.2.1 ∧ RelV p.2.2 q.2.2
def kvX (xs : List (List Key × Addr × V)) : List (List Key × V) := xs.map fun p => (p.1, p.2.2)
def putX (xs : List (List Key × Addr × V)) (k : List Key) (b : Addr) (v : V) : List (List Key × Addr × V) :=
  if (kvX xs).any (fun kv => decide (kv.1 = k)) then xs.map (fun p => if p.1 = k then (p.1, p.2.1, v) else p) else xs ++ [(k, b, v)]
theorem kvX_put (xs : List (List Key × Addr × V)) (k : List Key) (b : Addr) (v : V) : kvX (putX xs k b v) = putK (kvX xs) k v := by
  unfold putX putK
  split
  · unfold kvX
    rw [List.map_map, List.map_map]
    refine List.map_congr_left fun p _ => ?_
    show ((if p.1 = k then (p.1, p.2.1, v) else p).1, (if p.1 = k then (p.1, p.2.1, v) else p).2.2) = if p.1 = k then (p.1, v) else (p.1, p.2.2)
    split <;> rfl
  · unfold kvX
    rw [List.map_append]; rfl
theorem mem_putX {xs : List (List Key × Addr × V)} {k : List Key} {b : Addr} {v : V} {p : List Key × Addr × V} (h : p ∈ putX xs k b v) : (∃ q ∈ xs, p.1 = q.1 ∧ p.2.1 = q.2.1) ∨ (p.1 = k ∧ p.2.1 = b) := by
  unfold putX at h
  split at h
  · obtain ⟨q, hq, e⟩ := List.mem_map.mp h
    refine .inl ⟨q, hq, ?_⟩
    split at e <;> (rw [← e]; exact ⟨rfl, rfl⟩)
  · rcases List.mem_append.mp h with h | h
    · exact .inl ⟨p, h, rfl, rfl⟩
    · rw [List.mem_singleton.mp h]; exact .inr ⟨rfl, rfl⟩
theorem KTn.val {xs : List (List Key × Addr × V)} {ys : List (List Key × Addr × Value)} (r : KTn xs ys) (k : List Key) : RelO (valV (kvX xs) k) ((atKey ys k).map (·.2)) := by
  induction r with
  | nil => exact True.intro
  | @cons p q ps qs h t ih =>
    obtain ⟨h1, _, h2⟩ := h
    show RelO (valV ((p.1, p.2.2) :: kvX ps) k) _
    by_cases e : p.1 = k
    · have e' : q.1 = k := h1.symm.trans e
      have b : atKey (q :: qs) k = some q.2 := by simp [atKey, List.find?_cons, e']
      rw [valV_pos e, b]; exact h2
    · have e' : ¬ q.1 = k := fun z => e (h1.trans z)
      have b : atKey (q :: qs) k = atKey qs k := by simp [atKey, List.find?_cons, e']
      rw [valV_neg e, b]; exact ih
theorem KTn.repl {xs : List (List Key × Addr × V)} {ys : List (List Key × Addr × Value)} (r : KTn xs ys) (k : List Key) {v : V} {u : Value} (rv : RelV v u) :
    KTn (xs.map fun p => if p.1 = k then (p.1, p.2.1, v) else p) (ys.map (putAt k u)) := by
  induction r with
  | nil => exact .nil
  | @cons p q ps qs h t ih =>
    rw [List.map_cons, List.map_cons]
    refine .cons ?_ ih
    obtain ⟨h1, h2, h3⟩ := h
    unfold putAt
    by_cases e : p.1 = k
    · rw [if_pos e, if_pos (h1.symm.trans e)]; exact ⟨h1, h2, rv⟩
    · rw [if_neg e, if_neg (fun z => e (h1.trans z))]; exact ⟨h1, h2, h3⟩
theorem KTn.put {xs : List (List Key × Addr × V)} {ys : List (List Key × Addr × Value)} (r : KTn xs ys) (k : List Key) {b : Addr} {v : V} {u : Value} (rv : RelV v u) : KTn (putX xs k b v) (storedH ys k b u) := by
  have e : ((kvX xs).any fun kv => decide (kv.1 = k)) = (atKey ys k).isSome := by
    rw [valV_any, (r.val k).isSome_eq, Option.isSome_map]
  unfold putX storedH
  rw [e]
  by_cases q : (atKey ys k).isSome = true
  · rw [if_pos q, if_pos q]; exact r.repl k rv
  · rw [if_neg q, if_neg q]; exact Paired.snoc r ⟨rfl, rfl, rv⟩
/-- the dict's own object -/
def DTp (P : Program) (w : World) (d : Addr) (xs : List (List Key × Addr × V)) (h : Heap) : Prop := xs.length ≤ sizeLine ∧ (d == sysModules) = false ∧ ∃ ys, KTn xs ys ∧
  ∃ o es ep, h.get? d = some o ∧ o.ExactDict ∧ o.data = .dict es ep ∧ es.toList = ys.map (entryOfKey (tupleKind (mixKind P w))) ∧ (ys.map (·.1)).Nodup
theorem dtp_ok {P : Program} {w : World} {H : Hp} {h : Heap} {d : Addr} {xs : List (List Key × Addr × V)} (R : DTp P w d xs h) : ObjOk P w H h d (.ext (DTp P w d xs)) := by
  obtain ⟨z, y, ys, r, o, es, ep, ho, q⟩ := R
  refine ⟨⟨z, y, ys, r, o, es, ep, ho, q⟩, ⟨o, ho⟩, fun h1 h2 p k => ?_⟩
  obtain ⟨z, y, ys, r, o, es, ep, ho, q⟩ := p
  exact ⟨z, y, ys, r, o, es, ep, k _ ho, q⟩
/-- d is such a dict -/
def DT1 (K : PySem.W.Frag) (P : Program) (w : World) (H : Hp) (d : Addr) (kvs : List (List Key × V)) : Prop := ∃ xs, kvX xs = kvs ∧ H d = some (.ext (DTp P w d xs)) ∧ ∀ p ∈ xs, SqT K H p.2.1 (p.1.map kV)
theorem DT1.ex {K : PySem.W.Frag} {P : Program} {w : World} {B : Addr → Prop} {H H' : Hp} {d : Addr} {kvs : List (List Key × V)} (D : DT1 K P w H d kvs) (e : ExB B H H') (n : ¬ B d) : DT1 K P w H' d kvs := by
  obtain ⟨xs, e1, e2, e3⟩ := D
  exact ⟨xs, e1, e.keep _ _ e2 (fun _ z => nomatch z) n, fun p hp => e.sqt (e3 p hp)⟩
theorem ex_setX {H : Hp} {p : Addr} {φ : Heap → Prop} {o : HO} (h : H p = some (.ext φ)) : ExB (fun a => a = p) H (upd H p o) :=
  ⟨fun a o q f => by rw [upd_ne (fun z => by rw [z, h] at q; cases q; exact f)]; exact q, fun a o q _ n => by rw [upd_ne n]; exact q, fun P ps q => ⟨ps, by rw [upd_ne (fun z => by rw [z, h] at q; cases q)]; exact q, id⟩,
    fun a q z => by by_cases e : a = p; (rw [e, upd_same] at z; cases z); rw [upd_ne e] at z; exact q z⟩
section
variable {X : Cx} {pins : List (Addr × Obj)} {σ : L2.St} {H : Hp} {s : Shared} {d b : Addr} {kvs : List (List Key × V)} {k : List Key} {v : V} {u r : Value} {A : Around} {E : Value → Shared → Prop}
end
section
variable {X : Cx} {K : PySem.W.Frag} {P : Program} {w : World} {o i value : Expr} {pos pos' : Pos} {td ty tv : TE}
def tDGet2S (K : PySem.W.Frag) (td ty tx : TE) : TE := fun σ H Q => td σ H fun x H1 => ∃ a, x = .ref a ∧ IsD H1 a ∧ ty σ H1 fun y H2 => tx σ H2 fun z H3 => ∃ kvs b k, y = .ref b ∧ Rd H3 a (.dT kvs) ∧ SqT K H3 b (k.map kV) ∧ Q ((valV kvs k).getD z) H3
theorem pe_dget2S {e f : Expr} {apos cpos : Pos} {tx : TE} (hK : X.K = K) (hu : X.A.units + 1 < cLine) (ho : PE X o td) (he : PE X e ty) (hf : PE X f tx) (m : M2 X o "get" apos e f cpos) : PE X (.Call (.Attribute o "get" apos) [e, f] [] cpos) (tDGet2S K td ty tx) := by
  subst hK
  refine ⟨fun pins s σ H Q I h => ?_⟩
  refine wpAny_Call_method m.base m.few m.line PySem.F.plainAttrs_dict PySem.F.slot_dict_get PySem.F.type_dict_get (thn (ho.run pins s σ H _ I h) fun u s1 ⟨x, H1, I1, rx, a, ex, d, q1⟩ => ?_)
  subst ex
  obtain rfl : u = Value.ref a := rx
  obtain ⟨t1, t2, _⟩ := isD_at I1 d
  refine ⟨t1, t2, ?_⟩
  rw [m.trees]
  refine Calls.callWith_builtin rfl (Calls.evalArgs_plain (Calls.spliced_cons (thn (he.run pins s1 σ H1 _ I1 q1) fun iv s2 ⟨y, H2, I2, ry, q2⟩ =>
    Calls.spliced_cons (thn (hf.run pins s2 σ H2 _ I2 q2) fun fv s3 ⟨z, H3, I3, rz, kvs, b, k, ey, e, hk, q3⟩ => Calls.spliced_nil ?_))))
  subst ey
  obtain rfl : iv = Value.ref b := ry
  obtain ⟨z, hd, xs, rel, dd⟩ := dt_rd I3.hok e
  exact call_meetsIn PySem.F.slot_dict_get dd.typeIs PySem.F.entry_dict_get (PySem.F.args_dict_get_3 _ _ _) (meetsH_dict_get_default (tupleKind (mixKind X.prog X.w)) a b hd fv) ⟨tupleKind_room_in1 hu, k, xs, key_ofS I3 hk, dd, ⟨_, H3, I3.tok _, (rel.val k).getD rz, q3⟩⟩
end
end MM
namespace MM
open PySem PySem.Spec PyProof.Rows L2 GxR
/-! ### steps, one behind the other -/
inductive Led : List Int → List (Nat × Str) → List Int → Prop
  | nil (gs : List Int) : Led gs [] gs
  | cons {gs hs : List Int} {k : Nat} {w : Str} {L : List (Nat × Str)} (h : wordM gs k = some w) (t : Led (stepM gs k w) L hs) : Led gs ((k, w) :: L) hs
theorem Led.app {gs hs is : List Int} {L L' : List (Nat × Str)} (h : Led gs L hs) (h' : Led hs L' is) : Led gs (L ++ L') is := by
  induction h with
  | nil => exact h'
  | cons a _ ih => exact .cons a (ih h')
theorem IsStep.word {gs hs : List Int} {k : Nat} {w : Str} (h : IsStep gs k w hs) : wordM gs k = some w ∧ stepM gs k w = hs := by
  cases h with
  | far A C a b h => exact (IsStep.far A C b a h.symm).back (by decide)
  | three A C a b h => exact (IsStep.three A C b a h.symm).back (by decide)
  | once A C a =>
    constructor
    · unfold wordM
      rw [List.drop_left]
      show (if 1 < ab (a - a) then (some "far" : Option Str) else if ab (a - a) = 0 then some "once" else _) = _
      have : ab (a - a) = 0 := by unfold ab; split <;> omega
      rw [if_neg (by omega), if_pos this]
    · show (if ("once" : Str) = "far" then _ else if ("once" : Str) = "three" then _ else _) = _
      rw [if_neg (by decide), if_neg (by decide), List.cons_append, List.cons_append, getD_mid, List.take_left, drop_mid, List.append_assoc]; rfl
theorem Led.one {gs hs : List Int} {k : Nat} {w : Str} (h : IsStep gs k w hs) : Led gs [(k, w)] hs := by
  obtain ⟨a, b⟩ := h.word
  exact .cons a (by rw [b]; exact .nil _)
def onceN (L : List (Nat × Str)) : Nat := (L.filter fun p => decide (p.2 = ("once" : Str))).length
theorem Led.len {gs hs : List Int} {L : List (Nat × Str)} (h : Led gs L hs) : hs.length + onceN L = gs.length := by
  induction h with
  | nil => rfl
  | @cons gs hs k w L a _ ih =>
    have := (step_of a).len.1
    unfold onceN at ih ⊢
    rw [List.filter_cons]
    by_cases c : w = "once"
    · rw [if_pos c] at this
      rw [if_pos (by simpa using c), List.length_cons]; omega
    · rw [if_neg c] at this
      rw [if_neg (by simpa using c)]; omega
theorem Led.as {m : Nat} {gs hs : List Int} {L : List (Nat × Str)} (h1 : 1 ≤ m) (h9 : m ≤ 9) (h : Led gs L hs) (hb : BookOk m gs) : AsSame m gs hs ∧ BookOk m hs := by
  induction h with
  | nil gs => exact ⟨fun z => Iff.rfl, hb⟩
  | cons a _ ih =>
    have st := step_of a
    obtain ⟨i1, i2⟩ := ih (st.book hb)
    exact ⟨fun z => (st.as h1 h9 hb z).trans (i1 z), i2⟩
/-! ### the book of runs -/
def ru (lows : List Nat) (n : Nat) : List Int := (List.range n).flatMap fun p => runP (lows.getD p 0) p
end MM
namespace MM
open PySem PySem.Spec PyProof.Rows L2 GxR
end MM
namespace MM
open PySem PySem.Spec PyProof.Rows L2 GxR
/-! ### led back -/
theorem onceN_cons (p : Nat × Str) (L : List (Nat × Str)) : onceN (p :: L) = (if p.2 = ("once" : Str) then 1 else 0) + onceN L := by
  unfold onceN
  rw [List.filter_cons]
  by_cases c : p.2 = ("once" : Str)
  · rw [if_pos (by simpa using c), if_pos c, List.length_cons]; omega
  · rw [if_neg (by simpa using c), if_neg c]; omega
theorem Led.back {gs hs : List Int} {L : List (Nat × Str)} (h : Led gs L hs) : onceN L = 0 → Led hs L.reverse gs ∧ ∀ p ∈ L, p.2 = "far" ∨ p.2 = "three" := by
  induction h with
  | nil gs => exact fun _ => ⟨.nil gs, fun _ h => nomatch h⟩
  | @cons gs hs k w L a t ih =>
    intro h0
    rw [onceN_cons] at h0
    have hw : w ≠ "once" := fun e => by
      show False
      have : (if (k, w).2 = ("once" : Str) then 1 else 0) = 1 := if_pos e
      omega
    obtain ⟨i1, i2⟩ := ih (by omega)
    have st := step_of a
    obtain ⟨b1, b2⟩ := st.back hw
    refine ⟨?_, fun p hp => ?_⟩
    · rw [List.reverse_cons]
      refine i1.app (.cons b1 ?_)
      rw [b2]; exact .nil _
    · rcases List.mem_cons.mp hp with rfl | hp
      · generalize stepM gs k w = z at st
        cases st
        · exact .inl rfl
        · exact .inr rfl
        · exact absurd rfl hw
      · exact i2 p hp
end MM
namespace MM
open PySem PySem.Spec PyProof.Rows L2 GxR
/-! ### fewer changes, then first in order -/
def ltL (a b : List Nat) : Prop := a.length < b.length ∨ (a.length = b.length ∧ a < b)
instance (a b : List Nat) : Decidable (ltL a b) := by unfold ltL; infer_instance
theorem lex_trans : ∀ {a b c : List Nat}, a < b → b < c → a < c
  | _, [], _, h, _ => nomatch h
  | _, _ :: _, [], _, h => nomatch h
  | [], _ :: _, _ :: _, _, _ => List.Lex.nil
  | x :: a, y :: b, z :: c, h, h' => by
    rw [List.cons_lt_cons_iff] at h h' ⊢
    rcases h with h | ⟨rfl, h⟩
    · rcases h' with h' | ⟨rfl, _⟩
      · exact .inl (Nat.lt_trans h h')
      · exact .inl h
    · rcases h' with h' | ⟨rfl, h'⟩
      · exact .inl h'
      · exact .inr ⟨rfl, lex_trans h h'⟩
theorem lex_irr : ∀ {a : List Nat}, ¬ a < a
  | [], h => nomatch h
  | x :: a, h => by
    rw [List.cons_lt_cons_iff] at h
    rcases h with h | ⟨_, h⟩
    · exact absurd h (Nat.lt_irrefl _)
    · exact lex_irr h
theorem lex_snoc {i : Nat} : ∀ {a b : List Nat}, a.length = b.length → (a ++ [i] < b ++ [i] ↔ a < b)
  | [], [], _ => ⟨fun h => absurd h lex_irr, fun h => absurd h lex_irr⟩
  | [], _ :: _, h => nomatch h
  | _ :: _, [], h => nomatch h
  | x :: a, y :: b, h => by
    have ih := lex_snoc (i := i) (a := a) (b := b) (by simpa using h)
    rw [List.cons_append, List.cons_append, List.cons_lt_cons_iff, List.cons_lt_cons_iff, ih]
theorem lt_snoc {i : Nat} {a b : List Nat} : ltL (a ++ [i]) (b ++ [i]) ↔ ltL a b := by
  unfold ltL
  rw [List.length_append, List.length_append]
  constructor
  · rintro (h | ⟨e, h⟩)
    · left; simpa using h
    · have e : a.length = b.length := by simpa using e
      exact .inr ⟨e, (lex_snoc e).mp h⟩
  · rintro (h | ⟨e, h⟩)
    · left; simpa using h
    · exact .inr ⟨by simpa using e, (lex_snoc e).mpr h⟩
def Least (S : List Nat → Prop) (L : List Nat) : Prop := S L ∧ ∀ K, S K → ¬ ltL K L
theorem Least.congr {S T : List Nat → Prop} {a : List Nat} (h : Least S a) (e : ∀ K, S K ↔ T K) : Least T a := ⟨(e _).mp h.1, fun K hK => h.2 K ((e K).mpr hK)⟩
theorem Least.snoc {S : List Nat → Prop} {a : List Nat} (h : Least S a) (i : Nat) : Least (fun K => ∃ K', K = K' ++ [i] ∧ S K') (a ++ [i]) :=
  ⟨⟨a, rfl, h.1⟩, fun _ ⟨K', e, hK⟩ z => by subst e; exact h.2 K' hK (lt_snoc.mp z)⟩
abbrev nI (l : List Nat) : List Int := l.map fun (k : Nat) => (k : Int)
theorem nI_lt : ∀ {a b : List Nat}, nI a < nI b ↔ a < b
  | [], [] => ⟨fun h => (nomatch h), fun h => (nomatch h)⟩
  | [], y :: b => ⟨fun _ => List.Lex.nil, fun _ => List.Lex.nil⟩
  | x :: a, [] => ⟨fun h => (nomatch h), fun h => (nomatch h)⟩
  | x :: a, y :: b => by
    have ih := nI_lt (a := a) (b := b)
    show ((x : Int) :: nI a < (y : Int) :: nI b) ↔ _
    rw [List.cons_lt_cons_iff, List.cons_lt_cons_iff, ih]
    constructor
    · rintro (h | ⟨h, h'⟩)
      · left; omega
      · exact .inr ⟨by omega, h'⟩
    · rintro (h | ⟨h, h'⟩)
      · left; omega
      · exact .inr ⟨by omega, h'⟩
/-! ### going on first is least -/
def runW : List Int → List Nat → List Int
  | y, [] => y
  | y, g :: w => runW (swL y g) w
theorem run_pairs {m : Nat} : ∀ {w : List Nat} {y : List Int}, (∀ g ∈ w, g + 1 < m) → IsRow y → y.length = m → pairsN y ≤ pairsN (runW y w) + w.length
  | [], _, _, _, _ => Nat.le_refl _
  | g :: w, y, hw, hr, hl => by
    have hg : g + 1 < y.length := by rw [hl]; exact hw g List.mem_cons_self
    have ih := run_pairs (fun x hx => hw x (List.mem_cons_of_mem _ hx)) (sw_row hg hr) (by rw [sw_len hg]; exact hl) (w := w)
    show pairsN y ≤ pairsN (runW (swL y g) w) + (w.length + 1)
    by_cases c : y.getD g 0 < y.getD (g + 1) 0
    · have := pairs_sw hg c; omega
    · have hne := row_ne hr hg
      have c2 : (swL y g).getD g 0 < (swL y g).getD (g + 1) 0 := by rw [(sw_g hg).1, (sw_g hg).2]; omega
      have := pairs_sw (by rw [sw_len hg]; exact hg) c2
      rw [sw_sw hg] at this
      omega
theorem run_word {m : Nat} : ∀ {w : List Nat} {b : Nat → Nat}, (∀ g ∈ w, g + 1 < m) → runW (ofF m b) w = ofF m fun j => b (Pw w j)
  | [], _, _ => rfl
  | g :: w, b, hw => by
    show runW (swL (ofF m b) g) w = _
    rw [sw_ofF (hw g List.mem_cons_self), run_word fun x hx => hw x (List.mem_cons_of_mem _ hx)]; rfl
end MM
namespace MM
open PySem PySem.Spec PyProof.Rows L2 GxR
/-! ### shortest books, listed and counted -/
abbrev Fall (y : List Int) (g : Nat) : Prop := y.getD (g + 1) 0 < y.getD g 0
/-- the words by which a row is led back into order, first letter first -/
def LW : Nat → List Int → List (List Nat)
  | 0, _ => [[]]
  | k + 1, y => (List.range (y.length - 1)).flatMap fun g => if Fall y g then (LW k (swL y g)).map (g :: ·) else []
/-- those of them whose first letter is less than n -/
def LWto (k : Nat) (y : List Int) (n : Nat) : List (List Nat) := (List.range n).flatMap fun g => if Fall y g then (LW k (swL y g)).map (g :: ·) else []
def nrw (k : Nat) (y : List Int) : Nat := (LW k y).length
def upto (k : Nat) (y : List Int) (n : Nat) : Nat := (LWto k y n).length
theorem LW_succ (k : Nat) (y : List Int) : LW (k + 1) y = LWto k y (y.length - 1) := rfl
theorem LWto_succ (k : Nat) (y : List Int) (n : Nat) : LWto k y (n + 1) = LWto k y n ++ (if Fall y n then (LW k (swL y n)).map (n :: ·) else []) := by
  unfold LWto
  rw [List.range_succ, List.flatMap_append]
  congr 1
  simp
theorem upto_succ (k : Nat) (y : List Int) (n : Nat) : upto k y (n + 1) = upto k y n + if Fall y n then nrw k (swL y n) else 0 := by
  unfold upto
  rw [LWto_succ, List.length_append]
  split
  · rw [List.length_map]; rfl
  · rfl
theorem nrw_succ (k : Nat) (y : List Int) : nrw (k + 1) y = upto k y (y.length - 1) := rfl
theorem mem_LW {m : Nat} : ∀ {k : Nat} {y : List Int} {w : List Nat}, IsRow y → y.length = m → pairsN y = k → (w ∈ LW k y ↔ w.length = k ∧ (∀ g ∈ w, g + 1 < m) ∧ runW y w = row0 m)
  | 0, y, w, hr, hl, hp => by
    have e : y = row0 m := by rw [no_pairs hr hp, hl]
    constructor
    · intro h
      obtain rfl : w = [] := List.mem_singleton.mp h
      exact ⟨rfl, (fun _ z => nomatch z), e⟩
    · rintro ⟨h, _⟩
      rw [List.length_eq_zero_iff.mp h]; exact List.mem_singleton.mpr rfl
  | k + 1, y, w, hr, hl, hp => by
    have step : ∀ g, g + 1 < m → Fall y g → IsRow (swL y g) ∧ (swL y g).length = m ∧ pairsN (swL y g) = k := fun g hg hf =>
      ⟨sw_row (by omega) hr, by rw [sw_len (by omega)]; exact hl, by have := pairs_desc (x := y) (g := g) (by omega) hf; omega⟩
    show w ∈ (List.range (y.length - 1)).flatMap _ ↔ _
    rw [List.mem_flatMap]
    constructor
    · rintro ⟨g, hg, h⟩
      have hg' := List.mem_range.mp hg
      by_cases c : Fall y g
      · rw [if_pos c] at h
        obtain ⟨w', hw, rfl⟩ := List.mem_map.mp h
        obtain ⟨s1, s2, s3⟩ := step g (by omega) c
        obtain ⟨a, b, e⟩ := (mem_LW s1 s2 s3).mp hw
        refine ⟨by rw [List.length_cons, a], fun x hx => ?_, e⟩
        rcases List.mem_cons.mp hx with z | z
        · rw [z]; omega
        · exact b x z
      · rw [if_neg c] at h; exact nomatch h
    · rintro ⟨a, b, e⟩
      cases w with
      | nil => cases a
      | cons g w' =>
        have hg := b g List.mem_cons_self
        have b' : ∀ x ∈ w', x + 1 < m := fun x hx => b x (List.mem_cons_of_mem _ hx)
        have hl' : w'.length = k := by simpa using a
        have c : Fall y g := by
          apply Decidable.byContradiction
          intro c
          have hne := row_ne hr (g := g) (by omega)
          have up : y.getD g 0 < y.getD (g + 1) 0 := by
            have c' : ¬ y.getD (g + 1) 0 < y.getD g 0 := c
            omega
          have p1 := pairs_sw (ns := y) (g := g) (by omega) up
          have p2 := run_pairs (m := m) b' (sw_row (ns := y) (g := g) (by omega) hr) (by rw [sw_len (by omega)]; exact hl)
          rw [show runW (swL y g) w' = row0 m from e, pairs_row00] at p2
          omega
        obtain ⟨s1, s2, s3⟩ := step g hg c
        exact ⟨g, List.mem_range.mpr (by omega), by rw [if_pos c]; exact List.mem_map.mpr ⟨w', (mem_LW s1 s2 s3).mpr ⟨hl', b', e⟩, rfl⟩⟩
/-! #### a row and where each one stands -/
theorem run_inv {m : Nat} {a b : Nat → Nat} (hI : IsInv m a b) {w : List Nat} (hw : ∀ g ∈ w, g + 1 < m) : runW (ofF m b) w = row0 m ↔ ofF m a = ofF m (Pw w) := by
  rw [run_word hw, row0_ofF]
  constructor
  · intro h
    refine ofF_congr fun j hj => ?_
    have h1 := ofF_eq h hj
    have h2 := (hI.symm.ab _ (Pw_lt hw hj)).2
    rw [show b (Pw w j) = j from h1] at h2
    exact h2
  · intro h
    refine ofF_congr fun j hj => ?_
    rw [← ofF_eq h hj]; exact (hI.ab j hj).2
end MM
namespace MM
open PySem PySem.Spec PyProof.Rows L2 GxR
/-! ### a dict that tells of each row with so many turned pairs how many shortest books it has -/
def fK (k : Nat) (x : List Int) : Nat := if pairsN x = k then nrw k x else 0
def sumG (n : Nat) (t : Nat → Nat) : Nat := ((List.range n).map t).sum
theorem sumG_succ (n : Nat) (t : Nat → Nat) : sumG (n + 1) t = sumG n t + t n := by
  unfold sumG
  rw [List.range_succ, List.map_append, List.sum_append]; simp
theorem sumG_congr {t t' : Nat → Nat} : ∀ {n : Nat}, (∀ g, g < n → t g = t' g) → sumG n t = sumG n t'
  | 0, _ => rfl
  | n + 1, h => by rw [sumG_succ, sumG_succ, sumG_congr fun g hg => h g (by omega), h n (by omega)]
theorem sumG_add {t t' : Nat → Nat} {i c : Nat} : ∀ {n : Nat}, i < n → t' i = t i + c → (∀ g, g < n → g ≠ i → t' g = t g) → sumG n t' = sumG n t + c
  | 0, h, _, _ => absurd h (Nat.not_lt_zero _)
  | n + 1, hi, hc, h => by
    rw [sumG_succ, sumG_succ]
    by_cases e : i = n
    · subst e
      rw [hc, sumG_congr (t := t') (t' := t) fun g hg => h g (by omega) (by omega)]; omega
    · rw [sumG_add (by omega) hc fun g hg => h g (by omega), h n (by omega) (by omega)]; omega
theorem upto_sum (k : Nat) (y : List Int) : ∀ n, upto k y n = sumG n fun g => if Fall y g then nrw k (swL y g) else 0
  | 0 => rfl
  | n + 1 => by rw [upto_succ, sumG_succ, upto_sum k y n]
open Classical in
/-- what the rows ahead of place j, and the gaps ahead of i of the row there, have put in -/
noncomputable def fW (keys : List (List Key)) (f : List Int → Nat) (j : Nat) (row : List Int) (i : Nat) (y : List Int) : Nat :=
  sumG (y.length - 1) fun g => if Fall y g ∧ (rk (swL y g) ∈ keys.take j ∨ (swL y g = row ∧ g < i)) then f (swL y g) else 0
theorem fW_congr {keys : List (List Key)} {f : List Int → Nat} {j j' : Nat} {row row' : List Int} {i i' : Nat} {y : List Int} (h : ∀ g, g < y.length - 1 → Fall y g → ((rk (swL y g) ∈ keys.take j ∨ (swL y g = row ∧ g < i)) ↔ (rk (swL y g) ∈ keys.take j' ∨ (swL y g = row' ∧ g < i')))) : fW keys f j row i y = fW keys f j' row' i' y := by
  unfold fW
  refine sumG_congr fun g hg => ?_
  by_cases c : Fall y g
  · have := h g hg c
    by_cases d : rk (swL y g) ∈ keys.take j ∨ (swL y g = row ∧ g < i)
    · rw [if_pos ⟨c, d⟩, if_pos ⟨c, this.mp d⟩]
    · rw [if_neg fun z => d z.2, if_neg fun z => d (this.mpr z.2)]
  · rw [if_neg fun z => c z.1, if_neg fun z => c z.1]
theorem fall_sw {x : List Int} {g : Nat} (h : g + 1 < x.length) : Fall (swL x g) g ↔ x.getD g 0 < x.getD (g + 1) 0 := by
  unfold Fall
  rw [(sw_g h).1, (sw_g h).2]
theorem fW_up {keys : List (List Key)} {f : List Int → Nat} {j i : Nat} {row : List Int} (hn : keys.Nodup) (hk : keys[j]? = some (rk row)) (hi : i + 1 < row.length) (ha : row.getD i 0 < row.getD (i + 1) 0) : fW keys f j row (i + 1) (swL row i) = fW keys f j row i (swL row i) + f row := by
  unfold fW
  have hl := sw_len hi
  have notin : rk row ∉ keys.take j := by
    have h1 := hn.sublist (List.take_sublist (j + 1) _)
    rw [List.take_add_one, hk] at h1
    have h2 := (List.nodup_append.mp h1).2.2
    exact fun z => h2 _ z _ List.mem_cons_self rfl
  refine sumG_add (i := i) (by omega) ?_ fun g hg hne => ?_
  · rw [sw_sw hi, if_pos ⟨(fall_sw hi).mpr ha, .inr ⟨rfl, Nat.lt_succ_self i⟩⟩, if_neg fun z => by
      rcases z.2 with h | h
      · exact notin h
      · exact absurd h.2 (Nat.lt_irrefl _)]
    omega
  · by_cases d : Fall (swL row i) g ∧ (rk (swL (swL row i) g) ∈ keys.take j ∨ (swL (swL row i) g = row ∧ g < i))
    · rw [if_pos d, if_pos ⟨d.1, d.2.imp_right fun h => ⟨h.1, by omega⟩⟩]
    · rw [if_neg d, if_neg fun z => d ⟨z.1, z.2.imp_right fun h => ⟨h.1, by omega⟩⟩]
theorem fW_other {keys : List (List Key)} {f : List Int → Nat} {j i : Nat} {row y : List Int} (hl : y.length = row.length) (hi : i + 1 < row.length) (h : y ≠ swL row i ∨ ¬ row.getD i 0 < row.getD (i + 1) 0) : fW keys f j row (i + 1) y = fW keys f j row i y := by
  refine fW_congr fun g hg hf => ⟨fun z => z.imp_right fun w => ⟨w.1, ?_⟩, fun z => z.imp_right fun w => ⟨w.1, by omega⟩⟩
  by_cases e : g = i
  · subst e
    have e2 : y = swL row g := by rw [← w.1, sw_sw (by omega)]
    rcases h with h | h
    · exact absurd e2 h
    · rw [e2] at hf; exact absurd ((fall_sw hi).mp hf) h
  · omega
theorem fW_next {keys : List (List Key)} {f : List Int → Nat} {j : Nat} {row row' y : List Int} (hk : keys[j]? = some (rk row)) (hl : y.length = row.length) : fW keys f j row (row.length - 1) y = fW keys f (j + 1) row' 0 y := by
  refine fW_congr fun g hg hf => ?_
  rw [List.take_add_one, hk]
  constructor
  · rintro (z | z)
    · exact .inl (List.mem_append_left _ z)
    · exact .inl (List.mem_append_right _ (by rw [z.1]; exact List.mem_cons_self))
  · rintro (z | z)
    · rcases List.mem_append.mp z with w | w
      · exact .inl w
      · exact .inr ⟨rk_inj (List.mem_singleton.mp w), by omega⟩
    · exact absurd z.2 (Nat.not_lt_zero _)
theorem fK_sw {m k g : Nat} {y : List Int} (hr : IsRow y) (hl : y.length = m) (hg : g + 1 < m) (hp : pairsN y = k + 1) : fK k (swL y g) = if Fall y g then nrw k (swL y g) else 0 := by
  unfold fK
  by_cases c : Fall y g
  · have := pairs_desc (x := y) (g := g) (by omega) c
    rw [if_pos c, if_pos (by omega)]
  · have hne := row_ne hr (g := g) (by omega)
    have up : y.getD g 0 < y.getD (g + 1) 0 := by
      have c' : ¬ y.getD (g + 1) 0 < y.getD g 0 := c
      omega
    have := pairs_sw (ns := y) (g := g) (by omega) up
    rw [if_neg c, if_neg (by omega)]
theorem fW_all {m k : Nat} {kvs : List (List Key × V)} {row y : List Int} (hC : CC m (fK k) kvs) (hr : IsRow y) (hl : y.length = m) : fW (kvs.map (·.1)) (fK k) kvs.length row 0 y = fK (k + 1) y := by
  have none0 : ∀ z, IsRow z → z.length = m → rk z ∉ kvs.map (·.1) → fK k z = 0 := fun z hz hzl c => by
    have h1 := hC z hz hzl
    have h2 : valV kvs (rk z) = none := by
      cases h : valV kvs (rk z) with
      | none => rfl
      | some v => exact absurd (valV_mem.mp (by rw [h]; rfl)) c
    rw [h2] at h1
    have : (0 : Int) = ((fK k z : Nat) : Int) := by injection h1
    omega
  have e1 : fW (kvs.map (·.1)) (fK k) kvs.length row 0 y = sumG (y.length - 1) fun g => if Fall y g then fK k (swL y g) else 0 := by
    unfold fW
    refine sumG_congr fun g hg => ?_
    by_cases c : Fall y g
    · rw [if_pos c]
      by_cases d : rk (swL y g) ∈ kvs.map (·.1)
      · rw [if_pos ⟨c, .inl (by rw [List.take_of_length_le (by rw [List.length_map]; exact Nat.le_refl _)]; exact d)⟩]
      · rw [none0 _ (sw_row (by omega) hr) (by rw [sw_len (by omega)]; exact hl) d]
        split <;> rfl
    · rw [if_neg c, if_neg fun z => c z.1]
  rw [e1]
  by_cases p : pairsN y = k + 1
  · rw [show fK (k + 1) y = nrw (k + 1) y from if_pos p, nrw_succ, upto_sum]
    refine sumG_congr fun g hg => ?_
    by_cases c : Fall y g
    · rw [if_pos c, if_pos c, fK_sw hr hl (by omega) p, if_pos c]
    · rw [if_neg c, if_neg c]
  · rw [show fK (k + 1) y = 0 from if_neg p, sumG_congr (t' := fun _ => 0) fun g hg => ?_]
    · generalize y.length - 1 = n
      induction n with
      | zero => rfl
      | succ n ih => rw [sumG_succ, ih]
    · by_cases c : Fall y g
      · have := pairs_desc (x := y) (g := g) (by omega) c
        rw [if_pos c]
        exact if_neg (by omega)
      · exact if_neg c
theorem fK_one {m : Nat} : CC m (fK 0) (putK [] (rk (row0 m)) (.int 1)) := by
  intro x hr hx
  have := CC.one (m := m) x hr hx
  rw [this]
  congr 2
  unfold one0 fK
  by_cases e : x = row0 m
  · rw [if_pos e, e, if_pos (pairs_row00 m)]; rfl
  · rw [if_neg e, if_neg fun z => e (by rw [no_pairs hr z, hx])]
/-- one pair put in: the row one step up gets as many more -/
theorem CC.up {m j i : Nat} {kvs kv2 : List (List Key × V)} {f : List Int → Nat} {row : List Int} (hn : (kvs.map (·.1)).Nodup) (hk : (kvs[j]?).map (·.1) = some (rk row)) (hl : row.length = m) (hi : i + 1 < m) (ha : row.getD i 0 < row.getD (i + 1) 0) (hJ : CC m (fW (kvs.map (·.1)) f j row i) kv2) :
    CC m (fW (kvs.map (·.1)) f j row (i + 1)) (putK kv2 (rk (swL row i)) (.int (((fW (kvs.map (·.1)) f j row i (swL row i) : Nat) : Int) + ((f row : Nat) : Int)))) := by
  have hk' : (kvs.map (·.1))[j]? = some (rk row) := by rw [List.getElem?_map]; exact hk
  intro x hr hx
  rw [valV_put]
  by_cases e : rk x = rk (swL row i)
  · rw [if_pos e, rk_inj e, fW_up hn hk' (by omega) ha]
    show V.int _ = V.int _
    rw [Int.natCast_add]
  · rw [if_neg e, fW_other (by omega) (by omega) (.inl fun z => e (by rw [z]))]
    exact hJ x hr hx
theorem CC.congr {m : Nat} {f f' : List Int → Nat} {kvs : List (List Key × V)} (h : CC m f kvs) (e : ∀ x, IsRow x → x.length = m → f x = f' x) : CC m f' kvs := fun x hr hx => by rw [← e x hr hx]; exact h x hr hx
/-- the keys are rows -/
def RowsE (m : Nat) (kvs : List (List Key × V)) : Prop := ∃ S, RowsK m S kvs
theorem RowsE.put {m : Nat} {kvs : List (List Key × V)} (h : RowsE m kvs) {ns : List Int} (hR : IsRow ns) (hl : ns.length = m) (v : V) : RowsE m (putK kvs (rk ns) v) := let ⟨_, r⟩ := h; ⟨_, r.put hR hl v⟩
theorem RowsE.nil {m : Nat} : RowsE m [] := ⟨fun _ => False, List.nodup_nil, (fun _ h => nomatch h), fun _ => ⟨(fun h => nomatch h), (fun h => h.elim)⟩⟩
theorem CC.nil {m : Nat} {f : List Int → Nat} (h : ∀ x, f x = 0) : CC m f [] := fun x _ _ => by rw [h x]; rfl
end MM
namespace MM
open PySem PySem.Spec PyProof.Rows L2 GxR
/-- a dict of rows of m people, that tells f -/
structure DF (m : Nat) (f : List Int → Nat) (kvs : List (List Key × V)) : Prop where
  rows : RowsE m kvs
  cc : CC m f kvs
theorem DF.nd {m : Nat} {f : List Int → Nat} {kvs : List (List Key × V)} (h : DF m f kvs) : (kvs.map (·.1)).Nodup := let ⟨_, r⟩ := h.rows; r.nd
theorem DF.le {m : Nat} {f : List Int → Nat} {kvs : List (List Key × V)} (h : DF m f kvs) (h6 : m ≤ 6) : kvs.length ≤ 531441 := let ⟨_, r⟩ := h.rows; r.le h6
theorem DF.congr {m : Nat} {f f' : List Int → Nat} {kvs : List (List Key × V)} (h : DF m f kvs) (e : ∀ x, IsRow x → x.length = m → f x = f' x) : DF m f' kvs := ⟨h.rows, h.cc.congr e⟩
theorem DF.nil {m : Nat} {f : List Int → Nat} (h : ∀ x, f x = 0) : DF m f [] := ⟨RowsE.nil, CC.nil h⟩
theorem DF.one {m : Nat} (h1 : 1 ≤ m) (h9 : m ≤ 9) : DF m (fK 0) (putK [] (rk (row0 m)) (.int 1)) := ⟨RowsE.nil.put (row0_row h1 h9) (row0_len m) _, fK_one⟩
theorem DF.at {m : Nat} {f : List Int → Nat} {kvs : List (List Key × V)} (h : DF m f kvs) {j : Nat} {k : List Key} {v : V} (ek : kvs[j]? = some (k, v)) : ∃ ns, k = rk ns ∧ IsRow ns ∧ ns.length = m ∧ v = .int ((f ns : Nat) : Int) ∧ valV kvs (rk ns) = some v := by
  obtain ⟨_, r⟩ := h.rows
  obtain ⟨ns, e, hR, hl⟩ := r.all (k, v) (List.mem_of_getElem? ek)
  have hv := val_of_nodup r.nd ek
  have e' : k = rk ns := e
  subst e'
  have hc := h.cc ns hR hl
  rw [hv] at hc
  exact ⟨ns, rfl, hR, hl, hc, hv⟩
theorem DF.get {m : Nat} {f : List Int → Nat} {kvs : List (List Key × V)} (h : DF m f kvs) {x : List Int} (hR : IsRow x) (hl : x.length = m) : (valV kvs (rk x)).getD (.int 0) = .int ((f x : Nat) : Int) := h.cc x hR hl
theorem DF.there {m : Nat} {f : List Int → Nat} {kvs : List (List Key × V)} (h : DF m f kvs) {x : List Int} (hR : IsRow x) (hl : x.length = m) (hp : 0 < f x) : valV kvs (rk x) = some (.int ((f x : Nat) : Int)) := by
  have hc := h.cc x hR hl
  cases e : valV kvs (rk x) with
  | none =>
    rw [e] at hc
    have : (0 : Int) = ((f x : Nat) : Int) := by injection hc
    omega
  | some v => rw [e] at hc; exact congrArg some hc
theorem DF.up {m j i : Nat} {kvs kv2 : List (List Key × V)} {f : List Int → Nat} {row : List Int} (hn : (kvs.map (·.1)).Nodup) (hk : (kvs[j]?).map (·.1) = some (rk row)) (hR : IsRow row) (hl : row.length = m) (hi : i + 1 < m) (ha : row.getD i 0 < row.getD (i + 1) 0) (hJ : DF m (fW (kvs.map (·.1)) f j row i) kv2) :
    DF m (fW (kvs.map (·.1)) f j row (i + 1)) (putK kv2 (rk (swL row i)) (.int (((fW (kvs.map (·.1)) f j row i (swL row i) : Nat) : Int) + ((f row : Nat) : Int)))) :=
  ⟨hJ.rows.put (sw_row (by omega) hR) (by rw [sw_len (by omega)]; exact hl) _, CC.up hn hk hl hi ha hJ.cc⟩
theorem DF.stay {m j i : Nat} {kvs kv2 : List (List Key × V)} {f : List Int → Nat} {row : List Int} (hl : row.length = m) (hi : i + 1 < m) (ha : ¬ row.getD i 0 < row.getD (i + 1) 0) (hJ : DF m (fW (kvs.map (·.1)) f j row i) kv2) : DF m (fW (kvs.map (·.1)) f j row (i + 1)) kv2 :=
  hJ.congr fun x _ hx => (fW_other (by omega) (by omega) (.inr ha)).symm
theorem DF.next {m j : Nat} {kvs kv2 : List (List Key × V)} {f : List Int → Nat} {row row' : List Int} (hk : (kvs[j]?).map (·.1) = some (rk row)) (hl : row.length = m) (hJ : DF m (fW (kvs.map (·.1)) f j row (row.length - 1)) kv2) : DF m (fW (kvs.map (·.1)) f (j + 1) row' 0) kv2 :=
  hJ.congr fun x _ hx => fW_next (by rw [List.getElem?_map]; exact hk) (by omega)
theorem DF.fin {m k : Nat} {kvs kv2 : List (List Key × V)} {row : List Int} (h : DF m (fK k) kvs) (hJ : DF m (fW (kvs.map (·.1)) (fK k) kvs.length row 0) kv2) : DF m (fK (k + 1)) kv2 := hJ.congr fun x hr hl => fW_all h.cc hr hl
end MM
namespace MM
open PySem PySem.Spec PyProof.Rows L2 GxR
/-! ### counts by changes, row by row -/
/-- counts by changes, the second moved on by one change, added up -/
def oneMore (st ch : List Int) : List Int := (List.range (max st.length (ch.length + 1))).map fun i => st.getD i 0 + ((0 : Int) :: ch).getD i 0
theorem oneMore_len (st ch : List Int) : (oneMore st ch).length = max st.length (ch.length + 1) := by unfold oneMore; rw [List.length_map, List.length_range]
theorem oneMore_get {st ch : List Int} {i : Nat} (h : i < max st.length (ch.length + 1)) : (oneMore st ch)[i]? = some (st.getD i 0 + ((0 : Int) :: ch).getD i 0) := by
  unfold oneMore; rw [List.getElem?_map, List.getElem?_range h]; rfl
theorem oneMore_at (st ch : List Int) (i : Nat) : (oneMore st ch).getD i 0 = st.getD i 0 + ((0 : Int) :: ch).getD i 0 := by
  by_cases h : i < max st.length (ch.length + 1)
  · rw [List.getD_eq_getElem?_getD, oneMore_get h]; rfl
  · rw [List.getD_eq_getElem?_getD, List.getD_eq_getElem?_getD, List.getD_eq_getElem?_getD, List.getElem?_eq_none (by rw [oneMore_len]; omega), List.getElem?_eq_none (by omega), List.getElem?_eq_none (by rw [List.length_cons]; omega)]; rfl
theorem oneMore_ne (st ch : List Int) : oneMore st ch ≠ [] := fun z => by
  have := oneMore_len st ch
  rw [z] at this
  simp only [List.length_nil] at this
  omega
def spN (g : Nat) (ff : List Int → List Int) (x : List Int) : List Int := if ff x = [] ∧ ff (swL x g) = [] then [] else oneMore (ff x) (ff (swL x g))
structure DL (H : Hp) (m : Nat) (ff : List Int → List Int) (kvs : List (List Key × V)) : Prop where
  rows : RowsE m kvs
  out : ∀ x, IsRow x → x.length = m → valV kvs (rk x) = none → ff x = []
  val : ∀ x v, IsRow x → x.length = m → valV kvs (rk x) = some v → ff x ≠ [] ∧ ∃ p, v = .ref p ∧ H p = some (.lst ((ff x).map V.int))
theorem DL.nd {H : Hp} {m : Nat} {ff : List Int → List Int} {kvs : List (List Key × V)} (h : DL H m ff kvs) : (kvs.map (·.1)).Nodup := let ⟨_, r⟩ := h.rows; r.nd
theorem DL.le {H : Hp} {m : Nat} {ff : List Int → List Int} {kvs : List (List Key × V)} (h : DL H m ff kvs) (h6 : m ≤ 6) : kvs.length ≤ 531441 := let ⟨_, r⟩ := h.rows; r.le h6
theorem DL.ex {H H' : Hp} {m : Nat} {ff : List Int → List Int} {kvs : List (List Key × V)} (h : DL H m ff kvs) (e : Ex H H') : DL H' m ff kvs := ⟨h.rows, h.out, fun x v hr hl hv => let ⟨a, p, b, c⟩ := h.val x v hr hl hv; ⟨a, p, b, Ex.lst e c⟩⟩
theorem DL.exD {H H' : Hp} {m : Nat} {D : Addr} {kv0 : List (List Key × V)} {ff : List Int → List Int} {kvs : List (List Key × V)} (h : DL H m ff kvs) (e : ExB (At1 D) H H') (hD : H D = some (.dT kv0)) : DL H' m ff kvs :=
  ⟨h.rows, h.out, fun x v hr hl hv => let ⟨a, p, b, c⟩ := h.val x v hr hl hv; ⟨a, p, b, e.lst c (fun z => by rw [show p = D from z, hD] at c; cases c)⟩⟩
theorem DL.congr {H : Hp} {m : Nat} {ff f2 : List Int → List Int} {kvs : List (List Key × V)} (h : DL H m ff kvs) (e : ∀ x, IsRow x → x.length = m → ff x = f2 x) : DL H m f2 kvs :=
  ⟨h.rows, fun x hr hl hv => by rw [← e x hr hl]; exact h.out x hr hl hv, fun x v hr hl hv => by rw [← e x hr hl]; exact h.val x v hr hl hv⟩
theorem DL.nil {H : Hp} {m : Nat} : DL H m (fun _ => []) [] := ⟨RowsE.nil, fun _ _ _ _ => rfl, fun _ _ _ _ h => nomatch h⟩
theorem DL.at {H : Hp} {m : Nat} {ff : List Int → List Int} {kvs : List (List Key × V)} (h : DL H m ff kvs) {j : Nat} {k : List Key} {v : V} (ek : kvs[j]? = some (k, v)) : ∃ ns p, k = rk ns ∧ IsRow ns ∧ ns.length = m ∧ v = .ref p ∧ H p = some (.lst ((ff ns).map V.int)) ∧ ff ns ≠ [] ∧ valV kvs (rk ns) = some v := by
  obtain ⟨_, r⟩ := h.rows
  obtain ⟨ns, e, hR, hl⟩ := r.all (k, v) (List.mem_of_getElem? ek)
  have hv := val_of_nodup r.nd ek
  have e' : k = rk ns := e
  subst e'
  obtain ⟨a, p, b, c⟩ := h.val ns v hR hl hv
  exact ⟨ns, p, rfl, hR, hl, b, c, a, hv⟩
/-- one row's counts put in -/
theorem DL.put {H : Hp} {m : Nat} {ff : List Int → List Int} {kvs : List (List Key × V)} (h : DL H m ff kvs) {ns : List Int} {p : Addr} {l : List Int} (hR : IsRow ns) (hl : ns.length = m) (hp : H p = some (.lst (l.map V.int))) (hn : l ≠ []) : DL H m (fun x => if x = ns then l else ff x) (putK kvs (rk ns) (.ref p)) := by
  refine ⟨h.rows.put hR hl _, fun x hr hx hv => ?_, fun x v hr hx hv => ?_⟩
  · rw [valV_put] at hv
    by_cases e : rk x = rk ns
    · rw [if_pos e] at hv; exact nomatch hv
    · rw [if_neg e] at hv
      show (if x = ns then l else ff x) = []
      rw [if_neg (fun z => e (by rw [z]))]
      exact h.out x hr hx hv
  · rw [valV_put] at hv
    by_cases e : rk x = rk ns
    · rw [if_pos e] at hv
      have ex := rk_inj e
      cases hv
      show (if x = ns then l else ff x) ≠ [] ∧ ∃ q, V.ref p = .ref q ∧ H q = some (.lst ((if x = ns then l else ff x).map V.int))
      rw [if_pos ex]
      exact ⟨hn, p, rfl, hp⟩
    · rw [if_neg e] at hv
      have := h.val x v hr hx hv
      show (if x = ns then l else ff x) ≠ [] ∧ ∃ q, v = .ref q ∧ H q = some (.lst ((if x = ns then l else ff x).map V.int))
      rw [if_neg (fun z => e (by rw [z]))]
      exact this
open Classical in
/-- what the first j rows have put in -/
noncomputable def gJ (keys : List (List Key)) (ff : List Int → List Int) (g j : Nat) (x : List Int) : List Int := if rk x ∈ keys.take j ∨ rk (swL x g) ∈ keys.take j then spN g ff x else []
theorem gJ_zero (keys : List (List Key)) (ff : List Int → List Int) (g : Nat) (x : List Int) : gJ keys ff g 0 x = [] := by
  unfold gJ
  rw [List.take_zero, if_neg (fun z => z.elim (fun h => nomatch h) (fun h => nomatch h))]
theorem gJ_there {keys : List (List Key)} {ff : List Int → List Int} {g j : Nat} {row : List Int} (hk : keys[j]? = some (rk row)) (hg : g + 1 < row.length) (h : rk (swL row g) ∈ keys.take j) {x : List Int} (hx : x.length = row.length) : gJ keys ff g (j + 1) x = gJ keys ff g j x := by
  unfold gJ
  rw [List.take_add_one, hk]
  by_cases c : rk x ∈ keys.take j ∨ rk (swL x g) ∈ keys.take j
  · rw [if_pos c, if_pos (c.imp (List.mem_append_left _) (List.mem_append_left _))]
  · rw [if_neg c, if_neg fun z => c ?_]
    rcases z with z | z
    · rcases List.mem_append.mp z with w | w
      · exact .inl w
      · have e : x = row := rk_inj (List.mem_singleton.mp w)
        rw [e]; exact .inr h
    · rcases List.mem_append.mp z with w | w
      · exact .inr w
      · have e : swL x g = row := rk_inj (List.mem_singleton.mp w)
        refine .inl ?_
        rw [← e, sw_sw (by omega)] at h
        exact h
theorem gJ_step {keys : List (List Key)} {ff : List Int → List Int} {g j : Nat} {row : List Int} (hk : keys[j]? = some (rk row)) (hg : g + 1 < row.length) {x : List Int} (hx : x.length = row.length) : gJ keys ff g (j + 1) x = if x = swL row g then spN g ff (swL row g) else if x = row then spN g ff row else gJ keys ff g j x := by
  unfold gJ
  rw [List.take_add_one, hk]
  by_cases e1 : x = swL row g
  · rw [if_pos e1, e1, sw_sw hg, if_pos (.inr (List.mem_append_right _ List.mem_cons_self))]
  · rw [if_neg e1]
    by_cases e2 : x = row
    · rw [if_pos e2, e2, if_pos (.inl (List.mem_append_right _ List.mem_cons_self))]
    · rw [if_neg e2]
      by_cases c : rk x ∈ keys.take j ∨ rk (swL x g) ∈ keys.take j
      · rw [if_pos c, if_pos (c.imp (List.mem_append_left _) (List.mem_append_left _))]
      · rw [if_neg c, if_neg fun z => c ?_]
        rcases z with z | z
        · rcases List.mem_append.mp z with w | w
          · exact .inl w
          · exact absurd (rk_inj (List.mem_singleton.mp w)) e2
        · rcases List.mem_append.mp z with w | w
          · exact .inr w
          · exact absurd (by rw [← rk_inj (List.mem_singleton.mp w), sw_sw (by omega)]) e1
theorem gJ_has {keys : List (List Key)} {ff : List Int → List Int} {g j : Nat} {row : List Int} (hn : keys.Nodup) (hk : keys[j]? = some (rk row)) (hg : g + 1 < row.length) : (rk (swL row g) ∈ keys.take j → gJ keys ff g j (swL row g) = spN g ff (swL row g)) ∧ (rk (swL row g) ∉ keys.take j → gJ keys ff g j (swL row g) = []) := by
  have notin : rk row ∉ keys.take j := by
    have h1 := hn.sublist (List.take_sublist (j + 1) _)
    rw [List.take_add_one, hk] at h1
    have h2 := (List.nodup_append.mp h1).2.2
    exact fun z => h2 _ z _ List.mem_cons_self rfl
  unfold gJ
  rw [sw_sw hg]
  exact ⟨fun h => if_pos (.inl h), fun h => if_neg fun z => z.elim h notin⟩
theorem gJ_all {H : Hp} {m g : Nat} {ff : List Int → List Int} {kvs : List (List Key × V)} (h : DL H m ff kvs) (hg : g + 1 < m) {x : List Int} (hr : IsRow x) (hl : x.length = m) : gJ (kvs.map (·.1)) ff g kvs.length x = spN g ff x := by
  unfold gJ
  rw [List.take_of_length_le (by rw [List.length_map]; exact Nat.le_refl _)]
  by_cases c : rk x ∈ kvs.map (·.1) ∨ rk (swL x g) ∈ kvs.map (·.1)
  · rw [if_pos c]
  · rw [if_neg c]
    have no : ∀ y, IsRow y → y.length = m → rk y ∉ kvs.map (·.1) → ff y = [] := fun y hy hyl hn => h.out y hy hyl (by
      cases e : valV kvs (rk y) with
      | none => rfl
      | some v => exact absurd (valV_mem.mp (by rw [e]; rfl)) hn)
    unfold spN
    rw [if_pos ⟨no x hr hl fun z => c (.inl z), no _ (sw_row (by omega) hr) (by rw [sw_len (by omega)]; exact hl) fun z => c (.inr z)⟩]
end MM
namespace MM
open PySem PySem.Spec PyProof.Rows L2 GxR
/-- counts by changes behind the first i meetings -/
def spS (m : Nat) (gs : List Int) : Nat → List Int → List Int
  | 0 => fun x => if x = row0 m then [1] else []
  | i + 1 => spN (gapN gs i) (spS m gs i)
theorem spN_len {g k : Nat} {ff : List Int → List Int} (h : ∀ x, (ff x).length ≤ k) (x : List Int) : (spN g ff x).length ≤ k + 1 := by
  unfold spN
  split
  · exact Nat.zero_le _
  · rw [oneMore_len]
    have := h x; have := h (swL x g); omega
theorem spS_len (m : Nat) (gs : List Int) : ∀ i x, (spS m gs i x).length ≤ i + 1
  | 0, x => by
    show (if x = row0 m then [1] else [] : List Int).length ≤ 1
    split <;> simp
  | i + 1, x => spN_len (spS_len m gs i) x
theorem DL.one {H : Hp} {m : Nat} {gs : List Int} (h1 : 1 ≤ m) (h9 : m ≤ 9) {p : Addr} (hp : H p = some (.lst (([1] : List Int).map V.int))) : DL H m (spS m gs 0) (putK [] (rk (row0 m)) (.ref p)) :=
  (DL.nil.put (row0_row h1 h9) (row0_len m) hp (by simp)).congr fun x _ _ => rfl
/-- those more than none, with their places -/
def chg (l : List Int) (n : Nat) : List (Nat × Int) := ((List.range n).filter fun c => decide (0 < l.getD c 0)).map fun c => (c, l.getD c 0)
theorem chg_succ (l : List Int) (n : Nat) : chg l (n + 1) = chg l n ++ if 0 < l.getD n 0 then [(n, l.getD n 0)] else [] := by
  unfold chg
  rw [List.range_succ, List.filter_append, List.map_append]
  by_cases h : 0 < l.getD n 0
  · rw [if_pos h, List.filter_cons_of_pos (by exact decide_eq_true h)]; rfl
  · rw [if_neg h, List.filter_cons_of_neg (by rw [decide_eq_true_iff]; exact h)]; rfl
theorem chg_len (l : List Int) (n : Nat) : (chg l n).length ≤ n := by
  unfold chg; rw [List.length_map]; exact Nat.le_trans (List.length_filter_le _ _) (by rw [List.length_range]; exact Nat.le_refl _)
end MM
namespace MM
open PySem PySem.Spec PyProof.Rows L2 GxR
/-! ### the goings to a row, in order -/
def goL (rr : List Int) : List Int → List Int → List (List Bool)
  | [], x => if x = rr then [[]] else []
  | g :: gs, x => (goL rr gs x).map (false :: ·) ++ (goL rr gs (swL x g.toNat)).map (true :: ·)
theorem goL_len (rr : List Int) : ∀ (gs x : List Int), (goL rr gs x).length = wN rr gs.reverse x
  | [], x => by
    show (if x = rr then [[]] else [] : List (List Bool)).length = oneR rr x
    unfold oneR
    split <;> rfl
  | g :: gs, x => by
    rw [List.reverse_cons, wN_snoc, ← goL_len rr gs x, ← goL_len rr gs (swL x g.toNat)]
    show (List.map _ _ ++ List.map _ _).length = _
    rw [List.length_append, List.length_map, List.length_map]
theorem goL_stay {rr gs x : List Int} {g : Int} {i : Nat} (h : i < (goL rr gs x).length) : (goL rr (g :: gs) x)[i]? = ((goL rr gs x)[i]?).map (false :: ·) := by
  show (List.map _ _ ++ List.map _ _)[i]? = _
  rw [List.getElem?_append_left (by rw [List.length_map]; exact h), List.getElem?_map]
theorem goL_change {rr gs x : List Int} {g : Int} {i : Nat} (h : (goL rr gs x).length ≤ i) : (goL rr (g :: gs) x)[i]? = ((goL rr gs (swL x g.toNat))[i - (goL rr gs x).length]?).map (true :: ·) := by
  show (List.map _ _ ++ List.map _ _)[i]? = _
  rw [List.getElem?_append_right (by rw [List.length_map]; exact h), List.getElem?_map, List.length_map]
theorem goL_one {rr x : List Int} {i : Nat} (h : i < (goL rr [] x).length) : (goL rr [] x)[i]? = some [] := by
  show (if x = rr then [[]] else [] : List (List Bool))[i]? = _
  have h' : i < (if x = rr then [[]] else [] : List (List Bool)).length := h
  split at h'
  · rename_i e
    rw [if_pos e]
    have : i = 0 := by simpa using h'
    rw [this]; rfl
  · exact absurd h' (by simp)
end MM
namespace MM
open PySem PySem.Spec PyProof.Rows L2 GxR
/-! ### the goings by changes -/
/-- how many of the goings from y through gs to rr change c times -/
def cg (rr gs y : List Int) (c : Nat) : Nat := ((goL rr gs y).filter fun w => w.count true == c).length
theorem cg_nil (rr y : List Int) (c : Nat) : cg rr [] y c = if y = rr ∧ c = 0 then 1 else 0 := by
  show ((if y = rr then [[]] else [] : List (List Bool)).filter fun w => w.count true == c).length = _
  by_cases h : y = rr
  · rw [if_pos h]
    by_cases hc : c = 0
    · rw [if_pos ⟨h, hc⟩, hc]; rfl
    · rw [if_neg (fun z => hc z.2), List.filter_cons_of_neg (by simpa using fun z => hc z.symm)]; rfl
  · rw [if_neg h, if_neg (fun z => h z.1)]; rfl
theorem cg_cons (rr gs y : List Int) (g : Int) (c : Nat) : cg rr (g :: gs) y c = cg rr gs y c + if c = 0 then 0 else cg rr gs (swL y g.toNat) (c - 1) := by
  show ((List.map (false :: ·) (goL rr gs y) ++ List.map (true :: ·) (goL rr gs (swL y g.toNat))).filter fun w => w.count true == c).length = _
  rw [List.filter_append, List.length_append, List.filter_map, List.filter_map, List.length_map, List.length_map]
  unfold cg
  have e1 : ((fun w : List Bool => w.count true == c) ∘ fun x => false :: x) = fun w => w.count true == c := by
    funext w; simp [Function.comp]
  rw [e1]
  congr 1
  by_cases hc : c = 0
  · rw [if_pos hc, List.length_eq_zero_iff, List.filter_eq_nil_iff]
    intro w _
    simp [Function.comp, hc]
  · rw [if_neg hc]
    congr 2
    funext w
    simp only [Function.comp, List.count_cons_self]
    rw [Bool.eq_iff_iff, beq_iff_eq, beq_iff_eq]
    omega
theorem cg_snoc {m : Nat} {g : Int} : ∀ {gs rr y : List Int} {c : Nat}, BookOk m gs → 0 ≤ g ∧ g + 2 ≤ m → rr.length = m → y.length = m → cg rr (gs ++ [g]) y c = cg rr gs y c + if c = 0 then 0 else cg (swL rr g.toNat) gs y (c - 1)
  | [], rr, y, c, _, hg, hr, hy => by
    show cg rr (g :: []) y c = _
    rw [cg_cons]
    congr 1
    split
    · rfl
    · rw [cg_nil, cg_nil]
      have : swL y g.toNat = rr ↔ y = swL rr g.toNat := ⟨fun h => by rw [← h, sw_sw (by omega)], fun h => by rw [h, sw_sw (by omega)]⟩
      by_cases p : swL y g.toNat = rr ∧ c - 1 = 0
      · rw [if_pos p, if_pos ⟨this.mp p.1, p.2⟩]
      · rw [if_neg p, if_neg fun z => p ⟨this.mpr z.1, z.2⟩]
  | b :: gs, rr, y, c, hb, hg, hr, hy => by
    have hb' : BookOk m gs := fun z hz => hb z (List.mem_cons_of_mem _ hz)
    have hbb := hb b List.mem_cons_self
    have hys : (swL y b.toNat).length = m := by rw [sw_len (by omega)]; exact hy
    have eA := cg_snoc (c := c) hb' hg hr hy
    have eB := cg_snoc (c := c - 1) hb' hg hr hys
    have eC := cg_cons rr gs y b c
    have eD := cg_cons (swL rr g.toNat) gs y b (c - 1)
    have eE := cg_cons rr (gs ++ [g]) y b c
    show cg rr (b :: (gs ++ [g])) y c = _
    rw [eE, eA, eC]
    by_cases hc : c = 0
    · simp only [if_pos hc]
    · simp only [if_neg hc]
      rw [eB, eD]
      by_cases hc1 : c - 1 = 0
      · simp only [if_pos hc1]; omega
      · simp only [if_neg hc1]; omega
theorem cons_getD (l : List Int) (c : Nat) : ((0 : Int) :: l).getD c 0 = if c = 0 then 0 else l.getD (c - 1) 0 := by
  cases c with
  | zero => rfl
  | succ c => rw [if_neg (by omega)]; rfl
theorem spS_cg {m : Nat} {gs : List Int} (hB : BookOk m gs) : ∀ i, i ≤ gs.length → ∀ {x : List Int} (c : Nat), x.length = m → (spS m gs i x).getD c 0 = ((cg x (gs.take i) (row0 m) c : Nat) : Int)
  | 0, _, x, c, hx => by
    rw [List.take_zero, cg_nil]
    show (if x = row0 m then [1] else [] : List Int).getD c 0 = _
    by_cases h : x = row0 m
    · rw [if_pos h]
      cases c with
      | zero => rw [if_pos ⟨h.symm, rfl⟩]; rfl
      | succ c => rw [if_neg (fun z => by omega)]; rfl
    · rw [if_neg h, if_neg (fun z => h z.1.symm)]; rfl
  | i + 1, hi, x, c, hx => by
    have hil : i < gs.length := hi
    obtain ⟨gp, eg, hg⟩ := book_at hB hil
    have egp : gapN gs i = gp := by unfold gapN; rw [eg, Int.toNat_natCast]
    have et : gs.take (i + 1) = gs.take i ++ [gs.getD i 0] := by rw [List.take_add_one, getD_some hil]; rfl
    have hb' : BookOk m (gs.take i) := fun z hz => hB z (List.mem_of_mem_take hz)
    have hsl : (swL x gp).length = m := by rw [sw_len (by omega)]; exact hx
    have ih1 := spS_cg hB i (by omega) (x := x) c hx
    have ih2 := fun c' => spS_cg hB i (by omega) (x := swL x gp) c' hsl
    rw [et, cg_snoc hb' (by rw [eg]; omega) hx (row0_len m), eg, Int.toNat_natCast]
    show (spN (gapN gs i) (spS m gs i) x).getD c 0 = _
    rw [egp]
    unfold spN
    by_cases h : spS m gs i x = [] ∧ spS m gs i (swL x gp) = []
    · rw [if_pos h]
      have a1 := ih1
      rw [h.1] at a1
      have a2 := ih2 (c - 1)
      rw [h.2] at a2
      have z1 : ([] : List Int).getD c 0 = 0 := rfl
      have z2 : ([] : List Int).getD (c - 1) 0 = 0 := rfl
      rw [z1] at a1 ⊢
      rw [z2] at a2
      split <;> omega
    · rw [if_neg h, oneMore_at, cons_getD, ih1]
      by_cases hc : c = 0
      · rw [if_pos hc, if_pos hc]; simp
      · rw [if_neg hc, if_neg hc, ih2, Int.natCast_add]
end MM
namespace MM
open PySem PySem.Spec PyProof.Rows L2 GxR
/-! ### the meetings that all goings, that none change at -/
def stayN (m : Nat) (gs ns : List Int) (k : Nat) : Nat := wN (row0 m) (gs.take k ++ gs.drop (k + 1)) ns
def chgN (m : Nat) (gs ns : List Int) (k : Nat) : Nat := cntS (fun y => wN (row0 m) (gs.take k) (swL y (gapN gs k))) (gs.drop (k + 1)) ns
theorem book_take {m : Nat} {gs : List Int} (h : BookOk m gs) (k : Nat) : BookOk m (gs.take k) := fun x hx => h x (List.mem_of_mem_take hx)
theorem book_drop {m : Nat} {gs : List Int} (h : BookOk m gs) (k : Nat) : BookOk m (gs.drop k) := fun x hx => h x (List.mem_of_mem_drop hx)
theorem stay_iff {m : Nat} {gs ns : List Int} {k : Nat} (h1 : 1 ≤ m) (h9 : m ≤ 9) (hb : BookOk m gs) (hl : ns.length = m) : 0 < stayN m gs ns k ↔ ∃ y, IsRow y ∧ y.length = m ∧ 0 < wN (row0 m) (gs.take k) y ∧ 0 < wN ns (gs.drop (k + 1)).reverse y :=
  stay_pos (book_drop hb _) hl (book_take hb _) (row0_row h1 h9)
theorem chg_iff {m : Nat} {gs ns : List Int} {k : Nat} (h1 : 1 ≤ m) (h9 : m ≤ 9) (hb : BookOk m gs) (hl : ns.length = m) (hg : gapN gs k + 1 < m) : 0 < chgN m gs ns k ↔ ∃ y, IsRow y ∧ y.length = m ∧ 0 < wN (row0 m) (gs.take k) y ∧ 0 < wN ns (gs.drop (k + 1)).reverse (swL y (gapN gs k)) :=
  chg_pos (book_drop hb _) hl (book_take hb _) (row0_row h1 h9) hg
def selN (p : Nat → Bool) (i : Nat) : List Int := ((List.range i).filter p).map fun (k : Nat) => (k : Int)
theorem selN_succ (p : Nat → Bool) (i : Nat) : selN p (i + 1) = if p i = true then selN p i ++ [(i : Int)] else selN p i := by
  unfold selN
  rw [List.range_succ, List.filter_append]
  by_cases h : p i = true
  · rw [if_pos h, List.filter_cons_of_pos h, List.filter_nil, List.map_append]; rfl
  · rw [if_neg h, List.filter_cons_of_neg h, List.filter_nil, List.append_nil]
theorem selN_len (p : Nat → Bool) (i : Nat) : (selN p i).length ≤ i := by
  unfold selN
  rw [List.length_map]
  exact Nat.le_trans (List.length_filter_le _ _) (by rw [List.length_range]; exact Nat.le_refl _)
theorem selN_mem {p : Nat → Bool} {i k : Nat} : (k : Int) ∈ selN p i ↔ k < i ∧ p k = true := by
  unfold selN
  rw [List.mem_map]
  constructor
  · rintro ⟨j, hj, e⟩
    obtain ⟨h1, h2⟩ := List.mem_filter.mp hj
    have : j = k := by omega
    exact ⟨by rw [← this]; exact List.mem_range.mp h1, by rw [← this]; exact h2⟩
  · exact fun ⟨h1, h2⟩ => ⟨k, List.mem_filter.mpr ⟨List.mem_range.mpr h1, h2⟩, rfl⟩
end MM
namespace MM
open PySem PySem.Spec PyProof.Rows L2 GxR
/-! ### how many go on, told from the other end -/
theorem goL_snoc {m : Nat} {g : Int} : ∀ {gs rr y : List Int}, BookOk m gs → 0 ≤ g ∧ g + 2 ≤ m → rr.length = m → y.length = m → (goL rr (gs ++ [g]) y).length = (goL rr gs y).length + (goL (swL rr g.toNat) gs y).length
  | [], rr, y, _, hg, hr, hy => by
    show ((if y = rr then [[]] else [] : List (List Bool)).map _ ++ (if swL y g.toNat = rr then [[]] else [] : List (List Bool)).map _).length = (if y = rr then [[]] else [] : List (List Bool)).length + (if y = swL rr g.toNat then [[]] else [] : List (List Bool)).length
    rw [List.length_append, List.length_map, List.length_map]
    have : swL y g.toNat = rr ↔ y = swL rr g.toNat := ⟨fun h => by rw [← h, sw_sw (by omega)], fun h => by rw [h, sw_sw (by omega)]⟩
    by_cases p : swL y g.toNat = rr
    · rw [if_pos p, if_pos (this.mp p)]
    · rw [if_neg p, if_neg fun z => p (this.mpr z)]
  | b :: gs, rr, y, hb, hg, hr, hy => by
    have hb' : BookOk m gs := fun z hz => hb z (List.mem_cons_of_mem _ hz)
    have hbb := hb b List.mem_cons_self
    have eA := goL_snoc hb' hg hr hy
    have eB := goL_snoc hb' hg hr (y := swL y b.toNat) (by rw [sw_len (by omega)]; exact hy)
    show (List.map _ (goL rr (gs ++ [g]) y) ++ List.map _ (goL rr (gs ++ [g]) (swL y b.toNat))).length = (List.map _ (goL rr gs y) ++ List.map _ (goL rr gs (swL y b.toNat))).length + (List.map _ (goL (swL rr g.toNat) gs y) ++ List.map _ (goL (swL rr g.toNat) gs (swL y b.toNat))).length
    simp only [List.length_append, List.length_map]
    omega
theorem goL_wN0 {m : Nat} {gs : List Int} (hB : BookOk m gs) : ∀ i, i ≤ gs.length → ∀ {x : List Int}, x.length = m → (goL x (gs.take i) (row0 m)).length = wN (row0 m) (gs.take i) x
  | 0, _, x, hx => by
    rw [List.take_zero]
    show (if row0 m = x then [[]] else [] : List (List Bool)).length = oneR (row0 m) x
    unfold oneR
    by_cases h : x = row0 m
    · rw [if_pos h, if_pos h.symm]; rfl
    · rw [if_neg h, if_neg fun z => h z.symm]; rfl
  | i + 1, hi, x, hx => by
    have hil : i < gs.length := hi
    obtain ⟨gp, eg, hg⟩ := book_at hB hil
    have et : gs.take (i + 1) = gs.take i ++ [gs.getD i 0] := by rw [List.take_add_one, getD_some hil]; rfl
    have hb' : BookOk m (gs.take i) := fun z hz => hB z (List.mem_of_mem_take hz)
    rw [et, goL_snoc hb' (by rw [eg]; omega) hx (row0_len m), wN_snoc, goL_wN0 hB i (by omega) hx, goL_wN0 hB i (by omega) (by rw [eg, Int.toNat_natCast, sw_len (by omega)]; exact hx)]
theorem goL_wN {m : Nat} {gs x : List Int} (hB : BookOk m gs) (hx : x.length = m) : (goL x gs (row0 m)).length = wN (row0 m) gs x := by
  have := goL_wN0 hB gs.length (Nat.le_refl _) hx
  rw [List.take_length] at this; exact this
/-- those that stay at k -/
theorem goL_stays (rr : List Int) : ∀ (gs : List Int) (k : Nat) (y : List Int), k < gs.length → ((goL rr gs y).filter fun w => !w.getD k false).length = (goL rr (gs.take k ++ gs.drop (k + 1)) y).length
  | [], k, y, h => nomatch h
  | g :: gs, 0, y, h => by
    show (List.filter _ (List.map _ (goL rr gs y) ++ List.map _ (goL rr gs (swL y g.toNat)))).length = (goL rr gs y).length
    rw [List.filter_append, List.length_append, List.filter_map, List.filter_map, List.length_map, List.length_map]
    have e1 : (goL rr gs y).filter ((fun w : List Bool => !w.getD 0 false) ∘ fun x => false :: x) = goL rr gs y := List.filter_eq_self.mpr fun w _ => rfl
    have e2 : (goL rr gs (swL y g.toNat)).filter ((fun w : List Bool => !w.getD 0 false) ∘ fun x => true :: x) = [] := List.filter_eq_nil_iff.mpr fun w _ => by simp [Function.comp]
    rw [e1, e2]; rfl
  | g :: gs, k + 1, y, h => by
    have hk : k < gs.length := by simpa using h
    have a := goL_stays rr gs k y hk
    have b := goL_stays rr gs k (swL y g.toNat) hk
    show (List.filter _ (List.map _ (goL rr gs y) ++ List.map _ (goL rr gs (swL y g.toNat)))).length = (List.map _ (goL rr (gs.take k ++ gs.drop (k + 1)) y) ++ List.map _ (goL rr (gs.take k ++ gs.drop (k + 1)) (swL y g.toNat))).length
    rw [List.filter_append, List.length_append, List.filter_map, List.filter_map, List.length_map, List.length_map, List.length_append, List.length_map, List.length_map, ← a, ← b]
    rfl
theorem stay_goL {m : Nat} {gs x : List Int} (hB : BookOk m gs) (hx : x.length = m) {k : Nat} (hk : k < gs.length) : stayN m gs x k = ((goL x gs (row0 m)).filter fun w => !w.getD k false).length := by
  rw [goL_stays x gs k (row0 m) hk]
  unfold stayN
  rw [goL_wN (fun z hz => ?_) hx]
  rcases List.mem_append.mp hz with h | h
  · exact hB z (List.mem_of_mem_take h)
  · exact hB z (List.mem_of_mem_drop h)
theorem goL_width (rr : List Int) : ∀ (gs y : List Int), ∀ w ∈ goL rr gs y, w.length = gs.length
  | [], y, w, h => by
    have h' : w ∈ (if y = rr then [[]] else [] : List (List Bool)) := h
    split at h'
    · rw [List.mem_singleton.mp h']; rfl
    · exact nomatch h'
  | g :: gs, y, w, h => by
    rcases List.mem_append.mp h with h | h
    · obtain ⟨q, hq, rfl⟩ := List.mem_map.mp h
      show q.length + 1 = gs.length + 1
      rw [goL_width rr gs y q hq]
    · obtain ⟨q, hq, rfl⟩ := List.mem_map.mp h
      show q.length + 1 = gs.length + 1
      rw [goL_width rr gs _ q hq]
end MM
namespace MM
open PySem PySem.Spec PyProof.Rows L2 GxR
/-! ### sorted(xs) of any data that can be held against one another -/
/-- bs: each item with what it reads as -/
def rSortD (K : PySem.W.Frag) : List V → Hp → VK → Prop := fun vs H Q => ∃ (a : Addr) (bs : List (V × PyData)), vs = [.ref a] ∧ SqL K H a (bs.map (·.1)) ∧ (∀ b ∈ bs, Dp K H b.1 b.2) ∧ PySem.W.AllAlike (bs.map (·.2)) ∧ PySem.W.Sortable (bs.map (·.2)) ∧ (∀ b ∈ bs, b.2.depth ≤ 60) ∧
  ∀ p, H p = none → Q (.ref p) (upd H p (.lst ((bs.mergeSort (PySem.W.dataLe false (·.2))).map (·.1))))
section
variable {X : Cx} {K : PySem.W.Frag}
theorem each_of {R : Value → V × PyData → Prop} : ∀ {bs : List (V × PyData)} {us : List Value}, Vals (bs.map (·.1)) us → (∀ b ∈ bs, ∀ u, RelV b.1 u → R u b) → PySem.W.EachIs R us bs
  | [], _, h, _ => by cases h; exact .nil
  | b :: bs, _, h, k => by
    cases h with
    | cons r t => exact .cons (k b List.mem_cons_self _ r) (each_of t fun c hc => k c (List.mem_cons_of_mem _ hc))
theorem vals_of_each : ∀ {bs : List (V × PyData)} {us : List Value}, PySem.W.EachIs (fun u (b : V × PyData) => RelV b.1 u) us bs → Vals (bs.map (·.1)) us
  | [], _, h => by cases h; exact .nil
  | b :: bs, _, h => by
    cases h with
    | cons r t => exact .cons r (vals_of_each t)
theorem cr_sortedD (hu : X.A.units + 64 < cLine) : CallR X (.builtin "sorted") (rSortD X.K) := by
  intro pins s σ H vs us Q I r q
  obtain ⟨a, bs, rfl, hs, hd, hal, hk, hdp, q⟩ := q
  obtain ⟨its, rv, hl, hz⟩ := I.list hs
  rw [Vals.ref1 r]
  have lb : bs.length ≤ sizeLine := by rw [List.length_map] at hz; exact hz
  refine PySem.W.sorted_data (enc := fun b : V × PyData => b.2) hl.isList (each_of rv fun b _ u h => h) (each_of rv fun b hb u h => Dp.reads I b.2 b.1 u (hd b hb) h) hal hk lb (fun b hb => by have := hdp b hb; omega) fun out hlen ho => ?_
  obtain ⟨ep, he⟩ := PyProof.Rows.sortedAll_at s.heap its out.toArray
  refine ⟨.ref _, upd H (s.heap.objs.size + 1) (.lst ((bs.mergeSort (PySem.W.dataLe false (·.2))).map (·.1))), I.laid (t' := s.toks) (fun _ _ => PyProof.Rows.sortedAll_old) (Nat.le_succ _) ⟨?_, out, ep, vals_of_each ho, he⟩, rfl, q _ (I.hok.fresh (Nat.le_succ _))⟩
  rw [List.length_map, List.length_mergeSort]
  exact lb
theorem k_sortD (hK : X.K = K) (hu : X.A.units + 64 < cLine) : CallR X (.builtin "sorted") (rSortD K) := hK ▸ cr_sortedD hu
end
end MM
namespace MM
open PySem PySem.Spec PyProof.Rows L2 GxR
/-! ### sorted(xs) of any data, one alone too (the empty tuple) -/
theorem sortsAt_one {prog : Program} {w : World} {A : Around} {s : Shared} {u : Value} {d : PyData} {as : List Addr} (r : Reads s.heap u d as) (ha : PySem.W.alike d d = true) (hn : d ≠ .none) (hu : A.units + d.depth < cLine) : PySem.W.SortsAt prog w A s (PySem.W.dataKind s.heap [d]) [u] := by
  have hal : PySem.W.AllAlike [d] := fun x hx y hy => by rw [List.mem_singleton.mp hx, List.mem_singleton.mp hy]; exact ha
  refine ⟨fun v hv => ?_, general', ?_, fun h2 => absurd h2 (by simp)⟩
  · rw [List.mem_singleton.mp hv]
    exact ⟨_, PySem.W.dataKind_some hal List.mem_cons_self r⟩
  · intro E x y a b Q hka hkb hq
    obtain ⟨d1, a1, m1, r1, rfl⟩ := PySem.W.dataKind_inv hka
    obtain ⟨d2, a2, m2, r2, rfl⟩ := PySem.W.dataKind_inv hkb
    obtain rfl := List.mem_singleton.mp m1
    obtain rfl := List.mem_singleton.mp m2
    show wpAny _ _ (oneLt' false x y) _ _ _
    exact PySem.W.oneLt_alike (fun h => nomatch h) r1 r2 ha hn (by rw [Nat.min_self]; exact hu) hq
def rSort1 (K : PySem.W.Frag) : List V → Hp → VK → Prop := fun vs H Q => ∃ (a : Addr) (v : V) (d : PyData), vs = [.ref a] ∧ SqL K H a [v] ∧ Dp K H v d ∧ PySem.W.alike d d = true ∧ d ≠ .none ∧ d.depth ≤ 60 ∧ ∀ p, H p = none → Q (.ref p) (upd H p (.lst [v]))
def rSortD1 (K : PySem.W.Frag) : List V → Hp → VK → Prop := fun vs H Q => rSortD K vs H Q ∨ rSort1 K vs H Q
section
variable {X : Cx} {K : PySem.W.Frag}
theorem cr_sort1 (hu : X.A.units + 64 < cLine) : CallR X (.builtin "sorted") (rSort1 X.K) := by
  intro pins s σ H vs us Q I r q
  obtain ⟨a, v, d, rfl, hs, hd, ha, hn, hdp, q⟩ := q
  obtain ⟨its, rv, hl, hz⟩ := I.list hs
  rw [Vals.ref1 r]
  cases rv with
  | @cons _ u _ _ rx t =>
    cases t
    obtain ⟨as, rd⟩ := Dp.reads I d v u hd rx
    have sl : sizeLine = 16777216 := by decide
    refine PySem.W.sorted_vals (κ := PySem.W.dataKind (PySem.W.sortingHeap (PySem.W.copyHeap s.heap [u]) (s.heap.objs.size + 1) [u]) [d]) hl.isList (sortsAt_one (s := { s with heap := PySem.W.sortingHeap (PySem.W.copyHeap s.heap [u]) (s.heap.objs.size + 1) [u] }) (PyProof.Rows.Reads.keeps (fun _ _ => PySem.W.sorting_copy_old) rd) ha hn (by show X.A.in1.in1.units + _ < _; simp only [Around.in1]; omega)) (by rw [sl]; simp) ?_
    have e : PySem.W.sortVals (PySem.W.dataKind (PySem.W.sortingHeap (PySem.W.copyHeap s.heap [u]) (s.heap.objs.size + 1) [u]) [d]) false [u] [u] = [u] := by
      unfold PySem.W.sortVals; simp
    rw [e]
    obtain ⟨ep, he⟩ := PyProof.Rows.sortedAll_at s.heap [u] [u].toArray
    refine ⟨.ref _, upd H (s.heap.objs.size + 1) (.lst [v]), I.laid (t' := s.toks) (fun _ _ => PyProof.Rows.sortedAll_old) (Nat.le_succ _) ⟨by rw [sl]; simp, [u], ep, .cons rx .nil, he⟩, rfl, q _ (I.hok.fresh (Nat.le_succ _))⟩
theorem k_sortD1 (hK : X.K = K) (hu : X.A.units + 64 < cLine) : CallR X (.builtin "sorted") (rSortD1 K) := by
  subst hK
  intro pins s σ H vs us Q I r q
  exact q.elim (k_sortD rfl hu pins s σ H vs us Q I r) (cr_sort1 hu pins s σ H vs us Q I r)
end
end MM
namespace MM
open PySem PySem.Calls PySem.Spec PyProof.Rows L2 GxR
/-! ### dicts whose keys are rows known to have no dict of their own: looked up, walked, sorted -/
abbrev KXs := List (List Key × Addr × V)
def KeysF (H : Hp) (xs : KXs) : Prop := ∀ p ∈ xs, FTup H p.2.1 (p.1.map kV)
theorem KeysF.ex {B : Addr → Prop} {H H' : Hp} {xs : KXs} (h : KeysF H xs) (e : ExB B H H') : KeysF H' xs := fun p hp => (h p hp).ex e
theorem KeysF.nil {H : Hp} : KeysF H [] := fun _ z => nomatch z
theorem KeysF.put {H : Hp} {xs : KXs} (h : KeysF H xs) {k : List Key} {b : Addr} (hb : FTup H b (k.map kV)) (v : V) : KeysF H (putX xs k b v) := fun p hp => by
  rcases mem_putX hp with ⟨p', hp', a1, a2⟩ | ⟨a1, a2⟩
  · rw [a1, a2]; exact h p' hp'
  · rw [a1, a2]; exact hb
/-- it is such a dict, nothing of it known besides -/
def DFo (P : Program) (w : World) (H : Hp) (d : Addr) (xs : KXs) : Prop := H d = some (.ext (DTp P w d xs)) ∧ KeysF H xs
/-- .. read alone -/
def DFr (P : Program) (w : World) (H : Hp) (d : Addr) (xs : KXs) : Prop := Rd H d (.ext (DTp P w d xs)) ∧ KeysF H xs
theorem DFo.rd {P : Program} {w : World} {H : Hp} {d : Addr} {xs : KXs} (h : DFo P w H d xs) : DFr P w H d xs := ⟨.inl h.1, h.2⟩
theorem DFo.ex {P : Program} {w : World} {B : Addr → Prop} {H H' : Hp} {d : Addr} {xs : KXs} (h : DFo P w H d xs) (e : ExB B H H') (n : ¬ B d) : DFo P w H' d xs := ⟨e.keep _ _ h.1 (fun _ z => nomatch z) n, h.2.ex e⟩
section
variable {X : Cx} {pins : List (Addr × Obj)} {σ : L2.St} {H : Hp} {s : Shared} {d b : Addr} {xs : KXs} {k : List Key} {v : V} {u r : Value} {A : Around} {E : Value → Shared → Prop}
theorem df_full (I : Inv X pins σ H s) (D : DFr X.prog X.w H d xs) : xs.length ≤ sizeLine ∧ (d == sysModules) = false ∧ ∃ ys, KTn xs ys ∧ s.heap.DictOfH (tupleKind (mixKind X.prog X.w)) d ys := by
  obtain ⟨e2, e3⟩ := D
  obtain ⟨⟨z, y, ys, rel, o, es, ep, h1, h2, h3, h4, h5⟩, _, _⟩ := (show ObjOk X.prog X.w H s.heap d (.ext (DTp X.prog X.w d xs)) from e2.ok I.hok)
  refine ⟨z, y, ys, rel, o, es, ep, h1, h2, h3, h4, fun x hx => ?_, h5⟩
  have all : ∀ {l : KXs} {m : List (List Key × Addr × Value)}, KTn l m → KeysF H l → ∀ x ∈ m, (tupleKind (mixKind X.prog X.w)).is s.heap x.1 x.2.1 := by
    intro l m q
    induction q with
    | nil => intro _ x hx; exact nomatch hx
    | @cons p q ps qs hq t ih =>
      intro hl x hx
      rcases List.mem_cons.mp hx with e | hx
      · subst e
        exact key_ofS I (by rw [← hq.1, ← hq.2.1]; exact (hl p List.mem_cons_self).sqt)
      · exact ih (fun p hp => hl p (List.mem_cons_of_mem _ hp)) x hx
  exact all rel e3 x hx
end
def tDNotInF (K : PySem.W.Frag) (P : Program) (w : World) (ty td : TE) : TE := fun σ H Q => ty σ H fun y H1 => td σ H1 fun x H2 => ∃ d xs b k, x = .ref d ∧ y = .ref b ∧ DFr P w H2 d xs ∧ SqT K H2 b (k.map kV) ∧ Q (.bl (!(valV (kvX xs) k).isSome)) H2
def tDGetFx (K : PySem.W.Frag) (P : Program) (w : World) (td ty : TE) : TE := fun σ H Q => td σ H fun x H1 => ty σ H1 fun y H2 => ∃ d xs b k v, x = .ref d ∧ y = .ref b ∧ DFr P w H2 d xs ∧ SqT K H2 b (k.map kV) ∧ valV (kvX xs) k = some v ∧ Q v H2
def tDGet2F (K : PySem.W.Frag) (P : Program) (w : World) (td ty tx : TE) : TE := fun σ H Q => td σ H fun x H1 => ∃ a xs, x = .ref a ∧ DFr P w H1 a xs ∧ ty σ H1 fun y H2 => tx σ H2 fun z H3 => ∃ b k, y = .ref b ∧ DFr P w H3 a xs ∧ SqT K H3 b (k.map kV) ∧ Q ((valV (kvX xs) k).getD z) H3
def sDPutF (P : Program) (w : World) (td ty tv : TE) : TS := fun D σ H => tv σ H fun v H1 => td σ H1 fun x H2 => ty σ H2 fun y H3 => ∃ d xs b k, x = .ref d ∧ y = .ref b ∧ DFo P w H3 d xs ∧ FTup H3 b (k.map kV) ∧ (kvX xs).length < sizeLine ∧
  ∀ H4, ExB (fun a => a = d) H3 H4 → DFo P w H4 d (putX xs k b v) → D.nx σ H4
def tDNewF (P : Program) (w : World) : TE := fun _ H Q => ∀ p H', H p = none → Ex H H' → DFo P w H' p [] → Q (.ref p) H'
def tDisp1F (P : Program) (w : World) (tk tv : TE) : TE := fun σ H Q => ∀ p H0, H p = none → Ex H H0 → DFo P w H0 p [] → tk σ H0 fun x H1 => tv σ H1 fun y H2 => DFo P w H2 p [] ∧ ∃ (b : Addr) (k : List Key), x = .ref b ∧ FTup H2 b (k.map kV) ∧
  ∀ H3, ExB (fun a => a = p) H2 H3 → DFo P w H3 p (putX [] k b y) → Q (.ref p) H3
section
variable {X : Cx} {K : PySem.W.Frag} {P : Program} {w : World} {o i value : Expr} {pos pos' : Pos} {td ty tv : TE}
theorem pc_dnotinF (hK : X.K = K) (hP : X.prog = P) (hw : X.w = w) (hu : X.A.units + 1 < cLine) (hi : PE X i ty) (ho : PE X o td) : PC X .NotIn i o (tDNotInF K P w ty td) := by
  subst hK hP hw
  refine ⟨fun pins s σ H Q I h => ?_⟩
  refine thn (hi.run pins s σ H _ I h) fun iv s1 ⟨y, H1, I1, ry, q1⟩ => thn (ho.run pins s1 σ H1 _ I1 q1) fun u s2 ⟨x, H2, I2, rx, d, xs, b, k, ex, ey, D, hk, q2⟩ => ?_
  subst ex ey
  obtain rfl : u = Value.ref d := rx
  obtain rfl : iv = Value.ref b := ry
  obtain ⟨hz, hd, ys, rel, dd⟩ := df_full I2 D
  refine wpAny_notIn_heap (tupleKind_room_in1 hu) (key_ofS I2 hk) hd dd ?_
  have q := (rel.val k).isSome_eq
  rw [Option.isSome_map] at q
  rw [← q]
  exact ⟨.bl _, H2, I2.tok _, rfl, q2⟩
theorem pe_dgetFx (hK : X.K = K) (hP : X.prog = P) (hw : X.w = w) (hu : X.A.units + 1 < cLine) (ho : PE X o td) (hi : PE X i ty) (hs : NoSl i) : PE X (.Subscript o i pos) (tDGetFx K P w td ty) := by
  subst hK hP hw
  refine ⟨fun pins s σ H Q I h => ?_⟩
  refine subD_of PySem.F.slot_dict_getitem.lookup hs (thn (ho.run pins s σ H _ I h) fun u s1 ⟨x, H1, I1, rx, q1⟩ => thn (hi.run pins s1 σ H1 _ I1 q1) fun iv s2 ⟨y, H2, I2, ry, d, xs, b, k, v, ex, ey, D, hk, hv, q2⟩ => ?_)
  subst ex ey
  obtain rfl : u = Value.ref d := rx
  obtain rfl : iv = Value.ref b := ry
  obtain ⟨hz, hd, ys, rel, dd⟩ := df_full I2 D
  refine ⟨dd.typeIs, ?_⟩
  obtain ⟨w', hw, rw'⟩ := RelO.some_of (v := v) (o := (atKey ys k).map (·.2)) (by rw [← hv]; exact rel.val k)
  obtain ⟨p, hp, hp2⟩ := Option.map_eq_some_iff.mp hw
  refine wpAny_getItem_heap (tupleKind_room_in1 hu) (key_ofS I2 hk) dd hp ?_
  rw [hp2]
  exact ⟨v, H2, I2.tok _, rw', q2⟩
theorem pe_dget2F {e f : Expr} {apos cpos : Pos} {tx : TE} (hK : X.K = K) (hP : X.prog = P) (hw : X.w = w) (hu : X.A.units + 1 < cLine) (ho : PE X o td) (he : PE X e ty) (hf : PE X f tx) (m : M2 X o "get" apos e f cpos) : PE X (.Call (.Attribute o "get" apos) [e, f] [] cpos) (tDGet2F K P w td ty tx) := by
  subst hK hP hw
  refine ⟨fun pins s σ H Q I h => ?_⟩
  refine wpAny_Call_method m.base m.few m.line PySem.F.plainAttrs_dict PySem.F.slot_dict_get PySem.F.type_dict_get (thn (ho.run pins s σ H _ I h) fun u s1 ⟨x, H1, I1, rx, a, xs, ex, D1, q1⟩ => ?_)
  subst ex
  obtain rfl : u = Value.ref a := rx
  obtain ⟨_, _, ys1, _, dd1⟩ := df_full I1 D1
  refine ⟨dd1.typeIs, fun b q => by cases q; obtain ⟨ob, _, _, h1, h2, _⟩ := dd1; exact ⟨ob, h1, h2.2.1⟩, ?_⟩
  rw [m.trees]
  refine Calls.callWith_builtin rfl (Calls.evalArgs_plain (Calls.spliced_cons (thn (he.run pins s1 σ H1 _ I1 q1) fun iv s2 ⟨y, H2, I2, ry, q2⟩ =>
    Calls.spliced_cons (thn (hf.run pins s2 σ H2 _ I2 q2) fun fv s3 ⟨z, H3, I3, rz, b, k, ey, D3, hk, q3⟩ => Calls.spliced_nil ?_))))
  subst ey
  obtain rfl : iv = Value.ref b := ry
  obtain ⟨_, hd, ys, rel, dd⟩ := df_full I3 D3
  exact call_meetsIn PySem.F.slot_dict_get dd.typeIs PySem.F.entry_dict_get (PySem.F.args_dict_get_3 _ _ _) (meetsH_dict_get_default (tupleKind (mixKind X.prog X.w)) a b hd fv) ⟨tupleKind_room_in1 hu, k, ys, key_ofS I3 hk, dd, ⟨_, H3, I3.tok _, (rel.val k).getD rz, q3⟩⟩
theorem putX_len (xs : KXs) (k : List Key) (b : Addr) (v : V) : (putX xs k b v).length = (putK (kvX xs) k v).length := by
  rw [← kvX_put]; unfold kvX; rw [List.length_map]
theorem kvX_len (xs : KXs) : (kvX xs).length = xs.length := by unfold kvX; rw [List.length_map]
theorem ps_dputF (hP : X.prog = P) (hw : X.w = w) (hu : X.A.units + 1 < cLine) (ho : PE X o td) (hi : PE X i ty) (hv : PE X value tv) (hs : swapsWith value (some (.Subscript o i pos')) pos.line X.env = pure false) :
    PS X (.Assign [.Subscript o i pos'] value pos) (sDPutF P w td ty tv) := by
  subst hP hw
  refine ⟨fun pins s σ H D I h => ?_⟩
  refine wpAny_Assign_Subscript (thn (hv.run pins s σ H _ I h) fun r s1 ⟨v, H1, I1, rv, q1⟩ => thn (ho.run pins s1 σ H1 _ I1 q1) fun u s2 ⟨x, H2, I2, rx, q2⟩ => thn (hi.run pins s2 σ H2 _ I2 q2) fun iv s3 ⟨y, H3, I3, ry, d, xs, b, k, ex, ey, D1, hk, hl, q3⟩ => ?_) hs
  subst ex ey
  obtain rfl : u = Value.ref d := rx
  obtain rfl : iv = Value.ref b := ry
  obtain ⟨hz, hd, ys, rel, dd⟩ := df_full I3 D1.rd
  have hz2 : ys.length ≤ sizeLine := by rw [← Paired.length rel]; exact hz
  refine wpAny_setItem_heap (hsz := hz2) (tupleKind_room_in1 hu) (key_ofS I3 hk.sqt) dd fun h' dd' hs => ?_
  obtain ⟨q, es, ep, hq, h2, h3, h4, _, h5⟩ := dd'
  have hpl : (putX xs k b v).length ≤ sizeLine := by
    have h2 := length_putK (kvX xs) k v
    rw [putX_len]
    omega
  have new : DTp X.prog X.w d (putX xs k b v) h' := ⟨hpl, hd, _, rel.put k rv, q, es, ep, hq, h2, h3, h4, h5⟩
  have x := ex_setX (o := .ext (DTp X.prog X.w d (putX xs k b v))) D1.1
  exact ⟨σ, _, d_write (t' := s3.toks + (tupleKind (mixKind X.prog X.w)).draws k) I3 (by rw [D1.1]; exact True.intro) hs ⟨q, hq⟩ (dtp_ok new), q3 _ x ⟨upd_same, (D1.2.ex x).put (hk.ex x) v⟩⟩
theorem pe_dnewF (hP : X.prog = P) (hw : X.w = w) : PE X (.Dict [] [] pos) (tDNewF P w) := by
  subst hP hw
  refine ⟨fun pins s σ H Q I h => ?_⟩
  have hf := I.hok.fresh (Nat.le_refl _)
  have new : DTp X.prog X.w s.heap.objs.size [] (s.heap.push { cls := .type "dict", data := .dict #[] }) := ⟨Nat.zero_le _, beq_eq_false_iff_ne.mpr (Ne.symm (Nat.ne_of_lt I.big)), [], .nil, _, #[], 0, Heap.get?_push_size _ rfl, ⟨rfl, rfl, rfl⟩, rfl, rfl, List.nodup_nil⟩
  exact wpAny_Dict_empty ⟨.ref s.heap.objs.size, _, I.laid (a := s.heap.objs.size) (o := .ext (DTp X.prog X.w s.heap.objs.size [])) (t' := s.toks) (fun _ _ q => Heap.get?_push_of_some _ q) (Nat.le_refl _) (dtp_ok new), rfl, h _ _ hf (ex_new hf) ⟨upd_same, KeysF.nil⟩⟩
theorem pe_disp1F {k v : Expr} {tk tv : TE} (hP : X.prog = P) (hw : X.w = w) (hu : X.A.units + 1 < cLine) (hk : PE X k tk) (hv : PE X v tv) : PE X (.Dict [some k] [v] pos) (tDisp1F P w tk tv) := by
  subst hP hw
  refine ⟨fun pins s σ H Q I q => ?_⟩
  have hn := I.hok.fresh (Nat.le_refl s.heap.objs.size)
  have new : DTp X.prog X.w s.heap.objs.size [] (s.heap.push { cls := .type "dict", data := .dict #[] }) := ⟨Nat.zero_le _, beq_eq_false_iff_ne.mpr (Ne.symm (Nat.ne_of_lt I.big)), [], .nil, _, #[], 0, Heap.get?_push_size _ rfl, ⟨rfl, rfl, rfl⟩, rfl, rfl, List.nodup_nil⟩
  have I1 := I.laid (a := s.heap.objs.size) (o := .ext (DTp X.prog X.w s.heap.objs.size [])) (h' := s.heap.push { cls := .type "dict", data := .dict #[] }) (t' := s.toks) (fun _ _ q => Heap.get?_push_of_some _ q) (Nat.le_refl _) (dtp_ok new)
  refine wpAny_Dict_any (by rfl) (by rfl) (by simp) (by show 1 ≤ 15; omega) (pairTrees_cons_walk (thn (hk.run pins _ σ _ _ I1 (q _ _ hn (ex_new hn) ⟨upd_same, KeysF.nil⟩)) fun u s1 ⟨x, H1, I1', rx, q1⟩ => thn (hv.run pins s1 σ H1 _ I1' q1) fun w2 s2 ⟨y, H2, I2, ry, D2, b, kk, ex, eb, q2⟩ => pairTrees_nil_walk ?_))
  subst ex
  cases (show u = Value.ref b from rx)
  obtain ⟨hz, hd, ys, rel, dd⟩ := df_full I2 D2.rd
  cases rel
  show wpAny _ _ (storeAll _ [(Value.ref b, w2)]) _ _ _
  unfold storeAll
  rw [List.forIn_cons]
  refine wpAny_bind (wpAny_bind (wpAny_dictSet_heap (hsz := Nat.zero_le _) (show (tupleKind (mixKind X.prog X.w)).room X.A from (show X.A.units < cLine by omega)) (key_ofS (X := X) I2 (eb.sqt (K := X.K))) dd fun h' dd' hs => wpAny_pure ?_))
  show wpAny _ _ (forIn [] PUnit.unit _) _ _ _
  rw [List.forIn_nil]
  obtain ⟨o, es, ep, hq, h2, h3, h4, _, h5⟩ := dd'
  have new2 : DTp X.prog X.w s.heap.objs.size (putX [] kk b y) h' := ⟨by rw [putX_len]; have := length_putK (kvX []) kk y; rw [kvX_len, List.length_nil] at this; rw [sizeLine_eq]; omega, hd, _, (show KTn [] [] from .nil).put kk ry, o, es, ep, hq, h2, h3, h4, h5⟩
  have x := ex_setX (o := .ext (DTp X.prog X.w s.heap.objs.size (putX [] kk b y))) D2.1
  exact wpAny_pure ⟨.ref s.heap.objs.size, _, d_write I2 (by rw [D2.1]; exact True.intro) hs ⟨o, hq⟩ (dtp_ok new2), rfl, q2 _ x ⟨upd_same, (D2.2.ex x).put (eb.ex x) y⟩⟩
end
/-! #### walked -/
section
variable {X : Cx} {pins : List (Addr × Obj)} {σ : L2.St} {H : Hp} {s : Shared} {d : Addr} {o : Obj}
theorem frzF {xs : KXs} (I : Inv X pins σ H s) (h : H d = some (.frz o (.ext (DTp X.prog X.w d xs)))) :
    (d == sysModules) = false ∧ s.heap.get? d = some o ∧ o.ExactDict ∧ ∃ (es : Array DictEntry) (ep : Nat), o.data = .dict es ep ∧ es.size = xs.length ∧
      ∀ (i : Nat) (k : List Key) (b : Addr) (v : V), xs[i]? = some (k, b, v) → ∃ en : DictEntry, es[i]? = some en ∧ en.key = .ref b := by
  obtain ⟨hd, ⟨z, hs, ys, pr, o', es, ep, ho, hx, hdt, he, _⟩, _⟩ := (show ObjOk X.prog X.w H s.heap d (.frz o (.ext (DTp X.prog X.w d xs))) from I.hok d _ h)
  rw [hd] at ho
  cases ho
  refine ⟨hs, hd, hx, es, ep, hdt, ?_, fun i k b v e => ?_⟩
  · have l1 : es.size = ys.length := size_of_entries he
    have l2 : xs.length = ys.length := Paired.length pr
    omega
  · obtain ⟨b', hb, e1, e2, _⟩ := paired_get pr e
    have q := entry_at he i
    rw [hb] at q
    exact ⟨_, q, by rw [show b = b'.2.1 from e2]; rfl⟩
end
def ItF (P : Program) (w : World) (d : Addr) (o : Obj) (xs : KXs) : It :=
  ⟨fun i H => H d = some (.frz o (.ext (DTp P w d xs))) ∧ i < xs.length, fun i H x H' => H' = H ∧ ∃ (k : List Key) (b : Addr) (v : V), xs[i]? = some (k, b, v) ∧ x = .ref b, fun i H => H d = some (.frz o (.ext (DTp P w d xs))) ∧ xs.length ≤ i⟩
theorem turn_keysF {P : Program} {w : World} {K : PySem.W.Frag} {tg : Expr} {d : Addr} {o : Obj} {es : Array DictEntry} {ep : Nat} {xs : KXs} (it : Addr) (hod : o.data = .dict es ep) : Turn P w K tg (ItF P w d o xs) [it] it (fun i h => h.IsKeyIter it d i xs.length ep) where
  mem := by simp
  obj := fun i h st b hb => by
    have e : b = it := by simpa using hb
    subst e
    obtain ⟨oi, e, c, dd⟩ := st
    exact ⟨oi, e, fun v z => by rw [dd] at z; cases z⟩
  keep := fun i h h' st k => st.at fun oi e => k it (by simp) oi e
  item := by
    intro X hP hw hK hc i pins s σ H E I hf st hg
    subst hP hw hK
    obtain ⟨hd, hi⟩ := hg
    obtain ⟨f0, f1, f2, f3, f4, f5⟩ := hf it (by simp)
    obtain ⟨hs, hgd, hx, es', ep', hdt, hsz, ent⟩ := frzF I hd
    obtain ⟨rfl, rfl⟩ := dict_ep hod hdt
    obtain ⟨⟨k, b, v⟩, hkv⟩ : ∃ p, xs[i]? = some p := ⟨xs[i], List.getElem?_eq_getElem hi⟩
    obtain ⟨en, hen, hkey⟩ := ent i k b v hkv
    refine next_key_item st hgd hdt hsz hen fun h' st' sb => ?_
    have I1 : Inv X pins σ H { s with heap := h' } := I.turned (t' := s.toks) (fun b ob hb e => (sb.2 b hb).trans e) f0 f1 f3 f4 f5
    obtain ⟨oi, e, c, dd⟩ := id st'
    exact ⟨en.key, rfl, go_of (s := { s with heap := h' }) e c dd (by decide) ⟨.ref b, H, I1, hkey, ⟨rfl, k, b, v, hkv, rfl⟩, st', fun b hb => (hf b hb).1⟩⟩
  done := by
    intro X hP hw hK hc i pins s σ H E I hf st hg
    subst hP hw hK
    obtain ⟨hd, hi⟩ := hg
    obtain ⟨f0, f1, f2, f3, f4, f5⟩ := hf it (by simp)
    obtain ⟨hs, hgd, hx, es', ep', hdt, hsz, ent⟩ := frzF I hd
    obtain ⟨rfl, rfl⟩ := dict_ep hod hdt
    exact next_key_end (I.ok.hd hc) st hgd hdt hsz hi fun h' eb => ⟨rfl, I.turned (t' := s.toks) (fun b ob hb e => eb b ob hb e) f0 f1 f3 f4 f5⟩
  self := fun A i s Q E st h => by
    refine wpAny_pyIter_slot st.typeIs F.slot_dict_keyiterator_iter (wpAny_call_entry F.slot_dict_keyiterator_iter st.typeIs F.entry_dict_keyiterator_iter ?_ (F.args_dict_keyiterator_iter_1 _))
    show wpAny _ _ (ret (.ref it)) _ _ s
    exact wpAny_pure ⟨_, rfl, "dict_keyiterator", _, st.typeIs, F.slot_dict_keyiterator_next.lookup, h⟩
def iKeysF (P : Program) (w : World) (td : TE) : TI := fun σ H R => td σ H fun x H1 => ∃ d o xs, x = .ref d ∧ H1 d = some (.frz o (.ext (DTp P w d xs))) ∧ R (ItF P w d o xs) H1
theorem pi_keysF {X : Cx} {P : Program} {w : World} {tg e : Expr} {td : TE} (hP : X.prog = P) (hw : X.w = w) (he : PE X e td) : PI X tg e (iKeysF P w td) := by
  subst hP hw
  refine ⟨fun pins s σ H R I h => ?_⟩
  refine thn (he.run pins s σ H _ I h) fun u s1 ⟨x, H1, I1, rx, d, o, xs, ex, hd, q⟩ => ?_
  subst ex
  obtain rfl : u = Value.ref d := rx
  obtain ⟨hs, hgd, hx, es, ep, hdt, hsz, ent⟩ := frzF I1 hd
  refine iter_keys hs hgd hx hdt (pi_one (tk := s1.toks) I1 _ (turn_keysF _ hdt) ⟨_, Heap.get?_push_size _ rfl, rfl, ?_⟩ q)
  rw [hsz] <;> rfl
theorem walk_keysF {P : Program} {w : World} {d : Addr} {o : Obj} {xs : KXs} : Walk (ItF P w d o xs) xs.length (fun H => H d = some (.frz o (.ext (DTp P w d xs))))
    (fun i H x H' => H' = H ∧ ∃ (k : List Key) (b : Addr) (v : V), xs[i]? = some (k, b, v) ∧ x = .ref b) :=
  ⟨fun _ _ hi q => ⟨q, hi⟩, fun _ q => ⟨q, Nat.le_refl _⟩, fun _ _ _ _ _ _ y => y⟩
end MM
namespace MM
open PySem PySem.Spec PyProof.Rows L2 GxR
/-! ### {k: v for target in iter}: the keys are tuples known to have no dict -/
section
variable {Y : Cx} {ps : List (Addr × Obj)} {τ : L2.St} {G : Hp} {t : Shared} {E : Value → Shared → Prop}
theorem d_storeF {D b : Addr} {ent : KXs} {kk : List Key} {y : V} {r : Value} {Q : Unit → Shared → Prop} (hu : Y.A.units + 1 < cLine) (J : Inv Y ps τ G t) (eD : DFo Y.prog Y.w G D ent) (eb : FTup G b (kk.map kV)) (hz : ent.length < sizeLine)
    (rr : RelV y r) (q : ∀ G' t', Inv Y ps τ G' t' → ExB (fun a => a = D) G G' → DFo Y.prog Y.w G' D (putX ent kk b y) → Q () t') : wpAny (model Y.prog Y.w) Y.A (dictSet D (.ref b) r) Q E t := by
  obtain ⟨z0, nS, old, both, isD⟩ := df_full J eD.rd
  refine wpAny_dictSet_heap (hsz := (Paired.length both) ▸ z0) (show (tupleKind (mixKind Y.prog Y.w)).room Y.A from (show Y.A.units < cLine by omega)) (key_ofS J eb.sqt) isD fun hp new sb => ?_
  obtain ⟨ob, e1, e2, got, c1, c2, c3, _, c4⟩ := new
  have more : (putX ent kk b y).length ≤ sizeLine := by rw [putX_len]; have := length_putK (kvX ent) kk y; rw [kvX_len] at this; omega
  have x := ex_setX (o := .ext (DTp Y.prog Y.w D (putX ent kk b y))) eD.1
  exact q _ _ (d_write J (by rw [eD.1]; trivial) sb ⟨ob, got⟩ (dtp_ok ⟨more, nS, _, both.put kk rr, ob, e1, e2, got, c1, c2, c3, c4⟩)) x ⟨upd_same, (eD.2.ex x).put (eb.ex x) y⟩
end
/-- what the block of such a comprehension is asked -/
def tDcF (P : Program) (w : World) (wi : TI) (g : TG) (tt : TT) (tk tv : TE) (own : List Nat) : TE := fun σ H Q => wi σ H fun J Ha => ∀ D Hz, Ha D = none → Ex Ha Hz → DFo P w Hz D [] → ∃ Go : Nat → Nat → Hp → Prop, (∃ m, Go 0 m Hz) ∧
  ∀ i m Hb, Go i m Hb → (J.stop i Hb ∧ Q (.ref D) Hb) ∨ (J.go i Hb ∧ ∃ Af : Hp → Prop, (∀ Hc, Af Hc → ∃ m', m' < m ∧ Go (i + 1) m' Hc) ∧ ∀ x Hc, J.yld i Hb x Hc → g x (wipe σ own) Hc fun τ Hd => wipe τ own = wipe σ own ∧ tt τ Hd fun c He =>
    if c = true then tk τ He fun a Hf => tv τ Hf fun b Hg => ∃ (ent : KXs) (kk : List Key) (q : Addr), a = .ref q ∧ FTup Hg q (kk.map kV) ∧ DFo P w Hg D ent ∧ ent.length < sizeLine ∧ ∀ Hx, ExB (fun z => z = D) Hg Hx → DFo P w Hx D (putX ent kk q b) → Af Hx else Af He)
/-- over what is walked: Pv by the turn and the heap, the new dict at D within -/
theorem dcF_it {J : It} {n : Nat} {G : Hp → Prop} {Y : Nat → Hp → V → Hp → Prop} (w : Walk J n G Y) {g : TG} {tt : TT} {tk tv : TE} {own : List Nat} {σ : L2.St} {P : Program} {w0 : World} {Ha : Hp} {D : Addr} {Qd : Hp → Prop} (Pv : Nat → Hp → Prop) (h0 : Pv 0 Ha) (hG : ∀ i H, i ≤ n → Pv i H → G H)
    (hs : ∀ i x Hb Hc, i < n → Pv i Hb → Y i Hb x Hc → g x (wipe σ own) Hc fun τ Hd => wipe τ own = wipe σ own ∧ tt τ Hd fun c He => if c = true then tk τ He fun a Hf => tv τ Hf fun b Hg =>
      ∃ (ent : KXs) (kk : List Key) (q : Addr), a = .ref q ∧ FTup Hg q (kk.map kV) ∧ DFo P w0 Hg D ent ∧ ent.length < sizeLine ∧ ∀ Hx, ExB (fun z => z = D) Hg Hx → DFo P w0 Hx D (putX ent kk q b) → Pv (i + 1) Hx else Pv (i + 1) He) (hd : ∀ H, Pv n H → Qd H) :
    ∃ Go : Nat → Nat → Hp → Prop, (∃ m, Go 0 m Ha) ∧ ∀ i m Hb, Go i m Hb → (J.stop i Hb ∧ Qd Hb) ∨ (J.go i Hb ∧ ∃ Af : Hp → Prop, (∀ Hc, Af Hc → ∃ m', m' < m ∧ Go (i + 1) m' Hc) ∧ ∀ x Hc, J.yld i Hb x Hc → g x (wipe σ own) Hc fun τ Hd => wipe τ own = wipe σ own ∧ tt τ Hd fun c He =>
      if c = true then tk τ He fun a Hf => tv τ Hf fun b Hg => ∃ (ent : KXs) (kk : List Key) (q : Addr), a = .ref q ∧ FTup Hg q (kk.map kV) ∧ DFo P w0 Hg D ent ∧ ent.length < sizeLine ∧ ∀ Hx, ExB (fun z => z = D) Hg Hx → DFo P w0 Hx D (putX ent kk q b) → Af Hx else Af He) := by
  refine ⟨fun i m H => m + i = n ∧ Pv i H, ⟨n, rfl, h0⟩, fun i m Hb ⟨hm, p⟩ => ?_⟩
  rcases Nat.lt_or_ge i n with lt | ge
  · exact .inr ⟨w.goes i Hb lt (hG i Hb (by omega) p), Pv (i + 1), fun Hc p' => ⟨m - 1, by omega, by omega, p'⟩, fun x Hc y => hs i x Hb Hc lt p (w.yields i Hb x Hc lt (hG i Hb (by omega) p) y)⟩
  · obtain rfl : i = n := by omega
    exact .inl ⟨w.stops Hb (hG i Hb (by omega) p), hd Hb p⟩
end MM
namespace MM
open PySem PySem.Spec PyProof.Rows L2 GxR
/-! ### name = {k: v for target in iter} on one line, keys of no dict -/
theorem dcF_core {X : Cx} {pins : List (Addr × Obj)} {s : Shared} {σ : L2.St} {H : Hp} {Q : VK} {kx vx tg iter : Expr} {ifs : List Expr} {scope : Scope} {own : List (Str × Nat)} {pos pos' : Pos} {wi : TI} {g : TG} {tt : TT} {tk tv : TE} {use : Option (Value → Sem Unit)} {Qf : Value → Shared → Prop} (hu : X.A.units + 1 < cLine) (hc : X.calm = true) (hN : X.N.Nodup) (I0 : Inv X pins σ H s) (hi : PI X tg iter wi) (ok : BlkOk X.N X.env.scope scope own)
    (hg : ∀ s H C cl fp, PG (X.blk s H scope (compEnvC scope cl C X.env) fp) tg g) (ht : ∀ s H C cl fp, PTs (X.blk s H scope (compEnvC scope cl C X.env) fp) ifs tt)
    (hk : ∀ s H C cl fp, PE (X.blk s H scope (compEnvC scope cl C X.env) fp) kx tk) (hv : ∀ s H C cl fp, PE (X.blk s H scope (compEnvC scope cl C X.env) fp) vx tv)
    (hs : ∀ x, foldedSetIterable iter X.env x = pure x) (asked : tDcF X.prog X.w wi g tt tk tv (own.map (·.2)) σ H Q)
    (hRR : ∀ D C s' m H', Inv X pins σ H' s' → Q (.ref D) H' → s'.heap.Ns C m → FpOk X pins H' C → compPost (model X.prog X.w) X.A X.xe use Qf (.ref D) C (.ok .next) s') :
    wpAny (model X.prog X.w) X.A (comprehension (.DictComp kx vx [⟨tg, iter, ifs, 0⟩] scope pos) scope X.env pos' newDict false (eval iter X.env) use) Qf X.xe s := by
  have freeOk : ∀ y ∈ scope.names, y.2 = .free → ∃ c, X.env.cells.lookup y.1 = some c := fun y hy e => I0.ok.has _ ((ok.free y hy e).imp id id)
  apply wpAny_comprehension_free (use := use) rfl hs (closure_ok freeOk) ok.kind (fun y hy e => by rw [ok.uniq y hy, e])
  refine thn (hi.run pins s σ H _ I0 asked) fun src sA iterd => thn iterd fun itv sB got => ?_
  obtain ⟨it, fp, tn, J, Ha, rfl, IB, T, stB, foot, ask⟩ := got
  refine wpAny_newObj_type ?_
  refine newEnv_comp ?_
  -- the new dict
  obtain ⟨D, hD⟩ : ∃ D, sB.heap.objs.size = D := ⟨_, rfl⟩
  rw [hD]
  obtain ⟨Go, ⟨first, go0⟩, turns⟩ := ask D _ (IB.hok.fresh (Nat.le_of_eq hD)) (ex_new (IB.hok.fresh (Nat.le_of_eq hD))) ⟨upd_same, KeysF.nil⟩
  obtain ⟨sC, hsC⟩ : ∃ sC : Shared, sC = { sB with heap := sB.heap.push { cls := .type "dict", data := .dict #[] } } := ⟨_, rfl⟩
  have heapC : sC.heap = sB.heap.push { cls := .type "dict", data := .dict #[] } := by rw [hsC]
  have IC : Inv X pins σ (upd Ha D (.ext (DTp X.prog X.w D []))) sC := by
    rw [hsC, ← hD]
    exact IB.laid (t' := sB.toks) (fun b o e => Heap.get?_push_of_some _ e) (Nat.le_refl _) (dtp_ok ⟨Nat.zero_le _, beq_eq_false_iff_ne.mpr (Ne.symm (Nat.ne_of_lt IB.big)), [], .nil, _, #[], 0, Heap.get?_push_size _ rfl, ⟨rfl, rfl, rfl⟩, rfl, rfl, List.nodup_nil⟩)
  have inC : ∀ b o, sB.heap.get? b = some o → sC.heap.get? b = some o := fun b o e => by rw [heapC]; exact Heap.get?_push_of_some _ e
  have footC : ∀ b ∈ fp, FpOk X pins (upd Ha D (.ext (DTp X.prog X.w D []))) b ∧ b < sC.heap.objs.size := by
    intro b hb
    obtain ⟨o, eo, _⟩ := T.obj _ _ stB b hb
    have lt : b < sB.heap.objs.size := Heap.lt_size eo
    refine ⟨⟨(upd_ne (show b ≠ D from fun z => Nat.lt_irrefl _ (by rw [← z] at hD; exact hD ▸ lt))).trans (foot b hb).1, (foot b hb).2⟩, ?_⟩
    rw [heapC, Heap.size_push]
    exact Nat.lt_succ_of_lt lt
  have stC : tn 0 sC.heap := T.keep _ _ _ stB fun b _ o => inC b o
  -- its block
  have started := block_start IC ok hN footC
  obtain ⟨cl, hcl⟩ : ∃ cl, cellsFrom (sC.heap.objs.size + 1) scope.names (cloFrom X.env.cells scope.names []) = cl := ⟨_, rfl⟩
  have goal' : codeAny (model X.prog X.w) X.A (.compStart (.DictComp kx vx [⟨tg, iter, ifs, 0⟩] scope pos) 0 (.ref it) (.ref D) (compEnvC scope cl sC.heap.objs.size X.env)) (compPost (model X.prog X.w) X.A X.xe use Qf (.ref D) sC.heap.objs.size)
      { sC with heap := pushCells (sC.heap.push { cls := .type "dict", data := .dict #[] }) scope.names } := by
    rw [hcl] at started
    obtain ⟨sD, hsD⟩ : ∃ sD : Shared, sD = { sC with heap := pushCells (sC.heap.push { cls := .type "dict", data := .dict #[] }) scope.names } := ⟨_, rfl⟩
    rw [← hsD] at started ⊢
    have stD : tn 0 sD.heap := T.keep _ _ _ stC fun b _ o e => by rw [hsD]; exact pushCells_keeps _ _ _ _ (Heap.get?_push_of_some _ e)
    have targetP := hg sC (upd Ha D (.ext (DTp X.prog X.w D []))) sC.heap.objs.size cl fp
    have testsP := ht sC (upd Ha D (.ext (DTp X.prog X.w D []))) sC.heap.objs.size cl fp
    have keyP := hk sC (upd Ha D (.ext (DTp X.prog X.w D []))) sC.heap.objs.size cl fp
    have valP := hv sC (upd Ha D (.ext (DTp X.prog X.w D []))) sC.heap.objs.size cl fp
    obtain ⟨ce, hce⟩ : ∃ ce, compEnvC scope cl sC.heap.objs.size X.env = ce := ⟨_, rfl⟩
    have locC : ce.locals = sC.heap.objs.size := by rw [← hce]; rfl
    rw [hce] at started targetP testsP keyP valP ⊢
    obtain ⟨Hn, hHn⟩ : ∃ Hn, upd Ha D (.ext (DTp X.prog X.w D [])) = Hn := ⟨_, rfl⟩
    rw [hHn] at IC started targetP testsP keyP valP go0 footC
    have still : ∀ {τ : L2.St} {G : Hp} {t : Shared}, Inv (X.blk sC Hn scope ce fp) [] τ G t → (∀ b ∈ fp, G b = none) → ∀ b ∈ fp, FpOk (X.blk sC Hn scope ce fp) [] G b := by
      intro τ G t K0 none b hb
      have fr := K0.ok.exf b hb
      exact ⟨none b hb, fr.1, K0.ok.exfs b hb, .inl hb, fun x c => fr.2 x c, fun p hp => by simp at hp⟩
    have looped : codeAny (model X.prog X.w) X.A (.compLoop (.DictComp kx vx [⟨tg, iter, ifs, 0⟩] scope pos) 0 (.ref it) (.ref D) ce) (compPost (model X.prog X.w) X.A X.xe use Qf (.ref D) sC.heap.objs.size) sD := by
      apply compLoop_anyD (fun left t => ∃ i G, Inv (X.blk sC Hn scope ce fp) [] (wipe σ (own.map (·.2))) G t ∧ tn i t.heap ∧ (∀ b ∈ fp, G b = none) ∧ Go i left G) (n := first) (h := ⟨0, Hn, started, stD, fun b hb => (footC b hb).1.1, go0⟩)
      rintro left t ⟨i, G, IG, stG, noG, goG⟩
      cases turns i left G goG with
      | inl ends =>
        refine thnF (T.done (X.blk sC Hn scope ce fp) rfl rfl rfl hc i [] t _ G (fun _ _ => False) IG (still IG noG) stG ends.1) fun r t1 ⟨er, IT⟩ => ?_
        rw [er]
        have back : Inv X pins σ G t1 := IC.call' (ch := fp) IT.os IT.base IT.hok IT.bare fun b hb => by
          have f := (footC b hb).1.2
          exact ⟨f.2.2.1, f.1, f.2.2.2.1, f.2.2.2.2⟩
        have unseen : G sC.heap.objs.size = none := locC ▸ (show G ce.locals = none from IT.free)
        obtain ⟨m, hm, _⟩ := IT.loc
        have hm : t1.heap.Ns sC.heap.objs.size m := locC ▸ (show t1.heap.Ns ce.locals m from hm)
        exact hRR D sC.heap.objs.size t1 m G back ends.2 hm (IC.fpOk (H' := G) (Nat.le_refl _) unseen)
      | inr goes =>
        obtain ⟨on, Af, less, turn⟩ := goes
        refine thnF (T.item (X.blk sC Hn scope ce fp) rfl rfl rfl hc i [] t _ G (fun _ _ => False) IG (still IG noG) stG on) fun r t1 ⟨u, er, letGo⟩ => ?_
        rw [er]
        refine thnF letGo fun _ t2 ⟨x, G2, I2, rx, yx, st2, no2⟩ => ?_
        have held := I2.pinned (still I2 no2) (T.obj _ _ st2)
        -- what a turn leaves is where the next one begins
        have next : ∀ {τ : L2.St} {G' : Hp} {t' : Shared}, wipe τ (own.map (·.2)) = wipe σ (own.map (·.2)) → Inv (X.blk sC Hn scope ce fp) ([] ++ pinsAt fp t2.heap) τ G' t' → Af G' →
            ∃ m, m < left ∧ ∃ i G, Inv (X.blk sC Hn scope ce fp) [] (wipe σ (own.map (·.2))) G t' ∧ tn i t'.heap ∧ (∀ b ∈ fp, G b = none) ∧ Go i m G := by
          intro τ G' t' ew I' af
          obtain ⟨m, lt, go'⟩ := less G' af
          have pinned : ∀ b ∈ fp, ∀ o, t2.heap.get? b = some o → t'.heap.get? b = some o ∧ G' b = none := by
            intro b hb o e
            have both := I'.pin (b, o) (List.mem_append_right _ (List.mem_append_right _ (mem_pinsAt hb e)))
            exact ⟨both.1, both.2.1⟩
          refine ⟨m, lt, i + 1, G', (I'.unpinned (pins := [])).weak (by rw [← ew, wipe_length]) (fun j v e => (wipe_some (ew ▸ e)).1), T.keep _ _ _ st2 fun b hb o e => (pinned b hb o e).1, ?_, go'⟩
          intro b hb
          obtain ⟨o, eo, _⟩ := T.obj _ _ st2 b hb
          exact (pinned b hb o eo).2
        refine thnF (targetP.run _ t2 _ G2 x u _ held rx (turn x G2 yx)) fun _ t3 ⟨τ, G3, I3, ew, ask3⟩ => thnF (testsP.run _ t3 τ G3 _ I3 ask3) fun c t4 ⟨G4, I4, ask4⟩ => ?_
        cases c with
        | true =>
          rw [if_pos rfl] at ask4
          rw [if_pos rfl]
          refine thnF (keyP.run _ t4 τ G4 _ I4 ask4) fun ku t5 ⟨yk, G5, I5, rk5, ask5⟩ => thnF (valP.run _ t5 τ G5 _ I5 ask5) fun vu t6 ⟨yv, G6, I6, rv6, ent, kk, q, eyk, eq, eD, hz, af⟩ => ?_
          rw [eyk] at rk5
          cases (show ku = Value.ref q from rk5)
          exact d_storeF (Y := X.blk sC Hn scope ce fp) hu I6 eD eq hz rv6 fun G7 t7 I7 x7 D7 => next ew I7 (af G7 x7 D7)
        | false =>
          rw [if_neg (fun z => nomatch z)] at ask4
          rw [if_neg (fun z => nomatch z)]
          exact next ew I4 ask4
    exact codeAny_compStart_dict looped (T.self X.A 0 _ _ _ stD looped)
  rw [← hcl] at goal'
  subst hsC
  exact goal'
theorem ps_setDcF {X : Cx} {i : Nat} {y : Str} {py : Pos} {kx vx tg iter : Expr} {ifs : List Expr} {scope : Scope} {own : List (Str × Nat)} {pos spos : Pos} {wi : TI} {g : TG} {tt : TT} {tk tv : TE} (hu : X.A.units + 1 < cLine) (hc : X.calm = true) (hN : X.N.Nodup) (hy : X.N[i]? = some y) (hyl : X.env.scope.names.lookup y = some .local)
    (hsw : swapsWith (.DictComp kx vx [⟨tg, iter, ifs, 0⟩] scope pos) (some (.Name y py)) spos.line X.env = pure true) (hi : PI X tg iter wi) (ok : BlkOk X.N X.env.scope scope own)
    (hg : ∀ s H C cl fp, PG (X.blk s H scope (compEnvC scope cl C X.env) fp) tg g) (ht : ∀ s H C cl fp, PTs (X.blk s H scope (compEnvC scope cl C X.env) fp) ifs tt)
    (hk : ∀ s H C cl fp, PE (X.blk s H scope (compEnvC scope cl C X.env) fp) kx tk) (hv : ∀ s H C cl fp, PE (X.blk s H scope (compEnvC scope cl C X.env) fp) vx tv)
    (hs : ∀ x, foldedSetIterable iter X.env x = pure x := by intro _; rfl) :
    PS X (.Assign [.Name y py] (.DictComp kx vx [⟨tg, iter, ifs, 0⟩] scope pos) spos) (tAsg (tDcF X.prog X.w wi g tt tk tv (own.map (·.2))) (gName i)) := by
  refine ⟨fun pins s σ H D I h => ?_⟩
  rw [exec_Assign_Name_used _ _ _ _ hsw]
  refine wpAny_bind (wpAny_standAt (wpAny_bind ?_))
  show wpAny _ X.A (do let _ ← comprehension (.DictComp kx vx [⟨tg, iter, ifs, 0⟩] scope pos) scope X.env (firstIterPos [⟨tg, iter, ifs, 0⟩] pos) newDict false (eval iter X.env) (some (assign (.Name y py) X.env))) _ _ s
  have h : tDcF X.prog X.w wi g tt tk tv (own.map (·.2)) σ H (fun x H1 => gName i x σ H1 D.nx) := h
  refine wpAny_bind (thn (dcF_core (Qf := fun _ s' => SP X pins D .next s') hu hc hN I hi ok hg ht hk hv hs h fun L C s' m H' I' q hn f => ?_) fun _ s' hq => wpAny_pure (wpAny_pure hq))
  show wpAny _ _ (assign (.Name y py) X.env (.ref L)) _ _ _
  refine wpAny_assign_Name (store_ok2 (v := V.ref L) I' hN hy (.inl hyl) rfl (fun s2 I2 ⟨a, sb, ha⟩ => ?_) (.inr hyl))
  obtain ⟨f0, f1, f2, f3, f4, f5⟩ := f
  have haC : C ≠ a := by
    rcases ha with z | z
    · rw [z]; exact f1
    · exact fun e => f4 y a z e.symm
  refine ⟨m, hn.sameBut sb haC, fun h3 sb3 => ?_⟩
  exact ⟨_, H', I2.turned (t' := s2.toks) (fun b o hb e => (sb3.2 b hb).trans e) f0 f1 f3 f4 f5, q⟩
end MM
namespace MM
open PySem PySem.Spec PyProof.Rows L2 GxR
/-! ### polynomials as lists without noughts at their end -/
def trimTo (l : List Int) : Nat → Nat
  | 0 => 0
  | n + 1 => if l.getD n 0 = 0 then trimTo l n else n + 1
def trim (l : List Int) : List Int := l.take (trimTo l l.length)
theorem trimTo_le (l : List Int) : ∀ n, trimTo l n ≤ n
  | 0 => Nat.le_refl _
  | n + 1 => by
    unfold trimTo
    split
    · exact Nat.le_succ_of_le (trimTo_le l n)
    · exact Nat.le_refl _
theorem trimTo_zero (l : List Int) : ∀ n i, trimTo l n ≤ i → i < n → l.getD i 0 = 0
  | 0, i, _, h => absurd h (Nat.not_lt_zero _)
  | n + 1, i, h1, h2 => by
    unfold trimTo at h1
    split at h1
    · rename_i h0
      by_cases e : i = n
      · rw [e]; exact h0
      · exact trimTo_zero l n i h1 (by omega)
    · omega
theorem trimTo_last (l : List Int) : ∀ n, 0 < trimTo l n → l.getD (trimTo l n - 1) 0 ≠ 0
  | 0, h => absurd h (Nat.lt_irrefl 0)
  | n + 1, h => by
    unfold trimTo at h ⊢
    split
    · rename_i h0
      rw [if_pos h0] at h
      exact trimTo_last l n h
    · rename_i h0
      exact h0
theorem trim_len (l : List Int) : (trim l).length = trimTo l l.length := by
  unfold trim
  rw [List.length_take, Nat.min_eq_left (trimTo_le _ _)]
theorem takeD_at {l : List Int} {n i : Nat} : (l.take n).getD i 0 = if i < n then l.getD i 0 else 0 := by
  rw [List.getD_eq_getElem?_getD, List.getD_eq_getElem?_getD, List.getElem?_take]
  by_cases h : i < n
  · rw [if_pos h, if_pos h]
  · rw [if_neg h, if_neg h]; rfl
theorem getD_over {l : List Int} {i : Nat} (h : l.length ≤ i) : l.getD i 0 = 0 := by
  rw [List.getD_eq_getElem?_getD, List.getElem?_eq_none h]; rfl
theorem trim_getD (l : List Int) (i : Nat) : (trim l).getD i 0 = l.getD i 0 := by
  unfold trim
  rw [takeD_at]
  by_cases h : i < trimTo l l.length
  · rw [if_pos h]
  · rw [if_neg h]
    by_cases h2 : i < l.length
    · exact (trimTo_zero l _ i (by omega) h2).symm
    · exact (getD_over (by omega)).symm
/-- no nought at the end -/
def Tr (l : List Int) : Prop := 0 < l.length → l.getD (l.length - 1) 0 ≠ 0
theorem trim_tr (l : List Int) : Tr (trim l) := fun h => by
  rw [trim_len] at h ⊢
  have h2 := trimTo_last l _ h
  rw [trim_getD]; exact h2
/-! ### one meeting more -/
/-- two lists, item by item, nought where one has none -/
def zipL (f : Int → Int → Int) (a b : List Int) : List Int := (List.range (max a.length b.length)).map fun i => f (a.getD i 0) (b.getD i 0)
theorem zipL_len (f : Int → Int → Int) (a b : List Int) : (zipL f a b).length = max a.length b.length := by unfold zipL; rw [List.length_map, List.length_range]
theorem zipL_get {f : Int → Int → Int} {a b : List Int} {i : Nat} (h : i < max a.length b.length) : (zipL f a b)[i]? = some (f (a.getD i 0) (b.getD i 0)) := by
  unfold zipL; rw [List.getElem?_map, List.getElem?_range h]; rfl
theorem zipL_getD {f : Int → Int → Int} (h0 : f 0 0 = 0) (a b : List Int) (i : Nat) : (zipL f a b).getD i 0 = f (a.getD i 0) (b.getD i 0) := by
  by_cases h : i < max a.length b.length
  · rw [List.getD_eq_getElem?_getD, zipL_get h]; rfl
  · rw [getD_over (by rw [zipL_len]; omega), getD_over (l := a) (by omega), getD_over (l := b) (by omega), h0]
def comeD (lo gr : List Int) : List Int := trim (zipL (fun x y => x - y) (0 :: zipL (fun x y => x + y) lo gr) lo)
/-- the coefficient ahead -/
def ahd (l : List Int) (i : Nat) : Int := if i = 0 then 0 else l.getD (i - 1) 0
theorem cons0_getD (l : List Int) (i : Nat) : ((0 : Int) :: l).getD i 0 = ahd l i := by
  unfold ahd
  cases i with
  | zero => rfl
  | succ i => rw [if_neg (Nat.succ_ne_zero i)]; rfl
theorem comeD_getD (lo gr : List Int) (i : Nat) : (comeD lo gr).getD i 0 = ahd lo i + ahd gr i - lo.getD i 0 := by
  unfold comeD
  rw [trim_getD, zipL_getD (by decide), cons0_getD]
  congr 1
  unfold ahd
  split
  · rfl
  · rw [zipL_getD (by decide)]
theorem comeD_tr (lo gr : List Int) : Tr (comeD lo gr) := trim_tr _
end MM
namespace MM
open PySem PySem.Spec PyProof.Rows L2 GxR
/-! ### a dict of rows that tells weights, each a list of its own, new since H0 -/
structure DWp (H0 H : Hp) (m : Nat) (S : List Int → Prop) (W : List Int → List Int) (kvs : List (List Key × V)) : Prop where
  rows : RowsE m kvs
  mem : ∀ x, IsRow x → x.length = m → ((valV kvs (rk x)).isSome = true ↔ S x)
  val : ∀ x v, IsRow x → x.length = m → valV kvs (rk x) = some v → ∃ p, v = .ref p ∧ H0 p = none ∧ H p = some (.lst ((W x).map V.int))
  inj : ∀ x y v, IsRow x → x.length = m → IsRow y → y.length = m → valV kvs (rk x) = some v → valV kvs (rk y) = some v → x = y
section
variable {H0 H H' : Hp} {m : Nat} {S S' : List Int → Prop} {W : List Int → List Int} {kvs kv0 : List (List Key × V)}
theorem DWp.nd (h : DWp H0 H m S W kvs) : (kvs.map (·.1)).Nodup := let ⟨_, r⟩ := h.rows; r.nd
theorem DWp.le (h : DWp H0 H m S W kvs) (h6 : m ≤ 6) : kvs.length ≤ 531441 := let ⟨_, r⟩ := h.rows; r.le h6
theorem DWp.ex (h : DWp H0 H m S W kvs) (e : Ex H H') : DWp H0 H' m S W kvs := ⟨h.rows, h.mem, fun x v hr hl hv => let ⟨p, a, b, c⟩ := h.val x v hr hl hv; ⟨p, a, b, Ex.lst e c⟩, h.inj⟩
theorem DWp.exD {D : Addr} (h : DWp H0 H m S W kvs) (e : ExB (At1 D) H H') (hD : H D = some (.dT kv0)) : DWp H0 H' m S W kvs :=
  ⟨h.rows, h.mem, fun x v hr hl hv => let ⟨p, a, b, c⟩ := h.val x v hr hl hv; ⟨p, a, b, e.lst c (fun z => by rw [show p = D from z, hD] at c; cases c)⟩, h.inj⟩
theorem DWp.congr (h : DWp H0 H m S W kvs) (e : ∀ x, IsRow x → x.length = m → (S x ↔ S' x)) : DWp H0 H m S' W kvs := ⟨h.rows, fun x hr hl => (h.mem x hr hl).trans (e x hr hl), h.val, h.inj⟩
theorem DWp.nil : DWp H0 H m (fun _ => False) W [] where
  rows := RowsE.nil
  mem := fun x _ _ => ⟨(fun z => nomatch z), (fun z => z.elim)⟩
  val := fun x v _ _ h => nomatch h
  inj := fun x y v _ _ _ _ h => nomatch h
theorem DWp.at (h : DWp H0 H m S W kvs) {j : Nat} {k : List Key} {v : V} (ek : kvs[j]? = some (k, v)) : ∃ ns p, k = rk ns ∧ IsRow ns ∧ ns.length = m ∧ v = .ref p ∧ H0 p = none ∧ H p = some (.lst ((W ns).map V.int)) ∧ valV kvs (rk ns) = some v := by
  obtain ⟨_, r⟩ := h.rows
  obtain ⟨ns, e, hR, hl⟩ := r.all (k, v) (List.mem_of_getElem? ek)
  have hv := val_of_nodup r.nd ek
  have e' : k = rk ns := e
  subst e'
  obtain ⟨p, a, b, c⟩ := h.val ns v hR hl hv
  exact ⟨ns, p, rfl, hR, hl, a, b, c, hv⟩
theorem DWp.put (h : DWp H0 H m S W kvs) {ns : List Int} {p : Addr} (hR : IsRow ns) (hl : ns.length = m) (hp : H p = some (.lst ((W ns).map V.int))) (h0 : H0 p = none) (hn : ∀ x v, IsRow x → x.length = m → valV kvs (rk x) = some v → v ≠ .ref p) : DWp H0 H m (fun x => x = ns ∨ S x) W (putK kvs (rk ns) (.ref p)) := by
  refine ⟨h.rows.put hR hl _, fun x hr hx => ?_, fun x v hr hx hv => ?_, fun x y v hr hx hr' hx' hv hv' => ?_⟩
  · rw [valV_put]
    by_cases e : rk x = rk ns
    · rw [if_pos e]
      exact ⟨fun _ => .inl (rk_inj e), fun _ => rfl⟩
    · rw [if_neg e, h.mem x hr hx]
      exact ⟨fun z => .inr z, fun z => z.elim (fun c => absurd (by rw [c]) e) id⟩
  · rw [valV_put] at hv
    by_cases e : rk x = rk ns
    · rw [if_pos e] at hv
      cases hv
      exact ⟨p, rfl, h0, by rw [rk_inj e]; exact hp⟩
    · rw [if_neg e] at hv
      exact h.val x v hr hx hv
  · rw [valV_put] at hv hv'
    by_cases e : rk x = rk ns
    · by_cases e' : rk y = rk ns
      · rw [rk_inj e, rk_inj e']
      · rw [if_pos e] at hv
        rw [if_neg e'] at hv'
        cases hv
        exact absurd rfl (hn y _ hr' hx' hv')
    · by_cases e' : rk y = rk ns
      · rw [if_neg e] at hv
        rw [if_pos e'] at hv'
        cases hv'
        exact absurd rfl (hn x _ hr hx hv)
      · rw [if_neg e] at hv
        rw [if_neg e'] at hv'
        exact h.inj x y v hr hx hr' hx' hv hv'
end
/-- .. nought where there is none -/
def DWt (H0 H : Hp) (m : Nat) (W : List Int → List Int) (kvs : List (List Key × V)) : Prop := ∃ S, DWp H0 H m S W kvs ∧ ∀ x, IsRow x → x.length = m → ¬ S x → W x = []
theorem DWt.ex {H0 H H' : Hp} {m : Nat} {W : List Int → List Int} {kvs : List (List Key × V)} (h : DWt H0 H m W kvs) (e : Ex H H') : DWt H0 H' m W kvs := let ⟨S, a, b⟩ := h; ⟨S, a.ex e, b⟩
theorem DWt.out {H0 H : Hp} {m : Nat} {W : List Int → List Int} {kvs : List (List Key × V)} (h : DWt H0 H m W kvs) {x : List Int} (hr : IsRow x) (hl : x.length = m) (hv : valV kvs (rk x) = none) : W x = [] := by
  obtain ⟨S, a, b⟩ := h
  refine b x hr hl fun z => ?_
  have := (a.mem x hr hl).mpr z
  rw [hv] at this
  exact nomatch this
end MM
namespace MM
open PySem PySem.Spec PyProof.Rows L2 GxR
/-! ### dicts with rows of no dict as keys: locked, told again, in order -/
theorem ex_lockX {B : Addr → Prop} {H H' : Hp} {d : Addr} {od : Obj} {φ : Heap → Prop} (hd : H d = some (.ext φ)) (e : ExB B (upd H d (.frz od (.ext φ))) H') : ExB B H (upd H' d (.ext φ)) := by
  refine ⟨fun a o q f => ?_, fun a o q n b => ?_, fun P ps q => ?_, fun a q => ?_⟩
  · have ne : a ≠ d := fun z => by rw [z, hd] at q; cases q; exact f
    rw [upd_ne ne]; exact e.fix a o (by rw [upd_ne ne]; exact q) f
  · by_cases z : a = d
    · rw [z, upd_same]; rw [z, hd] at q; exact q
    · rw [upd_ne z]; exact e.keep a o (by rw [upd_ne z]; exact q) n b
  · have ne : P ≠ d := fun z => by rw [z, hd] at q; cases q
    rw [upd_ne ne]; exact e.tbl P ps (by rw [upd_ne ne]; exact q)
  · by_cases z : a = d
    · rw [z, upd_same]; exact fun h => nomatch h
    · rw [upd_ne z]; exact e.still a (by rw [upd_ne z]; exact q)
theorem kvX_get {xs : KXs} {j : Nat} {k : List Key} {b : Addr} {v : V} (h : xs[j]? = some (k, b, v)) : (kvX xs)[j]? = some (k, v) := by unfold kvX; rw [List.getElem?_map, h]; rfl
end MM
namespace MM
open PySem PySem.Spec PyProof.Rows L2 GxR
/-- any, all over what is walked: the answer told once -/
theorem gy_told {J : It} {n : Nat} {G : Hp → Prop} {Y : Nat → Hp → V → Hp → Prop} (w : Walk J n G Y) {te : TE} {stop : Bool} {P : Addr} {caps : List (Str × Nat)} {σ : L2.St} {H1 : Hp} {Q : VK} (hP : TabG H1 P) (Pv : Nat → Hp → Prop) (Fr : Hp → Prop) (S : Prop) (h0 : ∀ H2, Ex H1 H2 → Pv 0 H2) (hG : ∀ i H, i ≤ n → Pv i H → G H)
    (hs : ∀ i x H H', i < n → Pv i H → Y i H x H' → te (some x :: caps.map fun p => (σ[p.2]?).join) H' fun y H4 => ∃ b, y = .bl b ∧ (b = stop → S ∧ Fr H4) ∧ (b ≠ stop → Pv (i + 1) H4)) (hd : ∀ H, Pv n H → ¬ S ∧ Fr H) (q : ∀ (b : Bool) H, Fr H → (b = stop ↔ S) → Q (.bl b) H) : tGy J te P stop caps σ H1 Q := by
  have hn : (!stop) = stop ↔ False := by cases stop <;> simp
  refine ⟨hP, fun H2 t2 => ?_⟩
  obtain ⟨W, h1, h2⟩ := gx_it (Qs := fun H => S ∧ Fr H) (Qe := fun H => ¬ S ∧ Fr H) w Pv (h0 H2 (ex_tab hP t2)) hG hs hd
  exact ⟨W, _, _, h1, h2, fun H h => q stop H h.2 ⟨fun _ => h.1, fun _ => rfl⟩, fun H h => q (!stop) H h.2 ⟨fun z => (hn.mp z).elim, fun z => (h.1 z).elim⟩⟩
end MM
namespace MM
open PySem PySem.Spec PyProof.Rows L2 GxR
/-! ### what was found, kept row by row -/
structure KnW (m : Nat) (kvs : List (List Key × V)) : Prop where
  rows : RowsE m kvs
  val : ∀ x v, IsRow x → x.length = m → valV kvs (rk x) = some v → v = .int ((nrw (pairsN x) x : Nat) : Int)
theorem KnW.le {m : Nat} {kvs : List (List Key × V)} (h : KnW m kvs) (h6 : m ≤ 6) : kvs.length ≤ 531441 := let ⟨_, r⟩ := h.rows; r.le h6
theorem KnW.nil {m : Nat} : KnW m [] := ⟨RowsE.nil, fun _ _ _ _ h => nomatch h⟩
theorem KnW.put {m : Nat} {kvs : List (List Key × V)} (h : KnW m kvs) {ns : List Int} (hR : IsRow ns) (hl : ns.length = m) : KnW m (putK kvs (rk ns) (.int ((nrw (pairsN ns) ns : Nat) : Int))) := by
  refine ⟨h.rows.put hR hl _, fun x v hr hx e => ?_⟩
  rw [valV_put] at e
  by_cases c : rk x = rk ns
  · rw [if_pos c] at e
    rw [rk_inj c]; exact (Option.some.inj e).symm
  · rw [if_neg c] at e; exact h.val x v hr hx e
end MM
namespace MM
open PySem PySem.Spec PyProof.Rows L2 GxR
/-! ### shortest books read from the end -/
theorem runW_app : ∀ (y : List Int) (a b : List Nat), runW y (a ++ b) = runW (runW y a) b
  | _, [], _ => rfl
  | y, g :: a, b => runW_app (swL y g) a b
/-! #### words sorted -/
def pw (w : List Nat) : PyData := .tuple ((nI w).map PyData.int)
theorem pw_alike (a b : List Nat) : PySem.W.alike (pw a) (pw b) = true := by
  unfold pw
  generalize nI a = x; generalize nI b = y
  simp [PySem.W.alike, MM.alike_ints]
theorem pw_lt (a b : List Nat) : PySem.W.dataLt (pw a) (pw b) = decide (a < b) := by
  unfold pw
  rw [PySem.W.dataLt_tuple]
  have h3 := PySem.W.dataLt_ints (nI a) (nI b)
  unfold PySem.W.rowLt at h3
  rw [h3, Bool.eq_iff_iff, decide_eq_true_iff, decide_eq_true_iff, nI_lt]
theorem le_pw (x y : List Nat) : PySem.W.dataLe false pw x y = decide (x ≤ y) := by
  rw [PySem.W.dataLe_eq]
  show (!PySem.W.dataLt (pw y) (pw x)) = _
  rw [pw_lt, Bool.eq_iff_iff]
  simp only [Bool.not_eq_true', decide_eq_false_iff_not, decide_eq_true_eq]
  exact ⟨fun h => List.not_lt.mp h, fun h => List.not_lt.mpr h⟩
theorem strictN {l : List (List Nat)} (hs : l.Pairwise (· ≤ ·)) (hn : l.Nodup) : l.Pairwise (· < ·) := by
  refine List.Pairwise.imp ?_ (List.pairwise_and_iff.mpr ⟨hs, hn⟩)
  rintro a b ⟨h, hne⟩
  exact (List.le_iff_lt_or_eq.mp h).resolve_right hne
theorem sort_words (bs : List (V × List Nat)) (hn : (bs.map (·.2)).Nodup) : ∃ L : List (V × List Nat), L.Perm bs ∧ (L.map (·.2)).Pairwise (· < ·) ∧
    ((bs.map fun p => (p.1, pw p.2)).mergeSort (PySem.W.dataLe false (fun p : V × PyData => p.2))).map (·.1) = L.map (·.1) := by
  refine ⟨bs.mergeSort fun p q => decide (p.2 ≤ q.2), List.mergeSort_perm _ _, ?_, ?_⟩
  · refine strictN ?_ (((List.mergeSort_perm bs _).map (·.2)).nodup_iff.mpr hn)
    rw [List.pairwise_map]
    have := List.pairwise_mergeSort (le := fun p q : V × List Nat => decide (p.2 ≤ q.2)) (fun a b c h1 h2 => decide_eq_true (List.le_trans (of_decide_eq_true h1) (of_decide_eq_true h2))) (fun a b => by
      rcases List.le_total a.2 b.2 with h | h
      · simp [h]
      · simp [h]) bs
    exact this.imp fun h => of_decide_eq_true h
  · have := List.map_mergeSort (r := fun p q : V × List Nat => decide (p.2 ≤ q.2)) (s := PySem.W.dataLe false (fun p : V × PyData => p.2)) (f := fun p : V × List Nat => (p.1, pw p.2)) (l := bs) (fun a _ b _ => (le_pw a.2 b.2).symm)
    rw [← this, List.map_map]
    rfl
theorem words_eq : ∀ {l1 l2 : List (List Nat)}, l1.Pairwise (· < ·) → l2.Pairwise (· < ·) → (∀ x, x ∈ l1 ↔ x ∈ l2) → l1 = l2
  | [], [], _, _, _ => rfl
  | [], y :: l2, _, _, h => absurd ((h y).mpr List.mem_cons_self) (by simp)
  | x :: l1, [], _, _, h => absurd ((h x).mp List.mem_cons_self) (by simp)
  | x :: l1, y :: l2, p1, p2, h => by
    obtain ⟨a1, a2⟩ := List.pairwise_cons.mp p1
    obtain ⟨b1, b2⟩ := List.pairwise_cons.mp p2
    have e : x = y := by
      rcases List.mem_cons.mp ((h x).mp List.mem_cons_self) with z | z
      · exact z
      · rcases List.mem_cons.mp ((h y).mpr List.mem_cons_self) with w | w
        · exact w.symm
        · exact absurd (lex_trans (b1 x z) (a1 y w)) lex_irr
    subst e
    rw [words_eq a2 b2 fun z => ⟨fun hz => ?_, fun hz => ?_⟩]
    · rcases List.mem_cons.mp ((h z).mp (List.mem_cons_of_mem _ hz)) with w | w
      · exact absurd (w ▸ a1 z hz) lex_irr
      · exact w
    · rcases List.mem_cons.mp ((h z).mpr (List.mem_cons_of_mem _ hz)) with w | w
      · exact absurd (w ▸ b1 z hz) lex_irr
      · exact w
end MM
namespace MM
open PySem PySem.Spec PyProof.Rows L2 GxR
theorem pw_depth (u : List Nat) : (pw u).depth ≤ 60 := by
  unfold pw
  generalize nI u = x
  simp [PyData.depth, PyData.depthAll, PySem.W.depth_ints]
theorem pair_zip {α β : Type} {F : α → β → Prop} {l₁ : List α} {l₂ : List β} (r : Paired F l₁ l₂) : ∀ p ∈ l₁.zip l₂, F p.1 p.2 := by
  induction r with
  | nil => intro p h; exact nomatch h
  | cons h t ih =>
    intro p hp
    rcases List.mem_cons.mp hp with e | e
    · rw [e]; exact h
    · exact ih p e
theorem pair_of {α β : Type} {F : α → β → Prop} : ∀ {L : List (α × β)}, (∀ p ∈ L, F p.1 p.2) → Paired F (L.map (·.1)) (L.map (·.2))
  | [], _ => .nil
  | p :: L, h => .cons (h p List.mem_cons_self) (pair_of fun q hq => h q (List.mem_cons_of_mem _ hq))
end MM
namespace MM
open PySem PySem.Spec PyProof.Rows L2 GxR
end MM
namespace MM
open PySem PySem.Spec PyProof.Rows L2 GxR
end MM
namespace MM
open PySem PySem.Spec PyProof.Rows L2 GxR
/-! ### in how many ways a word is found within a book -/
def emb : List Nat → List Int → Nat
  | [], _ => 1
  | _ :: _, [] => 0
  | x :: u, g :: gs => emb (x :: u) gs + if g.toNat = x then emb u gs else 0
theorem emb_nil (gs : List Int) : emb [] gs = 1 := by cases gs <;> rfl
theorem emb_cons (x : Nat) (u : List Nat) (g : Int) (gs : List Int) : emb (x :: u) (g :: gs) = emb (x :: u) gs + if g.toNat = x then emb u gs else 0 := rfl
theorem emb_pos : ∀ {gs : List Int} {u : List Nat}, u.Sublist (gs.map Int.toNat) → 0 < emb u gs
  | gs, [], _ => by rw [emb_nil]; exact Nat.one_pos
  | [], x :: u, h => by cases h
  | g :: gs, x :: u, h => by
    rw [emb_cons]
    cases h with
    | cons _ h => have := emb_pos h; omega
    | cons_cons _ h => have := emb_pos h; rw [if_pos rfl]; omega
/-! ### goings from another start -/
theorem sw_map {f : Int → Int} {z : List Int} {g : Nat} (h : g + 1 < z.length) : swL (z.map f) g = (swL z g).map f := by
  have d : ∀ i, i < z.length → (z.map f).getD i 0 = f (z.getD i 0) := fun i hi => by
    rw [List.getD_eq_getElem?_getD, List.getD_eq_getElem?_getD, List.getElem?_map, List.getElem?_eq_getElem hi]; rfl
  unfold swL
  rw [d g (by omega), d (g + 1) h]
  simp
theorem cg_map {m : Nat} {f : Int → Int} {rr : List Int} (hf : ∀ z, IsRow z → z.length = m → (z.map f = rr.map f ↔ z = rr)) : ∀ {gs z : List Int} (c : Nat), BookOk m gs → IsRow z → z.length = m → cg rr gs z c = cg (rr.map f) gs (z.map f) c
  | [], z, c, _, hr, hl => by
    rw [cg_nil, cg_nil]
    by_cases p : z = rr ∧ c = 0
    · rw [if_pos p, if_pos ⟨(hf z hr hl).mpr p.1, p.2⟩]
    · rw [if_neg p, if_neg fun w => p ⟨(hf z hr hl).mp w.1, w.2⟩]
  | g :: gs, z, c, hb, hr, hl => by
    have hg := hb g List.mem_cons_self
    have hb' : BookOk m gs := fun z hz => hb z (List.mem_cons_of_mem _ hz)
    rw [cg_cons, cg_cons, sw_map (by omega), cg_map hf c hb' hr hl, cg_map hf (c - 1) hb' (sw_row (by omega) hr) (by rw [sw_len (by omega)]; exact hl)]
theorem cg_inv {m : Nat} {gs : List Int} {a b : Nat → Nat} (h1 : 1 ≤ m) (h9 : m ≤ 9) (hI : IsInv m a b) (hB : BookOk m gs) (c : Nat) : cg (ofF m a) gs (row0 m) c = cg (row0 m) gs (ofF m b) c := by
  have hra := row_ofF h1 h9 hI
  have e0 : (row0 m).map (fun v => ((b v.toNat : Nat) : Int)) = ofF m b := by
    rw [row0_ofF]
    unfold ofF
    rw [List.map_map]
    exact List.map_congr_left fun i _ => by simp [Function.comp]
  have e1 : (ofF m a).map (fun v => ((b v.toNat : Nat) : Int)) = row0 m := by
    rw [row0_ofF]
    unfold ofF
    rw [List.map_map]
    refine List.map_congr_left fun i hi => ?_
    have := (hI.ab i (List.mem_range.mp hi)).2
    simp only [Function.comp, Int.toNat_natCast]
    rw [this]; rfl
  have key := cg_map (m := m) (f := fun v => ((b v.toNat : Nat) : Int)) (rr := ofF m a) (fun z hr hl => ?_) (gs := gs) (z := row0 m) c hB (row0_row h1 h9) (row0_len m)
  · rw [e0, e1] at key; exact key
  · constructor
    · intro h
      obtain ⟨za, zb, hz, ez⟩ := hr.inv
      rw [hl] at hz ez
      rw [ez] at h ⊢
      refine ofF_congr fun j hj => ?_
      have h2 : ((ofF m za).map (fun v => ((b v.toNat : Nat) : Int)))[j]? = ((ofF m a).map (fun v => ((b v.toNat : Nat) : Int)))[j]? := by rw [h]
      rw [List.getElem?_map, List.getElem?_map, ofF_get hj, ofF_get hj] at h2
      have h3 : ((b (za j) : Nat) : Int) = ((b (a j) : Nat) : Int) := by simpa using h2
      have h4 : b (za j) = b (a j) := by omega
      have h5 := (hI.ba (za j) (hz.ab j hj).1).2
      have h6 := (hI.ba (a j) (hI.ab j hj).1).2
      rw [← h5, ← h6, h4]
    · intro h; rw [h]
/-! ### goings with the fewest changes -/
theorem sum_zero {α : Type} {f : α → Nat} : ∀ {L : List α}, (∀ u ∈ L, f u = 0) → (L.map f).sum = 0
  | [], _ => rfl
  | a :: L, h => by rw [List.map_cons, List.sum_cons, h a List.mem_cons_self, sum_zero fun u hu => h u (List.mem_cons_of_mem _ hu)]
def hdE (g : Nat) (gs : List Int) : List Nat → Nat
  | [] => 0
  | x :: u => if g = x then emb u gs else 0
theorem sum_hd (g : Int) (gs : List Int) : ∀ {L : List (List Nat)}, (∀ u ∈ L, u ≠ []) → (L.map fun u => emb u (g :: gs)).sum = (L.map fun u => emb u gs).sum + (L.map (hdE g.toNat gs)).sum
  | [], _ => rfl
  | u :: L, h => by
    rw [List.map_cons, List.map_cons, List.map_cons, List.sum_cons, List.sum_cons, List.sum_cons, sum_hd g gs fun u hu => h u (List.mem_cons_of_mem _ hu)]
    cases u with
    | nil => exact absurd rfl (h [] List.mem_cons_self)
    | cons x u =>
      rw [emb_cons]
      show _ = _ + _ + ((if g.toNat = x then emb u gs else 0) + _)
      omega
theorem hd_block (g n : Nat) (gs : List Int) (L : List (List Nat)) : ((L.map (n :: ·)).map (hdE g gs)).sum = if g = n then (L.map fun u => emb u gs).sum else 0 := by
  rw [List.map_map]
  by_cases h : g = n
  · rw [if_pos h]
    congr 1
    exact List.map_congr_left fun u _ => if_pos h
  · rw [if_neg h]
    exact sum_zero fun u _ => if_neg h
theorem hd_LWto (g k : Nat) (y gs : List Int) : ∀ n, ((LWto k y n).map (hdE g gs)).sum = if g < n ∧ Fall y g then ((LW k (swL y g)).map fun u => emb u gs).sum else 0
  | 0 => by rw [if_neg (fun z => absurd z.1 (Nat.not_lt_zero _))]; rfl
  | n + 1 => by
    rw [LWto_succ, List.map_append, List.sum_append, hd_LWto g k y gs n]
    by_cases hf : Fall y n
    · rw [if_pos hf, hd_block]
      by_cases e : g = n
      · subst e
        rw [if_neg (fun z => absurd z.1 (Nat.lt_irrefl _)), if_pos rfl, if_pos ⟨Nat.lt_succ_self _, hf⟩]; omega
      · rw [if_neg e]
        by_cases c : g < n ∧ Fall y g
        · rw [if_pos c, if_pos ⟨by omega, c.2⟩]; omega
        · rw [if_neg c, if_neg fun z => c ⟨by omega, z.2⟩]
    · rw [if_neg hf]
      by_cases c : g < n ∧ Fall y g
      · rw [if_pos c, if_pos ⟨by omega, c.2⟩]; rfl
      · rw [if_neg c, if_neg fun z => c ⟨by
          have : g ≠ n := fun e => hf (e ▸ z.2)
          omega, z.2⟩]; rfl
theorem LW_ne {k : Nat} {y : List Int} : ∀ u ∈ LW (k + 1) y, u ≠ [] := fun u hu => by
  obtain ⟨g, _, h⟩ := List.mem_flatMap.mp hu
  split at h
  · obtain ⟨w, _, rfl⟩ := List.mem_map.mp h
    exact List.cons_ne_nil _ _
  · exact nomatch h
theorem cg_low {m : Nat} : ∀ {gs y : List Int}, BookOk m gs → IsRow y → y.length = m →
    (∀ c, c < pairsN y → cg (row0 m) gs y c = 0) ∧ cg (row0 m) gs y (pairsN y) = ((LW (pairsN y) y).map fun u => emb u gs).sum
  | [], y, _, hr, hl => by
    refine ⟨fun c hc => ?_, ?_⟩
    · rw [cg_nil, if_neg]
      rintro ⟨rfl, rfl⟩
      rw [pairs_row00] at hc; omega
    · rw [cg_nil]
      cases hp : pairsN y with
      | zero =>
        rw [if_pos ⟨by rw [no_pairs hr hp, hl], rfl⟩]; rfl
      | succ k =>
        rw [if_neg (fun z => by omega)]
        exact (sum_zero fun u hu => by
          cases u with
          | nil => exact absurd rfl (LW_ne _ hu)
          | cons x u => rfl).symm
  | g :: gs, y, hb, hr, hl => by
    have hg := hb g List.mem_cons_self
    have hb' : BookOk m gs := fun z hz => hb z (List.mem_cons_of_mem _ hz)
    have hgm : g.toNat + 1 < y.length := by omega
    have i1 := cg_low hb' hr hl
    have hr2 := sw_row hgm hr
    have hl2 : (swL y g.toNat).length = m := by rw [sw_len hgm]; exact hl
    have i2 := cg_low hb' hr2 hl2
    have hne := row_ne hr (g := g.toNat) hgm
    refine ⟨fun c hc => ?_, ?_⟩
    · rw [cg_cons, i1.1 c hc]
      by_cases h0 : c = 0
      · rw [if_pos h0]
      · rw [if_neg h0]
        by_cases hd : y.getD (g.toNat + 1) 0 < y.getD g.toNat 0
        · have := pairs_desc hgm hd
          rw [i2.1 _ (by omega)]
        · have := pairs_sw hgm (show y.getD g.toNat 0 < y.getD (g.toNat + 1) 0 by omega)
          rw [i2.1 _ (by omega)]
    · rw [cg_cons, i1.2]
      cases hp : pairsN y with
      | zero =>
        show [emb [] gs].sum + 0 = [emb [] (g :: gs)].sum
        rw [emb_nil, emb_nil]; rfl
      | succ k =>
        rw [if_neg (Nat.succ_ne_zero k), sum_hd g gs LW_ne, LW_succ, hd_LWto]
        congr 1
        by_cases hd : y.getD (g.toNat + 1) 0 < y.getD g.toNat 0
        · have := pairs_desc hgm hd
          have hk : pairsN (swL y g.toNat) = k := by omega
          rw [if_pos ⟨by omega, hd⟩, ← hk]
          exact (show k + 1 - 1 = pairsN (swL y g.toNat) by omega) ▸ i2.2
        · have := pairs_sw hgm (show y.getD g.toNat 0 < y.getD (g.toNat + 1) 0 by omega)
          rw [if_neg fun z => hd z.2, i2.1 _ (by omega)]
/-! ### the word that fewest tells -/
theorem runW_snoc (y : List Int) (w : List Nat) (g : Nat) : runW y (w ++ [g]) = swL (runW y w) g := by rw [runW_app]; rfl
theorem tld_run {m : Nat} {gs y : List Int} (hB : BookOk m gs) (hr : IsRow y) (hl : y.length = m) : ∀ n, n ≤ gs.length → runW y ((tld gs y n).map (gapN gs)) = dnL (gs.take n) y
  | 0, _ => by rw [List.take_zero]; rfl
  | n + 1, hn => by
    have ih := tld_run hB hr hl n (by omega)
    have et : dnL (gs.take (n + 1)) y = lowS (dnL (gs.take n) y) (gapN gs n) := by
      rw [List.take_add_one, getD_some hn, dnL_app]; rfl
    rw [tld_succ, et]
    unfold lowS
    by_cases h : asc gs y n
    · rw [if_pos h, ih]
      have h' : (dnL (gs.take n) y).getD (gapN gs n) 0 < (dnL (gs.take n) y).getD (gapN gs n + 1) 0 := h
      rw [if_pos h']
    · rw [if_neg h, List.map_append, List.map_cons, List.map_nil, runW_snoc, ih]
      have h' : ¬ (dnL (gs.take n) y).getD (gapN gs n) 0 < (dnL (gs.take n) y).getD (gapN gs n + 1) 0 := h
      rw [if_neg h']
theorem tld_sub (gs y : List Int) : ((tld gs y gs.length).map (gapN gs)).Sublist (gs.map Int.toNat) := by
  have e : gs.map Int.toNat = (List.range gs.length).map (gapN gs) := by
    refine List.ext_getElem (by simp) fun i h1 h2 => ?_
    have hi : i < gs.length := by simpa using h1
    rw [List.getElem_map, List.getElem_map, List.getElem_range]
    unfold gapN
    rw [List.getD_eq_getElem?_getD, List.getElem?_eq_getElem hi]; rfl
  rw [e]
  exact List.filter_sublist.map _
theorem tld_LW {m : Nat} {gs : List Int} {a b : Nat → Nat} (h1 : 1 ≤ m) (h9 : m ≤ 9) (hB : BookOk m gs) (hI : IsInv m a b) (h : dnL gs (ofF m b) = row0 m) : (tld gs (ofF m b) gs.length).map (gapN gs) ∈ LW (pairsN (ofF m a)) (ofF m b) := by
  have hrb := row_ofF h1 h9 hI.symm
  have e1 := few_pairs h1 h9 hB hI h
  have e2 := pairs_tld hB hrb (ofF_len m b) gs.length (Nat.le_refl _)
  rw [List.take_length, h, pairs_row00] at e2
  refine (mem_LW hrb (ofF_len m b) (by omega)).mpr ⟨by rw [List.length_map, e1], fun g hg => ?_, ?_⟩
  · obtain ⟨i, hi, rfl⟩ := List.mem_map.mp hg
    obtain ⟨gp, eg, hg'⟩ := book_at hB (mem_tld.mp hi).1
    unfold gapN
    rw [eg, Int.toNat_natCast]; exact hg'
  · have := tld_run hB hrb (ofF_len m b) gs.length (Nat.le_refl _)
    rw [List.take_length, h] at this; exact this
theorem sum_pos {α : Type} {f : α → Nat} : ∀ {L : List α} {u : α}, u ∈ L → 0 < f u → 0 < (L.map f).sum
  | a :: L, u, hu, h => by
    rw [List.map_cons, List.sum_cons]
    rcases List.mem_cons.mp hu with rfl | hu
    · omega
    · have := sum_pos hu h; omega
/-- the sum over the shortest books -/
def totE (k : Nat) (y gs : List Int) : Nat := ((LW k y).map fun u => emb u gs).sum
theorem least_cg {m : Nat} {gs : List Int} {a b : Nat → Nat} (h1 : 1 ≤ m) (h9 : m ≤ 9) (hB : BookOk m gs) (hI : IsInv m a b) (h : dnL gs (ofF m b) = row0 m) :
    (∀ c, c < pairsN (ofF m a) → cg (ofF m a) gs (row0 m) c = 0) ∧ cg (ofF m a) gs (row0 m) (pairsN (ofF m a)) = totE (pairsN (ofF m a)) (ofF m b) gs ∧ 0 < totE (pairsN (ofF m a)) (ofF m b) gs := by
  have hrb := row_ofF h1 h9 hI.symm
  have e1 := few_pairs h1 h9 hB hI h
  have e2 := pairs_tld hB hrb (ofF_len m b) gs.length (Nat.le_refl _)
  rw [List.take_length, h, pairs_row00] at e2
  have ep : pairsN (ofF m b) = pairsN (ofF m a) := by omega
  have key := cg_low hB hrb (ofF_len m b)
  rw [ep] at key
  refine ⟨fun c hc => by rw [cg_inv h1 h9 hI hB]; exact key.1 c hc, by rw [cg_inv h1 h9 hI hB]; exact key.2, ?_⟩
  exact sum_pos (tld_LW h1 h9 hB hI h) (emb_pos (tld_sub gs _))
/-- the first of the counts that are more than none -/
theorem chg_pre (l : List Int) (n : Nat) : ∀ d, ∃ t, chg l (n + d) = chg l n ++ t
  | 0 => ⟨[], (List.append_nil _).symm⟩
  | d + 1 => by
    obtain ⟨t, e⟩ := chg_pre l n d
    exact ⟨_, by rw [show n + (d + 1) = (n + d) + 1 from rfl, chg_succ, e, List.append_assoc]⟩
theorem chg_first {l : List Int} {p : Nat} (h0 : ∀ c, c < p → l.getD c 0 = 0) (hp : 0 < l.getD p 0) : ∃ t, chg l l.length = (p, l.getD p 0) :: t := by
  have hz : ∀ n, n ≤ p → chg l n = [] := fun n => by
    induction n with
    | zero => exact fun _ => rfl
    | succ n ih => exact fun h => by rw [chg_succ, ih (by omega), h0 n (by omega)]; rfl
  have hl : p < l.length := Nat.lt_of_not_le fun z => by
    rw [List.getD_eq_getElem?_getD, List.getElem?_eq_none z] at hp
    exact absurd hp (by decide)
  obtain ⟨t, e⟩ := chg_pre l (p + 1) (l.length - (p + 1))
  rw [show p + 1 + (l.length - (p + 1)) = l.length by omega, chg_succ, hz p (Nat.le_refl _), if_pos hp] at e
  exact ⟨t, e⟩
end MM
namespace MM
open PySem PySem.Spec PyProof.Rows L2 GxR
/-- the next key, laid behind those ahead of it -/
theorem putX_next {xs : KXs} (hn : ((kvX xs).map (·.1)).Nodup) {i : Nat} {k : List Key} {b : Addr} {v : V} (e : xs[i]? = some (k, b, v)) : putX (xs.take i) k b v = xs.take (i + 1) := by
  have no : ((kvX (xs.take i)).any fun kv => decide (kv.1 = k)) = false := by
    rw [List.any_eq_false]
    intro p hp z
    have z' : p.1 = k := of_decide_eq_true z
    have h2 := not_before hn (j := i) (k := k) (by rw [kvX_get e]; rfl)
    refine h2 ?_
    have e2 : kvX (xs.take i) = (kvX xs).take i := by unfold kvX; rw [List.map_take]
    rw [e2] at hp
    rw [← List.map_take]
    exact List.mem_map.mpr ⟨p, hp, z'⟩
  unfold putX
  rw [if_neg (by rw [no]; decide), List.take_add_one, e]
  rfl
end MM
namespace MM
open PySem PySem.Spec PyProof.Rows L2 GxR
/-! ### weights as functions: what a meeting does, and what is the same -/
/-- times q -/
def ah (c : Nat → Int) (i : Nat) : Int := if i = 0 then 0 else c (i - 1)
/-- q times the two, less the first -/
def st (u v : Nat → Int) (i : Nat) : Int := ah u i - u i + ah v i
abbrev Wt := List Int → Nat → Int
def EqR (m : Nat) (F G : Wt) : Prop := ∀ x, IsRow x → x.length = m → F x = G x
theorem EqR.rfl {m : Nat} {F : Wt} : EqR m F F := fun _ _ _ => Eq.refl _
theorem EqR.symm {m : Nat} {F G : Wt} (h : EqR m F G) : EqR m G F := fun x a b => (h x a b).symm
theorem EqR.trans {m : Nat} {F G J : Wt} (h : EqR m F G) (h' : EqR m G J) : EqR m F J := fun x a b => (h x a b).trans (h' x a b)
end MM
namespace MM
open PySem PySem.Spec PyProof.Rows L2 GxR
/-- where each one stands -/
def bk (x : List Int) : List Int := (List.range x.length).map fun (j : Nat) => ((x.idxOf (j : Int) : Nat) : Int)
section
variable {m : Nat} (h1 : 1 ≤ m) (h9 : m ≤ 9)
include h1 h9
end
end MM
namespace MM
open PySem PySem.Spec PyProof.Rows L2 GxR
/-! ### tables put in order: one row's weight put, told besides; how great the weights are -/
theorem DWt.exD {H0 H H' : Hp} {m : Nat} {W : List Int → List Int} {kvs kv0 : List (List Key × V)} {D : Addr} (h : DWt H0 H m W kvs) (e : ExB (At1 D) H H') (hD : H D = some (.dT kv0)) : DWt H0 H' m W kvs := let ⟨S, a, b⟩ := h; ⟨S, a.exD e hD, b⟩
/-- one row's weight put in -/
theorem DWt.put {H0 H : Hp} {m : Nat} {W W' : List Int → List Int} {kvs : List (List Key × V)} (h : DWt H0 H m W kvs) {ns : List Int} {p : Addr} (hR : IsRow ns) (hl : ns.length = m) (hp : H p = some (.lst ((W' ns).map V.int))) (h0 : H0 p = none) (hn : ∀ x v, IsRow x → x.length = m → valV kvs (rk x) = some v → v ≠ .ref p) (hW : ∀ x, x ≠ ns → W' x = W x) : DWt H0 H m W' (putK kvs (rk ns) (.ref p)) := by
  obtain ⟨S, a, b⟩ := h
  refine ⟨fun x => x = ns ∨ S x, ⟨a.rows.put hR hl _, fun x hr hx => ?_, fun x v hr hx hv => ?_, fun x y v hr hx hr' hx' hv hv' => ?_⟩, fun x hr hx hS => ?_⟩
  · rw [valV_put]
    by_cases e : rk x = rk ns
    · rw [if_pos e]
      exact ⟨fun _ => .inl (rk_inj e), fun _ => rfl⟩
    · rw [if_neg e, a.mem x hr hx]
      exact ⟨fun z => .inr z, fun z => z.elim (fun c => absurd (by rw [c]) e) id⟩
  · rw [valV_put] at hv
    by_cases e : rk x = rk ns
    · rw [if_pos e] at hv
      cases hv
      exact ⟨p, rfl, h0, by rw [rk_inj e]; exact hp⟩
    · rw [if_neg e] at hv
      rw [hW x fun z => e (by rw [z])]
      exact a.val x v hr hx hv
  · rw [valV_put] at hv hv'
    by_cases e : rk x = rk ns
    · by_cases e' : rk y = rk ns
      · rw [rk_inj e, rk_inj e']
      · rw [if_pos e] at hv
        rw [if_neg e'] at hv'
        cases hv
        exact absurd rfl (hn y _ hr' hx' hv')
    · by_cases e' : rk y = rk ns
      · rw [if_neg e] at hv
        rw [if_pos e'] at hv'
        cases hv'
        exact absurd rfl (hn x _ hr hx hv)
      · rw [if_neg e] at hv
        rw [if_neg e'] at hv'
        exact a.inj x y v hr hx hr' hx' hv hv'
  · rw [hW x fun z => hS (.inl z)]
    exact b x hr hx fun z => hS (.inr z)
theorem DWt.congr {H0 H : Hp} {m : Nat} {W W' : List Int → List Int} {kvs : List (List Key × V)} (h : DWt H0 H m W kvs) (e : ∀ x, IsRow x → x.length = m → W x = W' x) : DWt H0 H m W' kvs := let ⟨S, a, b⟩ := h; ⟨S, ⟨a.rows, a.mem, fun x v hr hl hv => by rw [← e x hr hl]; exact a.val x v hr hl hv, a.inj⟩, fun x hr hl hS => by rw [← e x hr hl]; exact b x hr hl hS⟩
theorem DWt.nil {H0 H : Hp} {m : Nat} : DWt H0 H m (fun _ => []) [] := ⟨_, DWp.nil, fun _ _ _ _ => rfl⟩
theorem DWt.val {H0 H : Hp} {m : Nat} {W : List Int → List Int} {kvs : List (List Key × V)} (h : DWt H0 H m W kvs) {x : List Int} {v : V} (hr : IsRow x) (hl : x.length = m) (hv : valV kvs (rk x) = some v) : ∃ p, v = .ref p ∧ H0 p = none ∧ H p = some (.lst ((W x).map V.int)) := let ⟨_, a, _⟩ := h; a.val x v hr hl hv
theorem DWt.le {H0 H : Hp} {m : Nat} {W : List Int → List Int} {kvs : List (List Key × V)} (h : DWt H0 H m W kvs) (h6 : m ≤ 6) : kvs.length ≤ 531441 := let ⟨_, a, _⟩ := h; a.le h6
end MM
namespace MM
open PySem PySem.Spec PyProof.Rows L2 GxR
def sgnN (d : Nat) : Int := if d % 2 = 0 then 1 else -1
theorem sgn_succ (d : Nat) : sgnN (d + 1) = - sgnN d := by
  unfold sgnN
  split <;> split <;> omega
structure Shape (d : Nat) (P : List Int) : Prop where
  len : P.length = d + 1
  top : P.getD d 0 = 1
  pal : ∀ i j, i + j = d → P.getD i 0 = sgnN d * P.getD j 0
  two : d = 2 → P.getD 1 0 = -2
theorem tr_len {P : List Int} (h : Tr P) {d : Nat} (h1 : P.getD d 0 ≠ 0) (h2 : ∀ i, d < i → P.getD i 0 = 0) : P.length = d + 1 := by
  have a : d < P.length := by
    refine Classical.byContradiction fun z => h1 ?_
    exact getD_over (by omega)
  rcases Nat.lt_or_ge (d + 1) P.length with c | c
  · exact absurd (h2 (P.length - 1) (by omega)) (h (by omega))
  · omega
theorem Shape.step {d : Nat} {lo gr : List Int} (h : Shape d lo) (hg : gr = [] ∨ ∃ e, d = e + 1 ∧ Shape e gr) (h1 : d = 1 → gr = []) : Shape (d + 1) (comeD lo gr) := by
  have gd : ∀ i, d ≤ i → gr.getD i 0 = 0 := fun i hi => by
    rcases hg with rfl | ⟨e, he, hs⟩
    · rfl
    · exact getD_over (by rw [hs.len]; omega)
  have ld : ∀ i, d < i → lo.getD i 0 = 0 := fun i hi => getD_over (by rw [h.len]; omega)
  have gp : ∀ i j, i + j + 1 = d → gr.getD i 0 = - (sgnN d * gr.getD j 0) := fun i j e => by
    rcases hg with rfl | ⟨e', he, hs⟩
    · have z : ∀ i, ([] : List Int).getD i 0 = 0 := fun i => rfl
      rw [z, z]; omega
    · have := hs.pal i j (by omega)
      rw [this, he, sgn_succ, Int.neg_mul, Int.neg_neg]
  have c : ∀ i, (comeD lo gr).getD i 0 = ahd lo i + ahd gr i - lo.getD i 0 := comeD_getD lo gr
  have top : (comeD lo gr).getD (d + 1) 0 = 1 := by
    rw [c]
    unfold ahd
    rw [if_neg (by omega), if_neg (by omega), Nat.add_sub_cancel, h.top, gd d (Nat.le_refl _), ld (d + 1) (by omega)]; rfl
  refine ⟨tr_len (comeD_tr _ _) (by rw [top]; decide) (fun i hi => ?_), top, fun i j e => ?_, fun e => ?_⟩
  · rw [c]
    unfold ahd
    rw [if_neg (by omega), if_neg (by omega), ld (i - 1) (by omega), gd (i - 1) (by omega), ld i (by omega)]; rfl
  · rw [c, c, sgn_succ]
    -- the three parts
    have p1 : ahd lo i = sgnN d * lo.getD j 0 := by
      unfold ahd
      by_cases hi : i = 0
      · rw [if_pos hi, ld j (by omega)]; omega
      · rw [if_neg hi]; exact h.pal (i - 1) j (by omega)
    have p2 : lo.getD i 0 = sgnN d * ahd lo j := by
      unfold ahd
      by_cases hj : j = 0
      · rw [if_pos hj, ld i (by omega)]; omega
      · rw [if_neg hj]; exact h.pal i (j - 1) (by omega)
    have p3 : ahd gr i = - (sgnN d * ahd gr j) := by
      unfold ahd
      by_cases hi : i = 0
      · rw [if_pos hi, if_neg (by omega), gd (j - 1) (by omega)]; omega
      · rw [if_neg hi]
        by_cases hj : j = 0
        · rw [if_pos hj, gd (i - 1) (by omega)]; omega
        · rw [if_neg hj]; exact gp (i - 1) (j - 1) (by omega)
    rw [p1, p2, p3, Int.neg_mul, Int.mul_sub, Int.mul_add]
    omega
  · have e1 : d = 1 := by omega
    subst e1
    rw [h1 rfl, comeD_getD]
    unfold ahd
    have a := h.pal 0 1 (by omega)
    have b := h.top
    rw [b] at a
    rw [if_neg (by decide), if_neg (by decide)]
    show lo.getD 0 0 + 0 - lo.getD 1 0 = -2
    rw [a, b]; decide
theorem Shape.one : Shape 0 [1] := ⟨rfl, rfl, fun i j e => by rw [show i = 0 by omega, show j = 0 by omega]; decide, fun e => by omega⟩
end MM
namespace MM
open PySem PySem.Spec PyProof.Rows L2 GxR
end MM
namespace MM
open PySem PySem.Spec PyProof.Rows L2 GxR
/-! ### what may be left out of a book, while a row still comes -/
/-- at which meetings the two change, of goings that take a turned pair at each change -/
def bL (m : Nat) : List Int → List Int → List (List Bool)
  | [], y => if y = row0 m then [[]] else []
  | g :: gs, y => (if y.getD (g.toNat + 1) 0 < y.getD g.toNat 0 then (bL m gs (swL y g.toNat)).map (true :: ·) else []) ++ (bL m gs y).map (false :: ·)
/-- the places of the others -/
def unu : Nat → List Bool → List Nat
  | _, [] => []
  | k, b :: c => if b = true then unu (k + 1) c else k :: unu (k + 1) c
def gLf (m : Nat) (gs : List Int) (k : Nat) (y : List Int) : List (List Nat) := (bL m gs y).map (unu k)
theorem gLf_nil (m k : Nat) (y : List Int) : gLf m [] k y = if y = row0 m then [[]] else [] := by
  unfold gLf bL
  split <;> rfl
theorem gLf_cons (m : Nat) (g : Int) (gs : List Int) (k : Nat) (y : List Int) : gLf m (g :: gs) k y = (if y.getD (g.toNat + 1) 0 < y.getD g.toNat 0 then gLf m gs (k + 1) (swL y g.toNat) else []) ++ (gLf m gs (k + 1) y).map (k :: ·) := by
  unfold gLf
  show List.map _ (_ ++ _) = _
  rw [List.map_append, List.map_map, List.map_map]
  congr 1
  split
  · rw [List.map_map]; rfl
  · rfl
/-- the lesser of two rows alike but at one gap lies below what the greater does -/
theorem less_more {m g : Nat} {x r : List Int} (hg : g + 1 < m) (hr : IsRow x) (hl : x.length = m) (hrr : IsRow r) (hlr : r.length = m) (h : x.getD g 0 < x.getD (g + 1) 0) (z : more (swL x g) r = []) : more x r = [] := by
  have hgx : g + 1 < x.length := by omega
  have hoff := ((Like.sw hgx hr).off (Like.self hrr)).mp (bel_off (g := g) z)
  exact (off_iff (g := g) hgx (by omega) (.inl (Int.le_of_lt h))).mpr hoff
theorem dn_more {m : Nat} {gs x : List Int} (h1 : 1 ≤ m) (h9 : m ≤ 9) (hb : BookOk m gs) (hr : IsRow x) (hl : x.length = m) : more x (farL (row0 m) gs.reverse) = [] ↔ dnL gs x = row0 m := by
  have hb' := book_rev hb
  have e := come_all h1 h9 hb' hr hl
  rw [List.reverse_reverse] at e
  rw [← e, come_far h1 h9 hb' hr hl]
theorem dn_less {m g : Nat} {gs x : List Int} (h1 : 1 ≤ m) (h9 : m ≤ 9) (hb : BookOk m gs) (hg : g + 1 < m) (hr : IsRow x) (hl : x.length = m) (h : x.getD (g + 1) 0 < x.getD g 0) (z : dnL gs x = row0 m) : dnL gs (swL x g) = row0 m := by
  have hgx : g + 1 < x.length := by omega
  have hrs := sw_row hgx hr
  have hls : (swL x g).length = m := by rw [sw_len hgx]; exact hl
  rw [← dn_more h1 h9 hb hrs hls]
  rw [← dn_more h1 h9 hb hr hl] at z
  obtain ⟨rr, rl⟩ := farL_ok (book_rev hb) (row0_row h1 h9) (row0_len m)
  refine less_more hg hrs hls rr rl (by rw [(sw_g hgx).1, (sw_g hgx).2]; exact h) ?_
  rw [sw_sw hgx]; exact z
theorem bL_ne {m : Nat} (h1 : 1 ≤ m) (h9 : m ≤ 9) : ∀ {gs y : List Int}, BookOk m gs → IsRow y → y.length = m → (bL m gs y ≠ [] ↔ dnL gs y = row0 m)
  | [], y, _, _, _ => by
    show (if y = row0 m then [[]] else [] : List (List Bool)) ≠ [] ↔ y = row0 m
    split
    · rename_i h; exact ⟨fun _ => h, fun _ => List.cons_ne_nil _ _⟩
    · rename_i h; exact ⟨fun z => absurd rfl z, fun z => absurd z h⟩
  | g :: gs, y, hb, hr, hl => by
    have hg := hb g List.mem_cons_self
    have hb' : BookOk m gs := fun z hz => hb z (List.mem_cons_of_mem _ hz)
    have hgx : g.toNat + 1 < y.length := by omega
    have i1 := bL_ne h1 h9 hb' hr hl
    have i2 := bL_ne h1 h9 hb' (sw_row hgx hr) (by rw [sw_len hgx]; exact hl)
    have hne := row_ne hr hgx
    show (if y.getD (g.toNat + 1) 0 < y.getD g.toNat 0 then (bL m gs (swL y g.toNat)).map (true :: ·) else []) ++ (bL m gs y).map (false :: ·) ≠ [] ↔ dnL gs (lowS y g.toNat) = row0 m
    unfold lowS
    by_cases c : y.getD (g.toNat + 1) 0 < y.getD g.toNat 0
    · rw [if_pos c, if_neg (by omega)]
      rw [← i2]
      constructor
      · intro h z
        have hz : bL m gs y = [] := Classical.byContradiction fun w => i2.mpr (dn_less h1 h9 hb' (by omega) hr hl c (i1.mp w)) z
        rw [z, hz] at h
        exact h rfl
      · intro h z
        have := (List.append_eq_nil_iff.mp z).1
        exact h (List.map_eq_nil_iff.mp this)
    · rw [if_neg c, if_pos (by omega), List.nil_append, ← i1]
      exact ⟨fun h z => h (by rw [z]; rfl), fun h z => h (List.map_eq_nil_iff.mp z)⟩
theorem gLf_ne {m : Nat} (h1 : 1 ≤ m) (h9 : m ≤ 9) {gs y : List Int} {k : Nat} (hb : BookOk m gs) (hr : IsRow y) (hl : y.length = m) : gLf m gs k y ≠ [] ↔ dnL gs y = row0 m := by
  rw [← bL_ne h1 h9 hb hr hl]
  unfold gLf
  exact ⟨fun h z => h (by rw [z]; rfl), fun h z => h (List.map_eq_nil_iff.mp z)⟩
theorem bL_two (m : Nat) : ∀ gs y : List Int, (bL m gs y).length ≤ 2 ^ gs.length
  | [], y => by
    show (if y = row0 m then [[]] else [] : List (List Bool)).length ≤ 1
    split <;> simp
  | g :: gs, y => by
    show ((if y.getD (g.toNat + 1) 0 < y.getD g.toNat 0 then (bL m gs (swL y g.toNat)).map (true :: ·) else []) ++ (bL m gs y).map (false :: ·)).length ≤ 2 ^ (gs.length + 1)
    have a := bL_two m gs y
    have b := bL_two m gs (swL y g.toNat)
    rw [List.length_append, List.length_map, Nat.pow_succ]
    split
    · rw [List.length_map]; omega
    · show 0 + _ ≤ _; omega
/-- the word of the changes -/
def selW : List Int → List Bool → List Nat
  | g :: gs, true :: c => g.toNat :: selW gs c
  | _ :: gs, false :: c => selW gs c
  | _, _ => []
theorem mem_bL {m : Nat} : ∀ {gs y : List Int} {c : List Bool}, BookOk m gs → IsRow y → y.length = m → (c ∈ bL m gs y ↔ c.length = gs.length ∧ runW y (selW gs c) = row0 m ∧ c.count true = pairsN y)
  | [], y, c, _, hr, hl => by
    show c ∈ (if y = row0 m then [[]] else [] : List (List Bool)) ↔ _
    constructor
    · intro h
      split at h
      · rename_i e
        rw [List.mem_singleton.mp h]
        exact ⟨rfl, e, by rw [e, pairs_row00]; rfl⟩
      · exact nomatch h
    · rintro ⟨a, b, _⟩
      have ec := List.length_eq_zero_iff.mp a
      subst ec
      have b : y = row0 m := b
      rw [if_pos b]; exact List.mem_singleton.mpr rfl
  | g :: gs, y, c, hb, hr, hl => by
    have hg := hb g List.mem_cons_self
    have hb' : BookOk m gs := fun z hz => hb z (List.mem_cons_of_mem _ hz)
    have hgx : g.toNat + 1 < y.length := by omega
    have hrs := sw_row hgx hr
    have hls : (swL y g.toNat).length = m := by rw [sw_len hgx]; exact hl
    have hne := row_ne hr hgx
    show c ∈ (if y.getD (g.toNat + 1) 0 < y.getD g.toNat 0 then (bL m gs (swL y g.toNat)).map (true :: ·) else []) ++ (bL m gs y).map (false :: ·) ↔ _
    rw [List.mem_append]
    cases c with
    | nil =>
      refine ⟨fun h => ?_, fun h => by have := h.1; simp at this⟩
      rcases h with h | h
      · split at h
        · obtain ⟨_, _, e⟩ := List.mem_map.mp h; cases e
        · exact nomatch h
      · obtain ⟨_, _, e⟩ := List.mem_map.mp h; cases e
    | cons b c =>
      cases b with
      | false =>
        have i1 := mem_bL (c := c) hb' hr hl
        constructor
        · intro h
          rcases h with h | h
          · split at h
            · obtain ⟨_, _, e⟩ := List.mem_map.mp h; cases e
            · exact nomatch h
          · obtain ⟨c', hc, e⟩ := List.mem_map.mp h
            cases e
            obtain ⟨a1, a2, a3⟩ := i1.mp hc
            exact ⟨by rw [List.length_cons, List.length_cons, a1], a2, by rw [List.count_cons]; simpa using a3⟩
        · rintro ⟨a1, a2, a3⟩
          refine .inr (List.mem_map.mpr ⟨c, i1.mpr ⟨by simpa using a1, a2, ?_⟩, rfl⟩)
          rw [List.count_cons] at a3; simpa using a3
      | true =>
        have i2 := mem_bL (c := c) hb' hrs hls
        constructor
        · intro h
          rcases h with h | h
          · split at h
            · rename_i hd
              obtain ⟨c', hc, e⟩ := List.mem_map.mp h
              cases e
              obtain ⟨a1, a2, a3⟩ := i2.mp hc
              have := pairs_desc hgx hd
              exact ⟨by rw [List.length_cons, List.length_cons, a1], a2, by rw [List.count_cons]; simp; omega⟩
            · exact nomatch h
          · obtain ⟨c', hc, e⟩ := List.mem_map.mp h; cases e
        · rintro ⟨a1, a2, a3⟩
          have a1' : c.length = gs.length := by simpa using a1
          have a2' : runW (swL y g.toNat) (selW gs c) = row0 m := a2
          rw [List.count_cons] at a3
          have a3' : c.count true + 1 = pairsN y := by simpa using a3
          have hsel : (selW gs c).length = c.count true ∧ ∀ z ∈ selW gs c, z + 1 < m := by
            clear a2 a2' a3 a3' a1 i2
            revert a1' hb'
            clear hb
            induction gs generalizing c with
            | nil => intro _ h; rw [List.length_eq_zero_iff.mp h]; exact ⟨rfl, fun z hz => nomatch hz⟩
            | cons h t ih =>
              intro hb2 hc
              cases c with
              | nil => simp at hc
              | cons b c =>
                have hb3 : BookOk m t := fun z hz => hb2 z (List.mem_cons_of_mem _ hz)
                obtain ⟨j1, j2⟩ := ih (c := c) hb3 (by simpa using hc)
                cases b with
                | false => exact ⟨by rw [List.count_cons]; show (selW t c).length = _; simpa using j1, j2⟩
                | true =>
                  refine ⟨by rw [List.count_cons]; show (selW t c).length + 1 = _; rw [j1]; simp, fun z hz => ?_⟩
                  rcases List.mem_cons.mp hz with rfl | hz
                  · have := hb2 h List.mem_cons_self; omega
                  · exact j2 z hz
          have hrp := run_pairs hsel.2 hrs hls
          rw [a2', pairs_row00, hsel.1] at hrp
          have hd : y.getD (g.toNat + 1) 0 < y.getD g.toNat 0 := Classical.byContradiction fun z => by
            have := pairs_sw hgx (show y.getD g.toNat 0 < y.getD (g.toNat + 1) 0 by omega)
            omega
          have := pairs_desc hgx hd
          refine .inl ?_
          rw [if_pos hd]
          exact List.mem_map.mpr ⟨c, i2.mpr ⟨a1', a2', by omega⟩, rfl⟩
end MM
namespace MM
open PySem PySem.Spec PyProof.Rows L2 GxR
/-! ### tables of what is left to do, with the leavings so far -/
abbrev Tb := List (List Int × List (List Nat))
def extT (acc : Tb) (y : List Int) (Ls : List (List Nat)) : Tb := if y ∈ acc.map (·.1) then acc.map (fun e => if e.1 = y then (e.1, e.2 ++ Ls) else e) else acc ++ [(y, Ls)]
def flatT (T : Tb) : List (List Int × List Nat) := T.flatMap fun e => e.2.map fun L => (e.1, L)
theorem extT_keys (acc : Tb) (y : List Int) (Ls : List (List Nat)) : (extT acc y Ls).map (·.1) = if y ∈ acc.map (·.1) then acc.map (·.1) else acc.map (·.1) ++ [y] := by
  unfold extT
  split
  · rw [List.map_map]
    refine List.map_congr_left fun e _ => ?_
    show (if e.1 = y then (e.1, e.2 ++ Ls) else e).1 = e.1
    split <;> rfl
  · rw [List.map_append]; rfl
theorem extT_nd {acc : Tb} {y : List Int} {Ls : List (List Nat)} (h : (acc.map (·.1)).Nodup) : ((extT acc y Ls).map (·.1)).Nodup := by
  rw [extT_keys]
  split
  · exact h
  · rename_i hn
    rw [List.nodup_append]
    refine ⟨h, by simp, fun a ha b hb e => hn ?_⟩
    rw [List.mem_singleton.mp hb] at e
    rw [← e]; exact ha
theorem extT_mem {acc : Tb} {y : List Int} {Ls : List (List Nat)} {e : List Int × List (List Nat)} (h : e ∈ extT acc y Ls) : (∃ e' ∈ acc, e.1 = e'.1 ∧ (e.2 = e'.2 ∨ e.2 = e'.2 ++ Ls)) ∨ e = (y, Ls) := by
  unfold extT at h
  split at h
  · obtain ⟨e', he, r⟩ := List.mem_map.mp h
    split at r
    · rw [← r]; exact .inl ⟨e', he, rfl, .inr rfl⟩
    · rw [← r]; exact .inl ⟨e', he, rfl, .inl rfl⟩
  · rcases List.mem_append.mp h with h | h
    · exact .inl ⟨e, h, rfl, .inl rfl⟩
    · exact .inr (List.mem_singleton.mp h)
theorem flat_cons (e : List Int × List (List Nat)) (T : Tb) : flatT (e :: T) = (e.2.map fun L => (e.1, L)) ++ flatT T := List.flatMap_cons ..
theorem extT_flat {y : List Int} {Ls : List (List Nat)} : ∀ {acc : Tb}, (acc.map (·.1)).Nodup → (flatT (extT acc y Ls)).Perm (flatT acc ++ Ls.map fun L => (y, L))
  | [], _ => by
    show (flatT [(y, Ls)]).Perm _
    rw [flat_cons]
    show ((Ls.map fun L => (y, L)) ++ []).Perm ([] ++ Ls.map fun L => (y, L))
    rw [List.append_nil, List.nil_append]
  | e :: acc, h => by
    rw [List.map_cons, List.nodup_cons] at h
    obtain ⟨h1, h2⟩ := h
    have ih := extT_flat (y := y) (Ls := Ls) h2
    by_cases c : e.1 = y
    · have hin : y ∈ (e :: acc).map (·.1) := by rw [← c]; exact List.mem_cons_self
      have hrest : acc.map (fun e => if e.1 = y then (e.1, e.2 ++ Ls) else e) = acc := by
        conv => rhs; rw [← List.map_id acc]
        refine List.map_congr_left fun e' he => ?_
        rw [if_neg fun z => h1 (by rw [c, ← z]; exact List.mem_map.mpr ⟨e', he, rfl⟩)]; rfl
      unfold extT
      rw [if_pos hin, List.map_cons, if_pos c, hrest, flat_cons, flat_cons]
      show (((e.2 ++ Ls).map fun L => (e.1, L)) ++ flatT acc).Perm _
      rw [List.map_append, List.append_assoc, List.append_assoc, c]
      exact (List.perm_append_comm).append_left _
    · have hiff : y ∈ (e :: acc).map (·.1) ↔ y ∈ acc.map (·.1) := by
        rw [List.map_cons, List.mem_cons]
        exact ⟨fun z => z.elim (fun w => absurd w.symm c) id, .inr⟩
      have he : extT (e :: acc) y Ls = e :: extT acc y Ls := by
        unfold extT
        by_cases d : y ∈ acc.map (·.1)
        · rw [if_pos (hiff.mpr d), if_pos d, List.map_cons, if_neg c]
        · rw [if_neg fun z => d (hiff.mp z), if_neg d]; rfl
      rw [he, flat_cons, flat_cons, List.append_assoc]
      exact ih.append_left _
/-- one entry's part of the table behind one meeting more -/
def stepT (g k : Nat) (beh : List Int) (acc : Tb) (e : List Int × List (List Nat)) : Tb :=
  let acc1 := if e.1.getD g 0 < e.1.getD (g + 1) 0 then acc else extT acc (swL e.1 g) e.2
  if e.1.getD g 0 < e.1.getD (g + 1) 0 ∨ more e.1 beh = [] then extT acc1 e.1 (e.2.map (· ++ [k])) else acc1
def withM (g k : Nat) (beh : List Int) (T : Tb) : Tb := T.foldl (stepT g k beh) []
theorem stepT_nd {g k : Nat} {beh : List Int} {acc : Tb} {e : List Int × List (List Nat)} (h : (acc.map (·.1)).Nodup) : ((stepT g k beh acc e).map (·.1)).Nodup := by
  unfold stepT
  have h1 : ((if e.1.getD g 0 < e.1.getD (g + 1) 0 then acc else extT acc (swL e.1 g) e.2).map (·.1)).Nodup := by
    split
    · exact h
    · exact extT_nd h
  dsimp only
  split
  · exact extT_nd h1
  · exact h1
theorem foldT_nd {g k : Nat} {beh : List Int} : ∀ {T acc : Tb}, (acc.map (·.1)).Nodup → ((T.foldl (stepT g k beh) acc).map (·.1)).Nodup
  | [], _, h => h
  | e :: T, acc, h => foldT_nd (T := T) (stepT_nd (e := e) h)
/-- how a table's leavings go on to the book's end -/
def compT (m : Nat) (gs : List Int) (k : Nat) (F : List (List Int × List Nat)) : List (List Nat) := F.flatMap fun p => (gLf m gs k p.1).map (p.2 ++ ·)
theorem comp_app (m : Nat) (gs : List Int) (k : Nat) (A B : List (List Int × List Nat)) : compT m gs k (A ++ B) = compT m gs k A ++ compT m gs k B := List.flatMap_append ..
theorem comp_perm {m : Nat} {gs : List Int} {k : Nat} {A B : List (List Int × List Nat)} (h : A.Perm B) : (compT m gs k A).Perm (compT m gs k B) := h.flatMap_right _
theorem comp_entry (m : Nat) (gs : List Int) (k : Nat) (y : List Int) (Ls : List (List Nat)) : compT m gs k (Ls.map fun L => (y, L)) = Ls.flatMap fun L => (gLf m gs k y).map (L ++ ·) := by
  unfold compT
  rw [List.flatMap_map]
theorem flatMap_two {α β : Type} (f h : α → List β) : ∀ L : List α, (L.flatMap fun x => f x ++ h x).Perm (L.flatMap f ++ L.flatMap h)
  | [] => List.Perm.refl _
  | a :: L => by
    rw [List.flatMap_cons, List.flatMap_cons, List.flatMap_cons, List.append_assoc, List.append_assoc]
    refine List.Perm.append_left _ ?_
    have ih := flatMap_two f h L
    refine (ih.append_left _).trans ?_
    rw [← List.append_assoc, ← List.append_assoc]
    exact List.perm_append_comm.append_right _
theorem step_comp {m : Nat} {g : Int} {gs beh : List Int} {k : Nat} {acc : Tb} {e : List Int × List (List Nat)} (hn : (acc.map (·.1)).Nodup) (hne : e.1.getD g.toNat 0 ≠ e.1.getD (g.toNat + 1) 0) (hb : more e.1 beh = [] ↔ gLf m gs (k + 1) e.1 ≠ []) :
    (compT m gs (k + 1) (flatT (stepT g.toNat k beh acc e))).Perm (compT m gs (k + 1) (flatT acc) ++ compT m (g :: gs) k (e.2.map fun L => (e.1, L))) := by
  have stay : ∀ {A : Tb}, (A.map (·.1)).Nodup → (e.1.getD g.toNat 0 < e.1.getD (g.toNat + 1) 0 ∨ more e.1 beh = [] ∨ gLf m gs (k + 1) e.1 = []) →
      (compT m gs (k + 1) (flatT (if e.1.getD g.toNat 0 < e.1.getD (g.toNat + 1) 0 ∨ more e.1 beh = [] then extT A e.1 (e.2.map (· ++ [k])) else A))).Perm (compT m gs (k + 1) (flatT A) ++ e.2.flatMap fun L => (gLf m gs (k + 1) e.1).map fun u => L ++ k :: u) := fun {A} hA hc => by
    have eq : (e.2.flatMap fun L => (gLf m gs (k + 1) e.1).map fun u => L ++ k :: u) = compT m gs (k + 1) ((e.2.map (· ++ [k])).map fun L => (e.1, L)) := by
      rw [comp_entry, List.flatMap_map]
      congr 1
      funext L
      refine List.map_congr_left fun u _ => ?_
      rw [List.append_assoc]; rfl
    split
    · refine (comp_perm (extT_flat hA)).trans ?_
      rw [comp_app, eq]
    · rename_i hcc
      have hz : gLf m gs (k + 1) e.1 = [] := by
        rcases hc with z | z | z
        · exact absurd (.inl z) hcc
        · exact absurd (.inr z) hcc
        · exact z
      have : (e.2.flatMap fun L => (gLf m gs (k + 1) e.1).map fun u => L ++ k :: u) = [] := by
        rw [hz]
        exact List.flatMap_eq_nil_iff.mpr fun _ _ => rfl
      rw [this, List.append_nil]
  have hall : e.1.getD g.toNat 0 < e.1.getD (g.toNat + 1) 0 ∨ more e.1 beh = [] ∨ gLf m gs (k + 1) e.1 = [] := by
    by_cases z : gLf m gs (k + 1) e.1 = []
    · exact .inr (.inr z)
    · exact .inr (.inl (hb.mpr z))
  rw [comp_entry]
  by_cases c : e.1.getD g.toNat 0 < e.1.getD (g.toNat + 1) 0
  · have e1 : (e.2.flatMap fun L => (gLf m (g :: gs) k e.1).map (L ++ ·)) = e.2.flatMap fun L => (gLf m gs (k + 1) e.1).map fun u => L ++ k :: u := by
      congr 1
      funext L
      rw [gLf_cons, if_neg (by omega), List.nil_append, List.map_map]; rfl
    rw [e1]
    have key := stay hn hall
    unfold stepT
    dsimp only
    rw [if_pos c] at *
    exact key
  · have e1 : (e.2.flatMap fun L => (gLf m (g :: gs) k e.1).map (L ++ ·)).Perm ((e.2.flatMap fun L => (gLf m gs (k + 1) (swL e.1 g.toNat)).map (L ++ ·)) ++ e.2.flatMap fun L => (gLf m gs (k + 1) e.1).map fun u => L ++ k :: u) := by
      refine List.Perm.trans ?_ (flatMap_two _ _ _)
      refine List.Perm.of_eq ?_
      congr 1
      funext L
      rw [gLf_cons, if_pos (by omega), List.map_append, List.map_map]; rfl
    have hA : ((extT acc (swL e.1 g.toNat) e.2).map (·.1)).Nodup := extT_nd hn
    have key := stay hA hall
    have k2 := comp_perm (m := m) (gs := gs) (k := k + 1) (extT_flat (y := swL e.1 g.toNat) (Ls := e.2) hn)
    rw [comp_app, comp_entry] at k2
    unfold stepT
    dsimp only
    rw [if_neg c]
    refine key.trans ?_
    refine (k2.append_right _).trans ?_
    rw [List.append_assoc]
    exact (e1.symm).append_left _
end MM
namespace MM
open PySem PySem.Spec PyProof.Rows L2 GxR
/-- a table behind k meetings: all that stands in it can be led on to the end -/
structure TbOk (m : Nat) (gs : List Int) (k : Nat) (T : Tb) : Prop where
  nd : (T.map (·.1)).Nodup
  row : ∀ e ∈ T, IsRow e.1 ∧ e.1.length = m ∧ dnL (gs.drop k) e.1 = row0 m ∧ e.2 ≠ [] ∧ ∀ L ∈ e.2, L.length ≤ k ∧ ∀ z ∈ L, z < k
theorem fold_comp {m : Nat} {g : Int} {gs beh : List Int} {k : Nat} : ∀ {T acc : Tb}, (acc.map (·.1)).Nodup → (∀ e ∈ T, e.1.getD g.toNat 0 ≠ e.1.getD (g.toNat + 1) 0 ∧ (more e.1 beh = [] ↔ gLf m gs (k + 1) e.1 ≠ [])) →
    (compT m gs (k + 1) (flatT (T.foldl (stepT g.toNat k beh) acc))).Perm (compT m gs (k + 1) (flatT acc) ++ compT m (g :: gs) k (flatT T))
  | [], acc, _, _ => by
    show (compT m gs (k + 1) (flatT acc)).Perm (_ ++ [])
    rw [List.append_nil]
  | e :: T, acc, hn, h => by
    obtain ⟨a, b⟩ := h e List.mem_cons_self
    have s := step_comp (m := m) (gs := gs) (k := k) (acc := acc) hn a b
    have ih := fold_comp (m := m) (g := g) (gs := gs) (beh := beh) (k := k) (T := T) (stepT_nd (g := g.toNat) (k := k) (beh := beh) (e := e) hn) fun e' he => h e' (List.mem_cons_of_mem _ he)
    rw [flat_cons, comp_app]
    refine ih.trans ?_
    rw [← List.append_assoc]
    exact s.append_right _
theorem stepT_mem {g k : Nat} {beh : List Int} {acc : Tb} {e x : List Int × List (List Nat)} (Pr : List Int → Prop) (Pl : List Nat → Prop) (ha : ∀ x ∈ acc, Pr x.1 ∧ x.2 ≠ [] ∧ ∀ L ∈ x.2, Pl L) (he : e.2 ≠ [] ∧ ∀ L ∈ e.2, Pl L ∧ Pl (L ++ [k]))
    (h1 : ¬ e.1.getD g 0 < e.1.getD (g + 1) 0 → Pr (swL e.1 g)) (h2 : e.1.getD g 0 < e.1.getD (g + 1) 0 ∨ more e.1 beh = [] → Pr e.1) (hx : x ∈ stepT g k beh acc e) : Pr x.1 ∧ x.2 ≠ [] ∧ ∀ L ∈ x.2, Pl L := by
  have ext : ∀ {A : Tb} {y : List Int} {Ls : List (List Nat)} {x}, (∀ x ∈ A, Pr x.1 ∧ x.2 ≠ [] ∧ ∀ L ∈ x.2, Pl L) → Pr y → Ls ≠ [] → (∀ L ∈ Ls, Pl L) → x ∈ extT A y Ls → Pr x.1 ∧ x.2 ≠ [] ∧ ∀ L ∈ x.2, Pl L := fun {A y Ls x} hA hy hne hL hx => by
    rcases extT_mem hx with ⟨e', he', r1, r2⟩ | r
    · obtain ⟨a, b, c⟩ := hA e' he'
      rcases r2 with r2 | r2
      · rw [r1, r2]; exact ⟨a, b, c⟩
      · rw [r1, r2]
        exact ⟨a, fun z => b (List.append_eq_nil_iff.mp z).1, fun L h => (List.mem_append.mp h).elim (c L) (hL L)⟩
    · rw [r]; exact ⟨hy, hne, hL⟩
  unfold stepT at hx
  dsimp only at hx
  have hA : ∀ x ∈ (if e.1.getD g 0 < e.1.getD (g + 1) 0 then acc else extT acc (swL e.1 g) e.2), Pr x.1 ∧ x.2 ≠ [] ∧ ∀ L ∈ x.2, Pl L := fun x hx => by
    split at hx
    · exact ha x hx
    · rename_i c
      exact ext ha (h1 c) he.1 (fun L h => (he.2 L h).1) hx
  split at hx
  · rename_i c
    refine ext hA (h2 c) (fun z => he.1 (List.map_eq_nil_iff.mp z)) (fun L h => ?_) hx
    obtain ⟨L', hL', rfl⟩ := List.mem_map.mp h
    exact (he.2 L' hL').2
  · exact hA x hx
theorem withM_ok {m : Nat} {gs beh : List Int} {k : Nat} {T : Tb} (h1 : 1 ≤ m) (h9 : m ≤ 9) (hb : BookOk m gs) (hk : k < gs.length) (h : TbOk m gs k T) (hbeh : ∀ y, IsRow y → y.length = m → (more y beh = [] ↔ dnL (gs.drop (k + 1)) y = row0 m)) :
    TbOk m gs (k + 1) (withM (gapN gs k) k beh T) := by
  have hg := gap_lt hb hk
  have ed : gs.drop k = gs[k] :: gs.drop (k + 1) := List.drop_eq_getElem_cons hk
  have eg : gs[k].toNat = gapN gs k := by unfold gapN; rw [List.getD_eq_getElem?_getD, List.getElem?_eq_getElem hk]; rfl
  refine ⟨foldT_nd List.nodup_nil, ?_⟩
  have key : ∀ (L : Tb) (acc : Tb), (∀ e ∈ L, e ∈ T) → (∀ x ∈ acc, (IsRow x.1 ∧ x.1.length = m ∧ dnL (gs.drop (k + 1)) x.1 = row0 m) ∧ x.2 ≠ [] ∧ ∀ L ∈ x.2, L.length ≤ k + 1 ∧ ∀ z ∈ L, z < k + 1) →
      ∀ x ∈ L.foldl (stepT (gapN gs k) k beh) acc, (IsRow x.1 ∧ x.1.length = m ∧ dnL (gs.drop (k + 1)) x.1 = row0 m) ∧ x.2 ≠ [] ∧ ∀ L ∈ x.2, L.length ≤ k + 1 ∧ ∀ z ∈ L, z < k + 1 := by
    intro L
    induction L with
    | nil => exact fun acc _ ha => ha
    | cons e L ih =>
      intro acc hL ha
      obtain ⟨r1, r2, r3, r4, r5⟩ := h.row e (hL e List.mem_cons_self)
      have hgx : gapN gs k + 1 < e.1.length := by omega
      rw [ed] at r3
      have r3 : dnL (gs.drop (k + 1)) (lowS e.1 (gs[k].toNat)) = row0 m := r3
      rw [eg] at r3
      unfold lowS at r3
      refine ih _ (fun e' he => hL e' (List.mem_cons_of_mem _ he)) fun x hx => ?_
      refine stepT_mem (fun y => IsRow y ∧ y.length = m ∧ dnL (gs.drop (k + 1)) y = row0 m) (fun L => L.length ≤ k + 1 ∧ ∀ z ∈ L, z < k + 1) ha ⟨r4, fun L hL => ?_⟩ (fun c => ?_) (fun c => ?_) hx
      · obtain ⟨a, b⟩ := r5 L hL
        refine ⟨⟨by omega, fun z hz => by have := b z hz; omega⟩, by rw [List.length_append]; simpa using a, fun z hz => ?_⟩
        rcases List.mem_append.mp hz with h | h
        · have := b z h; omega
        · rw [List.mem_singleton.mp h]; omega
      · rw [if_neg c] at r3
        exact ⟨sw_row hgx r1, by rw [sw_len hgx]; exact r2, r3⟩
      · refine ⟨r1, r2, ?_⟩
        rcases c with c | c
        · rw [if_pos c] at r3; exact r3
        · exact (hbeh _ r1 r2).mp c
  intro x hx
  obtain ⟨⟨a, b, c⟩, d, e⟩ := key T [] (fun e he => he) (fun x hx => nomatch hx) x hx
  exact ⟨a, b, c, d, e⟩
theorem withM_comp {m : Nat} {gs beh : List Int} {k : Nat} {T : Tb} (h1 : 1 ≤ m) (h9 : m ≤ 9) (hb : BookOk m gs) (hk : k < gs.length) (h : TbOk m gs k T) (hbeh : ∀ y, IsRow y → y.length = m → (more y beh = [] ↔ dnL (gs.drop (k + 1)) y = row0 m)) :
    (compT m (gs.drop (k + 1)) (k + 1) (flatT (withM (gapN gs k) k beh T))).Perm (compT m (gs.drop k) k (flatT T)) := by
  have hg := gap_lt hb hk
  have ed : gs.drop k = gs[k] :: gs.drop (k + 1) := List.drop_eq_getElem_cons hk
  have eg : gs[k].toNat = gapN gs k := by unfold gapN; rw [List.getD_eq_getElem?_getD, List.getElem?_eq_getElem hk]; rfl
  have hbd : BookOk m (gs.drop (k + 1)) := fun x hx => hb x (List.mem_of_mem_drop hx)
  have key := fold_comp (m := m) (g := gs[k]) (gs := gs.drop (k + 1)) (beh := beh) (k := k) (T := T) (acc := []) List.nodup_nil fun e he => by
    obtain ⟨r1, r2, _⟩ := h.row e he
    rw [eg]
    exact ⟨row_ne r1 (by omega), by rw [hbeh _ r1 r2, gLf_ne h1 h9 hbd r1 r2]⟩
  rw [eg] at key
  rw [ed]
  exact key
theorem flat_len (T : Tb) : (flatT T).length = (T.map fun e => e.2.length).sum := by
  unfold flatT
  rw [List.length_flatMap]
  congr 1
  exact List.map_congr_left fun e _ => List.length_map ..
theorem comp_le {m : Nat} {gs : List Int} {k : Nat} {T : Tb} (h1 : 1 ≤ m) (h9 : m ≤ 9) (hb : BookOk m gs) (h : TbOk m gs k T) : (T.map fun e => e.2.length).sum ≤ (compT m (gs.drop k) k (flatT T)).length := by
  have hbd : BookOk m (gs.drop k) := fun x hx => hb x (List.mem_of_mem_drop hx)
  rw [← flat_len]
  unfold compT
  rw [List.length_flatMap]
  have one : ∀ p ∈ flatT T, 1 ≤ ((gLf m (gs.drop k) k p.1).map (p.2 ++ ·)).length := fun p hp => by
    obtain ⟨e, he, hp⟩ := List.mem_flatMap.mp hp
    obtain ⟨L, _, rfl⟩ := List.mem_map.mp hp
    obtain ⟨r1, r2, r3, _⟩ := h.row e he
    rw [List.length_map]
    have := (gLf_ne (k := k) h1 h9 hbd r1 r2).mpr r3
    exact List.length_pos_iff.mpr this
  clear h
  generalize flatT T = F at one
  induction F with
  | nil => exact Nat.le_refl _
  | cons p F ih =>
    have a := one p List.mem_cons_self
    have b := ih fun q hq => one q (List.mem_cons_of_mem _ hq)
    rw [List.map_cons, List.sum_cons, List.length_cons]
    omega
/-- behind the last meeting one row is left -/
theorem last_T {m : Nat} {gs : List Int} {T : Tb} (h : TbOk m gs gs.length T) (hne : compT m [] gs.length (flatT T) ≠ []) : ∃ Ls, T = [(row0 m, Ls)] ∧ compT m [] gs.length (flatT T) = Ls := by
  have all : ∀ e ∈ T, e.1 = row0 m := fun e he => by
    obtain ⟨_, _, r3, _⟩ := h.row e he
    rw [List.drop_length] at r3
    exact r3
  have nd := h.nd
  cases T with
  | nil => exact absurd rfl hne
  | cons e T =>
    have e1 := all e List.mem_cons_self
    cases T with
    | cons e' T =>
      have e2 := all e' (List.mem_cons_of_mem _ List.mem_cons_self)
      rw [List.map_cons, List.map_cons, e1, e2, List.nodup_cons] at nd
      exact absurd List.mem_cons_self nd.1
    | nil =>
      refine ⟨e.2, by rw [← e1], ?_⟩
      show compT m [] gs.length (flatT [e]) = e.2
      rw [flat_cons]
      show compT m [] gs.length ((e.2.map fun L => (e.1, L)) ++ []) = e.2
      rw [List.append_nil, comp_entry, e1]
      have : (fun L : List Nat => (gLf m [] gs.length (row0 m)).map (L ++ ·)) = fun L => [L] := funext fun L => by
        rw [gLf_nil, if_pos rfl]
        show [L ++ []] = [L]
        rw [List.append_nil]
      rw [this]
      generalize e.2 = l
      induction l with
      | nil => rfl
      | cons a l ih => rw [List.flatMap_cons, ih]; rfl
end MM
namespace MM
open PySem PySem.Spec PyProof.Rows L2 GxR
/-! ### a def whose keyword-only parameters are left out -/
def CallDk (P : Program) (w : World) (K : PySem.W.Frag) (mg : Str → Option Value) (base : Heap) (k : Nat) (x : Str) (ps : List Str) (dvs : List V) (sp : Sp) : Prop :=
  ∃ f fd ds, FnG P w K mg base CX0 k f fd ps sp ∧ mg x = some (.ref f) ∧ PySem.W.keepIn K (.ref f) = true ∧ Binds K fd ps ds ∧ Vals dvs ds
section
variable {P : Program} {w : World} {K : PySem.W.Frag} {mg : Str → Option Value} {base : Heap} {f : Addr} {fd : FuncData} {x : Str} {st : Stmt} {ps N : List Str} {k : Nat} {sp : Sp} {kws : List (Str × V)}
theorem CallDk.le {j : Nat} {dvs : List V} (C : CallDk P w K mg base j x ps dvs sp) (h : j ≤ k) : CallDk P w K mg base k x ps dvs sp := let ⟨f, fd, ds, F, r⟩ := C; ⟨f, fd, ds, F.mono h, r⟩
theorem callDk (F : FunD K x x (defArgs st) (defBody st) (defScope st) [] kws f fd) (g : mg x = some (.ref f)) (S : FnScope N ps (defScope st)) (n0 : Nat) (hk : kws ≠ []) (hn : n0 + kws.length = ps.length)
    (hb : ∀ (D : Addr) (doc pm : Value) (an : Option Addr) (cdv ct : Value) (us ks : List Value), us.length = n0 → ks.length = kws.length →
      KwChain D ((kws.map (·.1)).zip ks) (bindArgs (PySem.W.fnOf x x (defArgs st) (defBody st) (defScope st) .none (.ref D) doc pm an cdv ct) ⟨us, []⟩) (ps.zip (us ++ ks)))
    (len : ∀ vs H Q E, sp vs H Q E → vs.length = ps.length)
    (body : ∀ (cdv : Value) (A : Around) (outer : List Env) (s : Shared) (H : Hp) (vs : List V) (Q : VK) (E : XK), (∀ oc od fd osl, K.lookup f = some ⟨oc, od, .func fd, osl⟩ → fd.code = cdv) → Room k (A.deeper (envOfC x (defScope st) s.heap.objs.size f cdv)) → (A.deeper (envOfC x (defScope st) s.heap.objs.size f cdv)).guards = some [] → sp vs H Q E →
      ∃ t, PSs (cxOf CX0 P w K mg base N x (defScope st) f cdv A outer s H E).nox (defBody st) t ∧ t { nx := fun _ H' => Q .non H', rt := Q } (start N vs) H) : CallDk P w K mg base (k + 1) x ps (kws.map (·.2)) sp := by
  obtain ⟨ds, hv, b⟩ := F.binds0 n0 hk hn hb
  have kp := F.kp
  obtain ⟨oc, od, dV, kV, doc, pm, an, cdv, ct, osl, rfl, lk, hcd, _, _⟩ := F.ex
  refine ⟨f, _, ds, fn_ofG lk hcd S len fun A outer s H vs Q E hr hG hsp => ?_, g, kp, b, hv⟩
  obtain ⟨t, h, q⟩ := body cdv A outer s H vs Q E (fun oc2 od2 fd2 osl2 e => by rw [lk] at e; cases e; rfl) hr hG hsp
  exact ⟨t, h.nox, q⟩
end
section
variable {X : Cx} {k : Nat} {ps : List Str} {sp : Sp} {x : Str} {p pos : Pos} {e : Expr} {es : List Expr} {t : TA} {dvs : List V}
theorem pe_cd (C : CallDk X.prog X.w X.K X.mg X.base k x ps dvs sp) (hr : Room k X.A) (hG : X.A.guards = some []) (ha : PA X (e :: es) t) (hg : Gl X x := by rfl) (hdb : (x == ("__debug__" : Str)) = false := by decide) (he : starEach (e :: es) X.env = (false, eval e X.env) :: starEach es X.env := by rfl) (hpl : (backTo pos (starEach es X.env)).any (·.1) = false := by rfl) :
    PE X (.Call (.Name x p) (e :: es) [] pos) (tCall sp dvs E0 t) := by
  obtain ⟨f, fd, ds, F, g, kp, b, hv⟩ := C
  exact pe_callG F hr hG hg g kp b hv pass0 ha hdb he hpl
end
end MM
namespace MM
open PySem PySem.Calls PySem.Spec PyProof.Rows L2 GxR
/-! ### setdefault and values() of dicts whose keys are rows with no dict of their own -/
def tDSetdF (P : Program) (w : World) (td ty tx : TE) : TE := fun σ H Q => td σ H fun x H1 => ∃ a xs0, x = .ref a ∧ DFr P w H1 a xs0 ∧ ty σ H1 fun y H2 => tx σ H2 fun z H3 => ∃ (xs : KXs) (k : List Key) (b : Addr), DFo P w H3 a xs ∧ y = .ref b ∧ FTup H3 b (k.map kV) ∧ (kvX xs).length < sizeLine ∧
  (∀ v, valV (kvX xs) k = some v → Q v H3) ∧ (valV (kvX xs) k = none → ∀ H4, ExB (fun c => c = a) H3 H4 → DFo P w H4 a (putX xs k b z) → Q z H4)
section
variable {X : Cx} {K : PySem.W.Frag} {P : Program} {w : World} {o e f : Expr} {td ty tx : TE} {apos cpos : Pos}
theorem pe_dsetdF (hP : X.prog = P) (hw : X.w = w) (hu : X.A.units + 1 < cLine) (ho : PE X o td) (he : PE X e ty) (hf : PE X f tx) (m : M2 X o "setdefault" apos e f cpos) : PE X (.Call (.Attribute o "setdefault" apos) [e, f] [] cpos) (tDSetdF P w td ty tx) := by
  subst hP hw
  refine ⟨fun pins s σ H Q I h => ?_⟩
  refine wpAny_Call_method m.base m.few m.line PySem.F.plainAttrs_dict PySem.F.slot_dict_setdefault PySem.F.type_dict_setdefault (thn (ho.run pins s σ H _ I h) fun u s1 ⟨x, H1, I1, rx, a, xs0, ex, D1, q1⟩ => ?_)
  subst ex
  obtain rfl : u = Value.ref a := rx
  obtain ⟨_, _, ys1, _, dd1⟩ := df_full I1 D1
  refine ⟨dd1.typeIs, fun b q => by cases q; obtain ⟨ob, _, _, h1, h2, _⟩ := dd1; exact ⟨ob, h1, h2.2.1⟩, ?_⟩
  rw [m.trees]
  refine Calls.callWith_builtin rfl (Calls.evalArgs_plain (Calls.spliced_cons (thn (he.run pins s1 σ H1 _ I1 q1) fun iv s2 ⟨y, H2, I2, ry, q2⟩ =>
    Calls.spliced_cons (thn (hf.run pins s2 σ H2 _ I2 q2) fun fv s3 ⟨z, H3, I3, rz, xs, k, b, D3, ey, hk, hl, q3, q4⟩ => Calls.spliced_nil ?_))))
  subst ey
  obtain rfl : iv = Value.ref b := ry
  obtain ⟨hz, hd, ys, rel, dd⟩ := df_full I3 D3.rd
  have hz2 : ys.length ≤ sizeLine := by rw [← Paired.length rel]; exact hz
  refine call_setdefault_heap (hsz := hz2) (tupleKind_room_in1 hu) (key_ofS (X := X) I3 (hk.sqt (K := X.K))) hd dd (fun p hp => ?_) fun hn h' dd' hs => ?_
  · have q := rel.val k
    rw [hp] at q
    cases q0 : valV (kvX xs) k with
    | none =>
      rw [q0] at q
      exact (show False from q).elim
    | some v0 =>
      rw [q0] at q
      exact ⟨v0, H3, I3.tok _, q, q3 v0 q0⟩
  · have q := rel.val k
    rw [hn] at q
    cases q0 : valV (kvX xs) k with
    | some v0 =>
      rw [q0] at q
      exact (show False from q).elim
    | none =>
      obtain ⟨qo, es, ep, hq, h2, h3, h4, _, h5⟩ := dd'
      have hpl : (putX xs k b z).length ≤ sizeLine := by
        have h2 := length_putK (kvX xs) k z
        rw [putX_len]
        omega
      have new : DTp X.prog X.w a (putX xs k b z) h' := ⟨hpl, hd, _, rel.put k rz, qo, es, ep, hq, h2, h3, h4, h5⟩
      have x := ex_setX (o := .ext (DTp X.prog X.w a (putX xs k b z))) D3.1
      exact ⟨z, _, d_write (t' := s3.toks + (tupleKind (mixKind X.prog X.w)).draws k) I3 (by rw [D3.1]; exact True.intro) hs ⟨qo, hq⟩ (dtp_ok new), rz, q4 q0 _ x ⟨upd_same, (D3.2.ex x).put (hk.ex x) z⟩⟩
end
/-! #### values() -/
section
variable {X : Cx} {pins : List (Addr × Obj)} {σ : L2.St} {H : Hp} {s : Shared} {d : Addr} {o : Obj}
theorem frzFV {xs : KXs} (I : Inv X pins σ H s) (h : H d = some (.frz o (.ext (DTp X.prog X.w d xs)))) :
    (d == sysModules) = false ∧ s.heap.get? d = some o ∧ o.ExactDict ∧ ∃ (es : Array DictEntry) (ep : Nat), o.data = .dict es ep ∧ es.size = xs.length ∧
      ∀ (i : Nat) (k : List Key) (b : Addr) (v : V), xs[i]? = some (k, b, v) → ∃ en : DictEntry, es[i]? = some en ∧ L2.RelV v en.val := by
  obtain ⟨hd, ⟨z, hs, ys, pr, o', es, ep, ho, hx, hdt, he, _⟩, _⟩ := (show ObjOk X.prog X.w H s.heap d (.frz o (.ext (DTp X.prog X.w d xs))) from I.hok d _ h)
  rw [hd] at ho
  cases ho
  refine ⟨hs, hd, hx, es, ep, hdt, ?_, fun i k b v e => ?_⟩
  · have l1 : es.size = ys.length := size_of_entries he
    have l2 : xs.length = ys.length := Paired.length pr
    omega
  · obtain ⟨b', hb, e1, e2, e3⟩ := paired_get pr e
    have q := entry_at he i
    rw [hb] at q
    exact ⟨_, q, e3⟩
end
def ItVF (P : Program) (w : World) (d : Addr) (o : Obj) (xs : KXs) : It :=
  ⟨fun i H => H d = some (.frz o (.ext (DTp P w d xs))) ∧ i < xs.length, fun i H x H' => H' = H ∧ ∃ (k : List Key) (b : Addr), xs[i]? = some (k, b, x), fun i H => H d = some (.frz o (.ext (DTp P w d xs))) ∧ xs.length ≤ i⟩
theorem turn_valsF {P : Program} {w : World} {K : PySem.W.Frag} {tg : Expr} {d : Addr} {o : Obj} {es : Array DictEntry} {ep : Nat} {xs : KXs} (it : Addr) (hod : o.data = .dict es ep) : Turn P w K tg (ItVF P w d o xs) [it] it (fun i h => h.IsValIter it d i xs.length ep) where
  mem := by simp
  obj := fun i h st b hb => by
    have e : b = it := by simpa using hb
    subst e
    obtain ⟨oi, e, c, dd⟩ := st
    exact ⟨oi, e, fun v z => by rw [dd] at z; cases z⟩
  keep := fun i h h' st k => st.at fun oi e => k it (by simp) oi e
  item := by
    intro X hP hw hK hc i pins s σ H E I hf st hg
    subst hP hw hK
    obtain ⟨hd, hi⟩ := hg
    obtain ⟨f0, f1, f2, f3, f4, f5⟩ := hf it (by simp)
    obtain ⟨hs, hgd, hx, es', ep', hdt, hsz, ent⟩ := frzFV I hd
    obtain ⟨rfl, rfl⟩ := dict_ep hod hdt
    obtain ⟨⟨k, b, v⟩, hkv⟩ : ∃ p, xs[i]? = some p := ⟨xs[i], List.getElem?_eq_getElem hi⟩
    obtain ⟨en, hen, hval⟩ := ent i k b v hkv
    have hie : i < es'.size := by rw [hsz]; exact hi
    rw [← hsz] at st
    refine wpAny_pyNext_values_item_raw st ⟨o, hgd, hx, hdt⟩ hie fun h' st' sb => ?_
    have I1 : Inv X pins σ H { s with heap := h' } := I.turned (t' := s.toks) (fun b ob hb e => (sb.2 b hb).trans e) f0 f1 f3 f4 f5
    obtain ⟨oi, e, c, dd⟩ := id st'
    have eev : es'[i] = en := by rw [Array.getElem?_eq_getElem hie] at hen; exact Option.some.inj hen
    refine ⟨_, rfl, go_of (s := { s with heap := h' }) e c dd (by decide) ⟨v, H, I1, by rw [eev]; exact hval, ⟨rfl, k, b, hkv⟩, ?_, fun b hb => (hf b hb).1⟩⟩
    show h'.IsValIter it d (i + 1) xs.length _
    rw [← hsz]
    exact st'
  done := by
    intro X hP hw hK hc i pins s σ H E I hf st hg
    subst hP hw hK
    obtain ⟨hd, hi⟩ := hg
    obtain ⟨f0, f1, f2, f3, f4, f5⟩ := hf it (by simp)
    obtain ⟨hs, hgd, hx, es', ep', hdt, hsz, ent⟩ := frzFV I hd
    obtain ⟨rfl, rfl⟩ := dict_ep hod hdt
    rw [← hsz] at st
    exact wpAny_pyNext_values_end_raw (I.ok.hd hc) st ⟨o, hgd, hx, hdt⟩ (by omega) fun h' eb => ⟨rfl, I.turned (t' := s.toks) (fun b ob hb e => eb b ob hb e) f0 f1 f3 f4 f5⟩
  self := fun A i s Q E st h => wpAny_pyIter_valiter st h
def iValsF (P : Program) (w : World) (td : TE) : TI := fun σ H R => td σ H fun x H1 => ∃ d o xs, x = .ref d ∧ H1 d = some (.frz o (.ext (DTp P w d xs))) ∧ R (ItVF P w d o xs) H1
theorem pi_valuesF {X : Cx} {P : Program} {w : World} {tg e : Expr} {td : TE} {apos cpos : Pos} (hP : X.prog = P) (hw : X.w = w) (he : PE X e td) (hbase : attributeBase e "values" X.env (eval e X.env) = eval e X.env := by rfl) (hline : (apos.endLine == cpos.line) = true := by rfl) : PI X tg (.Call (.Attribute e "values" apos) [] [] cpos) (iValsF P w td) := by
  subst hP hw
  refine ⟨fun pins s σ H R I h => ?_⟩
  refine wpAny_Call_method (T := "dict") (id := "dict.values") hbase rfl hline F.plainAttrs_dict F.slot_dict_values F.type_dict_values (thn (he.run pins s σ H _ I h) fun u s1 ⟨x, H1, I1, rx, d, o, xs, ex, hd, q⟩ => ?_)
  subst ex
  obtain rfl : u = Value.ref d := rx
  obtain ⟨hs, hgd, hx, es, ep, hdt, hsz, ent⟩ := frzFV I1 hd
  have hm : s1.heap.DictRaw d es ep := ⟨o, hgd, hx, hdt⟩
  have hT : s1.TypeIs (.ref d) "dict" := ⟨o, hgd, hx.1⟩
  refine ⟨hT, fun b q => by cases q; exact ⟨o, hgd, hx.2.1⟩, ?_⟩
  have I2 : Inv X pins σ H1 { s1 with heap := s1.heap.push { cls := .type "dict_values", data := .fields #[.ref d] } } := I1.kept (t' := s1.toks) fun b ob q => Heap.get?_push_of_some _ q
  have fin : wpAny (model X.prog X.w) X.A (pyIter (.ref s1.heap.objs.size)) (PIE X pins σ tg R) X.xe { s1 with heap := s1.heap.push { cls := .type "dict_values", data := .fields #[.ref d] } } := by
    refine wpAny_pyIter_values_raw (d := d) ⟨_, Heap.get?_push_size _ rfl, rfl, rfl⟩ (Heap.DictRaw.push hm _) (pi_one (tk := s1.toks) I2 _ (turn_valsF _ hdt) ⟨_, Heap.get?_push_size _ rfl, rfl, ?_⟩ q)
    rw [hsz] <;> rfl
  show wpAny _ _ (callWith cpos (.builtin "dict.values") [.ref d] [] []) _ X.xe s1
  exact method_meetsIn F.slot_dict_values F.entry_dict_values rfl (PySem.evalArgs_none ⟨rfl, hT, F.args_dict_values_1 _, _, meets_dict_values_raw d hs, ⟨_, _, hm⟩, fin⟩)
theorem walk_valsF {P : Program} {w : World} {d : Addr} {o : Obj} {xs : KXs} : Walk (ItVF P w d o xs) xs.length (fun H => H d = some (.frz o (.ext (DTp P w d xs)))) (fun i H x H' => H' = H ∧ ∃ (k : List Key) (b : Addr), xs[i]? = some (k, b, x)) :=
  ⟨fun _ _ hi q => ⟨q, hi⟩, fun _ q => ⟨q, Nat.le_refl _⟩, fun _ _ _ _ _ _ y => y⟩
end MM
namespace K70
open PySem PySem.Spec PyProof.Rows L2 GxR MM
abbrev N_is_whole : List Str := ["thing"]
theorem sc_is_whole : FnScope N_is_whole ["thing"] (defScope s_is_whole) := ⟨rfl, rfl, rfl, by decide +kernel, rfl, by decide +kernel, by decide +kernel⟩
abbrev N_is_many : List Str := ["thing"]
theorem sc_is_many : FnScope N_is_many ["thing"] (defScope s_is_many) := ⟨rfl, rfl, rfl, by decide +kernel, rfl, by decide +kernel, by decide +kernel⟩
abbrev N_is_gap : List Str := ["thing", "many"]
theorem sc_is_gap : FnScope N_is_gap ["thing", "many"] (defScope s_is_gap) := ⟨rfl, rfl, rfl, by decide +kernel, rfl, by decide +kernel, by decide +kernel⟩
abbrev N_is_row : List Str := ["thing"]
theorem sc_is_row : FnScope N_is_row ["thing"] (defScope s_is_row) := ⟨rfl, rfl, rfl, by decide +kernel, rfl, by decide +kernel, by decide +kernel⟩
abbrev N_check_many : List Str := ["many"]
theorem sc_check_many : FnScope N_check_many ["many"] (defScope s_check_many) := ⟨rfl, rfl, rfl, by decide +kernel, rfl, by decide +kernel, by decide +kernel⟩
abbrev N_is_book : List Str := ["thing", "many"]
theorem sc_is_book : FnScope N_is_book ["thing", "many"] (defScope s_is_book) := ⟨rfl, rfl, rfl, by decide +kernel, rfl, by decide +kernel, by decide +kernel⟩
abbrev N_check_row : List Str := ["row"]
theorem sc_check_row : FnScope N_check_row ["row"] (defScope s_check_row) := ⟨rfl, rfl, rfl, by decide +kernel, rfl, by decide +kernel, by decide +kernel⟩
abbrev N_check_book : List Str := ["book", "many"]
theorem sc_check_book : FnScope N_check_book ["book", "many"] (defScope s_check_book) := ⟨rfl, rfl, rfl, by decide +kernel, rfl, by decide +kernel, by decide +kernel⟩
abbrev N_check_book_and_row : List Str := ["book", "row"]
theorem sc_check_book_and_row : FnScope N_check_book_and_row ["book", "row"] (defScope s_check_book_and_row) := ⟨rfl, rfl, rfl, by decide +kernel, rfl, by decide +kernel, by decide +kernel⟩
abbrev N_check_rows : List Str := ["row", "other"]
theorem sc_check_rows : FnScope N_check_rows ["row", "other"] (defScope s_check_rows) := ⟨rfl, rfl, rfl, by decide +kernel, rfl, by decide +kernel, by decide +kernel⟩
abbrev N_check_number : List Str := ["number"]
theorem sc_check_number : FnScope N_check_number ["number"] (defScope s_check_number) := ⟨rfl, rfl, rfl, by decide +kernel, rfl, by decide +kernel, by decide +kernel⟩
abbrev N_check_few : List Str := ["many"]
theorem sc_check_few : FnScope N_check_few ["many"] (defScope s_check_few) := ⟨rfl, rfl, rfl, by decide +kernel, rfl, by decide +kernel, by decide +kernel⟩
abbrev N_row_of : List Str := ["many"]
theorem sc_row_of : FnScope N_row_of ["many"] (defScope s_row_of) := ⟨rfl, rfl, rfl, by decide +kernel, rfl, by decide +kernel, by decide +kernel⟩
abbrev N_swapped : List Str := ["row", "gap"]
theorem sc_swapped : FnScope N_swapped ["row", "gap"] (defScope s_swapped) := ⟨rfl, rfl, rfl, by decide +kernel, rfl, by decide +kernel, by decide +kernel⟩
abbrev N_corners : List Str := ["row", "line", "lines", "person", "j", "have"]
theorem sc_corners : FnScope N_corners ["row"] (defScope s_corners) := ⟨rfl, rfl, rfl, by decide +kernel, rfl, by decide +kernel, by decide +kernel⟩
abbrev N_unlike_corner : List Str := ["row", "other", "places", "mine", "theirs", "i", "j"]
theorem sc_unlike_corner : FnScope N_unlike_corner ["row", "other"] (defScope s_unlike_corner) := ⟨rfl, rfl, rfl, by decide +kernel, rfl, by decide +kernel, by decide +kernel⟩
abbrev N_below : List Str := ["row", "other"]
theorem sc_below : FnScope N_below ["row", "other"] (defScope s_below) := ⟨rfl, rfl, rfl, by decide +kernel, rfl, by decide +kernel, by decide +kernel⟩
abbrev N_lesser_ahead : List Str := ["row", "gap"]
theorem sc_lesser_ahead : FnScope N_lesser_ahead ["row", "gap"] (defScope s_lesser_ahead) := ⟨rfl, rfl, rfl, by decide +kernel, rfl, by decide +kernel, by decide +kernel⟩
abbrev N_farthest_from : List Str := ["row", "book", "gap"]
theorem sc_farthest_from : FnScope N_farthest_from ["row", "book"] (defScope s_farthest_from) := ⟨rfl, rfl, rfl, by decide +kernel, rfl, by decide +kernel, by decide +kernel⟩
abbrev N_farthest : List Str := ["book", "many"]
theorem sc_farthest : FnScope N_farthest ["book", "many"] (defScope s_farthest) := ⟨rfl, rfl, rfl, by decide +kernel, rfl, by decide +kernel, by decide +kernel⟩
abbrev N_lets : List Str := ["book", "row"]
theorem sc_lets : FnScope N_lets ["book", "row"] (defScope s_lets) := ⟨rfl, rfl, rfl, by decide +kernel, rfl, by decide +kernel, by decide +kernel⟩
abbrev N_places_of : List Str := ["row"]
theorem sc_places_of : FnScope N_places_of ["row"] (defScope s_places_of) := ⟨rfl, rfl, rfl, by decide +kernel, rfl, by decide +kernel, by decide +kernel⟩
abbrev N_fewest : List Str := ["book", "row", "left", "changes", "meeting", "gap"]
theorem sc_fewest : FnScope N_fewest ["book", "row"] (defScope s_fewest) := ⟨rfl, rfl, rfl, by decide +kernel, rfl, by decide +kernel, by decide +kernel⟩
abbrev N_check_let : List Str := ["book", "row"]
theorem sc_check_let : FnScope N_check_let ["book", "row"] (defScope s_check_let) := ⟨rfl, rfl, rfl, by decide +kernel, rfl, by decide +kernel, by decide +kernel⟩
abbrev N_is_of_meetings : List Str := ["thing", "book"]
theorem sc_is_of_meetings : FnScope N_is_of_meetings ["thing", "book"] (defScope s_is_of_meetings) := ⟨rfl, rfl, rfl, by decide +kernel, rfl, by decide +kernel, by decide +kernel⟩
abbrev N_still_lets : List Str := ["book", "row", "leaving", "meeting", "gap"]
theorem sc_still_lets : FnScope N_still_lets ["book", "row", "leaving"] (defScope s_still_lets) := ⟨rfl, rfl, rfl, by decide +kernel, rfl, by decide +kernel, by decide +kernel⟩
abbrev N_check_most : List Str := ["most"]
theorem sc_check_most : FnScope N_check_most ["most"] (defScope s_check_most) := ⟨rfl, rfl, rfl, by decide +kernel, rfl, by decide +kernel, by decide +kernel⟩
abbrev N_is_left : List Str := ["book", "row", "leaving"]
theorem sc_is_left : FnScope N_is_left ["book", "row", "leaving"] (defScope s_is_left) := ⟨rfl, rfl, rfl, by decide +kernel, rfl, by decide +kernel, by decide +kernel⟩
abbrev N_farthest_behind : List Str := ["book", "many", "rows", "gap"]
theorem sc_farthest_behind : FnScope N_farthest_behind ["book", "many"] (defScope s_farthest_behind) := ⟨rfl, rfl, rfl, by decide +kernel, rfl, by decide +kernel, by decide +kernel⟩
abbrev N_with_meeting : List Str := ["found", "meeting", "gap", "behind", "after", "left", "turns", "leaving"]
theorem sc_with_meeting : FnScope N_with_meeting ["found", "meeting", "gap", "behind"] (defScope s_with_meeting) := ⟨rfl, rfl, rfl, by decide +kernel, rfl, by decide +kernel, by decide +kernel⟩
abbrev N_all_greatest : List Str := ["book", "row", "most", "behind", "found", "meeting", "gap", "leavings"]
theorem sc_all_greatest : FnScope N_all_greatest ["book", "row", "most"] (defScope s_all_greatest) := ⟨rfl, rfl, rfl, by decide +kernel, rfl, by decide +kernel, by decide +kernel⟩
abbrev N_greatest_left : List Str := ["book", "row", "most"]
theorem sc_greatest_left : FnScope N_greatest_left ["book", "row", "most"] (defScope s_greatest_left) := ⟨rfl, rfl, rfl, by decide +kernel, rfl, by decide +kernel, by decide +kernel⟩
abbrev N_led_on : List Str := ["ways", "gap", "row", "after", "other"]
theorem sc_led_on : FnScope N_led_on ["ways", "gap"] (defScope s_led_on) := ⟨rfl, rfl, rfl, by decide +kernel, rfl, by decide +kernel, by decide +kernel⟩
abbrev N_ways_from : List Str := ["row", "book", "ways", "gap"]
theorem sc_ways_from : FnScope N_ways_from ["row", "book"] (defScope s_ways_from) := ⟨rfl, rfl, rfl, by decide +kernel, rfl, by decide +kernel, by decide +kernel⟩
abbrev N_ways_ahead : List Str := ["book", "many"]
theorem sc_ways_ahead : FnScope N_ways_ahead ["book", "many"] (defScope s_ways_ahead) := ⟨rfl, rfl, rfl, by decide +kernel, rfl, by decide +kernel, by decide +kernel⟩
abbrev N_ways_behind : List Str := ["book", "row"]
theorem sc_ways_behind : FnScope N_ways_behind ["book", "row"] (defScope s_ways_behind) := ⟨rfl, rfl, rfl, by decide +kernel, rfl, by decide +kernel, by decide +kernel⟩
abbrev N_check_asked : List Str := ["book", "row"]
theorem sc_check_asked : FnScope N_check_asked ["book", "row"] (defScope s_check_asked) := ⟨rfl, rfl, rfl, by decide +kernel, rfl, by decide +kernel, by decide +kernel⟩
abbrev N_goings : List Str := ["book", "row"]
theorem sc_goings : FnScope N_goings ["book", "row"] (defScope s_goings) := ⟨rfl, rfl, rfl, by decide +kernel, rfl, by decide +kernel, by decide +kernel⟩
abbrev N_with_one_more : List Str := ["staying", "changing", "stay", "change"]
theorem sc_with_one_more : FnScope N_with_one_more ["staying", "changing"] (defScope s_with_one_more) := ⟨rfl, rfl, rfl, by decide +kernel, rfl, by decide +kernel, by decide +kernel⟩
abbrev N_spread_on : List Str := ["spreads", "gap", "after", "row", "other", "across"]
theorem sc_spread_on : FnScope N_spread_on ["spreads", "gap"] (defScope s_spread_on) := ⟨rfl, rfl, rfl, by decide +kernel, rfl, by decide +kernel, by decide +kernel⟩
abbrev N_by_changes : List Str := ["book", "row", "spreads", "gap", "changes", "many"]
theorem sc_by_changes : FnScope N_by_changes ["book", "row"] (defScope s_by_changes) := ⟨rfl, rfl, rfl, by decide +kernel, rfl, by decide +kernel, by decide +kernel⟩
abbrev N_nth : List Str := ["book", "row", "number", "ways", "here", "going", "meeting", "gap", "staying", "change"]
theorem sc_nth : FnScope N_nth ["book", "row", "number"] (defScope s_nth) := ⟨rfl, rfl, rfl, by decide +kernel, rfl, by decide +kernel, by decide +kernel⟩
abbrev N_musts : List Str := ["book", "row", "ahead", "behind", "always", "never", "meeting", "rows", "after", "gap"]
theorem sc_musts : FnScope N_musts ["book", "row"] (defScope s_musts) := ⟨rfl, rfl, rfl, by decide +kernel, rfl, by decide +kernel, by decide +kernel⟩
abbrev N_law_cell_at : List Str := ["script", "k"]
theorem sc_law_cell_at : FnScope N_law_cell_at ["script", "k"] (defScope s_law_cell_at) := ⟨rfl, rfl, rfl, by decide +kernel, rfl, by decide +kernel, by decide +kernel⟩
abbrev N_law_bag : List Str := ["cell"]
theorem sc_law_bag : FnScope N_law_bag ["cell"] (defScope s_law_bag) := ⟨rfl, rfl, rfl, by decide +kernel, rfl, by decide +kernel, by decide +kernel⟩
abbrev N_law_draw : List Str := ["bag", "sides", "drawn"]
theorem sc_law_draw : FnScope N_law_draw ["bag", "sides"] (defScope s_law_draw) := ⟨rfl, rfl, rfl, by decide +kernel, rfl, by decide +kernel, by decide +kernel⟩
abbrev N_law_swap : List Str := ["line", "spot"]
theorem sc_law_swap : FnScope N_law_swap ["line", "spot"] (defScope s_law_swap) := ⟨rfl, rfl, rfl, by decide +kernel, rfl, by decide +kernel, by decide +kernel⟩
abbrev N_law_turns : List Str := ["line", "k", "one"]
theorem sc_law_turns : FnScope N_law_turns ["line"] (defScope s_law_turns) := ⟨rfl, rfl, rfl, by decide +kernel, rfl, by decide +kernel, by decide +kernel⟩
abbrev N_law_plan : List Str := ["bag", "size", "longest", "kind", "length", "first", "few", "k"]
theorem sc_law_plan : FnScope N_law_plan ["bag", "size", "longest"] (defScope s_law_plan) := ⟨rfl, rfl, rfl, by decide +kernel, rfl, by decide +kernel, by decide +kernel⟩
abbrev N_law_far : List Str := ["plan", "size", "line", "spot"]
theorem sc_law_far : FnScope N_law_far ["plan", "size"] (defScope s_law_far) := ⟨rfl, rfl, rfl, by decide +kernel, rfl, by decide +kernel, by decide +kernel⟩
abbrev N_law_let_row : List Str := ["bag", "plan", "size", "k"]
theorem sc_law_let_row : FnScope N_law_let_row ["bag", "plan", "size"] (defScope s_law_let_row) := ⟨rfl, rfl, rfl, by decide +kernel, rfl, by decide +kernel, by decide +kernel⟩
abbrev N_law_led : List Str := ["plan", "size", "used", "line", "k"]
theorem sc_law_led : FnScope N_law_led ["plan", "size", "used"] (defScope s_law_led) := ⟨rfl, rfl, rfl, by decide +kernel, rfl, by decide +kernel, by decide +kernel⟩
abbrev N_law_unused : List Str := ["plan", "used", "k"]
theorem sc_law_unused : FnScope N_law_unused ["plan", "used"] (defScope s_law_unused) := ⟨rfl, rfl, rfl, by decide +kernel, rfl, by decide +kernel, by decide +kernel⟩
abbrev N_law_listed_right : List Str := ["plan", "line", "lines", "found", "number_now", "change", "one", "k"]
theorem sc_law_listed_right : FnScope N_law_listed_right ["plan", "line", "lines"] (defScope s_law_listed_right) := ⟨rfl, rfl, rfl, by decide +kernel, rfl, by decide +kernel, by decide +kernel⟩
abbrev N_law_right : List Str := ["plan", "line", "lines", "k", "one", "shared"]
theorem sc_law_right : FnScope N_law_right ["plan", "line"] (defScope s_law_right) := ⟨rfl, rfl, rfl, by decide +kernel, rfl, by decide +kernel, by decide +kernel⟩
abbrev N_law : List Str := ["script", "k", "bag", "size", "plan"]
theorem sc_law : FnScope N_law ["script"] (defScope s_law) := ⟨rfl, rfl, rfl, by decide +kernel, rfl, by decide +kernel, by decide +kernel⟩
end K70
namespace K70
open PySem PySem.Spec PyProof.Rows L2 GxR MM
section
variable {P : Program} {w : World} {K : PySem.W.Frag} {mg : Str → Option Value} {base : Heap} {f : Addr} {fd : FuncData} {n : Nat}
structure Bl (mg : Str → Option Value) : Prop where
  isinstance : mg "isinstance" = none
  int : mg "int" = none
  bool : mg "bool" = none
  tuple : mg "tuple" = none
  len : mg "len" = none
  all : mg "all" = none
  sorted : mg "sorted" = none
  list : mg "list" = none
  range : mg "range" = none
  max : mg "max" = none
  min : mg "min" = none
  abs : mg "abs" = none
  repr : mg "repr" = none
  enumerate : mg "enumerate" = none
  any : mg "any" = none
  sum : mg "sum" = none
  zip : mg "zip" = none
  reversed : mg "reversed" = none
  set : mg "set" = none
def spWhole (K : PySem.W.Frag) : Sp := fun vs H Q _ => ∃ x T, vs = [x] ∧ Kd K H x T ∧ Q (.bl (isW x)) H
theorem d_is_whole (F : FnP K "is_whole" s_is_whole f fd) (g : mg "is_whole" = some (.ref f)) (B : Bl mg) : CallD P w K mg base (n + 1) "is_whole" ["thing"] (spWhole K) := by
  refine callD F g sc_is_whole (fun _ _ _ _ _ _ us hl => match us, hl with | [_], _ => rfl) (fun vs H Q E h => ?_) (fun cdv A outer s H vs Q E _ hr hG h => ?_)
  · obtain ⟨x, T, rfl, _⟩ := h; rfl
  · obtain ⟨x, T, rfl, k, q⟩ := h
    refine ⟨_, (pss_one (ps_ret (pe_and (pe_callB (k_isi (K := K) rfl) (by rfl) B.isinstance (by decide +kernel) (pa_cons (pv 0) (pa_cons (pe_bltn (v := .ty "int") (by rfl) B.int (by decide +kernel) rfl) pa_nil))) (pe_one (pe_not (pe_callB (k_isi (K := K) rfl) (by rfl) B.isinstance (by decide +kernel) (pa_cons (pv 0) (pa_cons (pe_bltn (v := .ty "bool") (by rfl) B.bool (by decide +kernel) rfl) pa_nil)))))))), ?_⟩
    refine ⟨x, rfl, x, .ty "int", _, _, isI x, rfl, .ty _, k.ty, kd_int k, isI x, rfl, ?_⟩
    rw [isW_eq] at q
    cases e : isI x with
    | false => rw [e] at q; exact iteF q
    | true => rw [e] at q; exact iteT ⟨x, rfl, x, .ty "bool", _, _, isB x, rfl, .ty _, k.ty, kd_bool k, isB x, rfl, q⟩
def spMany : Sp := fun vs H Q _ => ∃ i : Int, vs = [.int i] ∧ Q (.bl (decide (1 ≤ i ∧ i ≤ 9))) H
theorem d_is_many (F : FnP K "is_many" s_is_many f fd) (g : mg "is_many" = some (.ref f)) (C_is_whole : CallD P w K mg base n "is_whole" ["thing"] (spWhole K)) {tk : Tok} (m_MOST_PEOPLE : mg "MOST_PEOPLE" = some (.int 9 tk)) : CallD P w K mg base (n + 1) "is_many" ["thing"] spMany := by
  refine callD F g sc_is_many (fun _ _ _ _ _ _ us hl => match us, hl with | [_], _ => rfl) (fun vs H Q E h => ?_) (fun cdv A outer s H vs Q E _ hr hG h => ?_)
  · obtain ⟨x, rfl, _⟩ := h; rfl
  · obtain ⟨i, rfl, q⟩ := h
    refine ⟨_, (pss_one (ps_ret (pe_and (pe_c C_is_whole hr hG (pa_cons (pv 0) pa_nil)) (pe_one (pe_chain op_le op_le pe_int (pv 0) (pe_glob (v := .int 9) (by rfl) m_MOST_PEOPLE ⟨_, rfl⟩)))))), ?_⟩
    refine ⟨.int i, rfl, .int i, "int", rfl, .int i, true, rfl, iteT ?_⟩
    refine ⟨_, rfl, _, _, rfl, rfl, decide (1 ≤ i), rfl, ?_⟩
    by_cases h1 : 1 ≤ i
    · rw [decide_eq_true h1]
      refine iteT ⟨_, _, rfl, rfl, ?_⟩
      have e : decide (1 ≤ i ∧ i ≤ 9) = decide (i ≤ 9) := by rw [Bool.eq_iff_iff]; simp [h1]
      rw [e] at q; exact q
    · rw [decide_eq_false h1]
      refine iteF ?_
      have e : decide (1 ≤ i ∧ i ≤ 9) = false := by simp [h1]
      rw [e] at q; exact q
/-- is_row of a row -/
def spIsRow (K : PySem.W.Frag) (Pt : Addr) : Sp := fun vs H Q _ => ∃ (a : Addr) (ns : List Int), vs = [.ref a] ∧ SqT K H a (ns.map V.int) ∧ TabG H Pt ∧ IsRow ns ∧ ∀ H', Ex H H' → Q (.bl true) H'
theorem d_is_row {c Pt fW : Addr} {fdW : FuncData} (F : FnP K "is_row" s_is_row f fd) (g : mg "is_row" = some (.ref f)) (B : Bl mg) (C_is_many : CallD P w K mg base n "is_many" ["thing"] spMany) (FW : FnP K "is_whole" s_is_whole fW fdW) (gW : mg "is_whole" = some (.ref fW))
    (TB : TabB base mg c Pt) (hc : ∀ oc od fd osl, K.lookup f = some ⟨oc, od, .func fd, osl⟩ → fd.code = .ref c) : CallD P w K mg base (n + 1) "is_row" ["thing"] (spIsRow K Pt) := by
  refine callD F g sc_is_row (fun _ _ _ _ _ _ us hl => match us, hl with | [_], _ => rfl) (fun vs H Q E h => ?_) (fun cdv A outer s H vs Q E hcd0 hr hG h => ?_)
  · obtain ⟨a, ns, rfl, _⟩ := h; rfl
  · obtain ⟨a, ns, rfl, hT, hTab, hR, q⟩ := h
    have hcd : cdv = .ref c := by
      obtain ⟨oc, od, dV, kV, doc, pm, an, cdv', ct, osl, e1, lk, _⟩ := F.ex
      rw [← hcd0 _ _ _ _ lk]; exact hc _ _ _ _ lk
    subst hcd
    refine ⟨_, (pss_cons (ps_if (PW.pt (pw_or (pt_not (pt_val (pe_callB (k_isi (K := K) rfl) (by rfl) B.isinstance (by decide +kernel) (pa_cons (pv 0) (pa_cons (pe_bltn (v := .ty "tuple") (by rfl) B.tuple (by decide +kernel) rfl) pa_nil))))) (pw_or1 (pt_not (pt_val (pe_c C_is_many hr hG (pa_cons (pe_callB (k_len (K := K) rfl) (by rfl) B.len PySem.boot_len (pa_cons (pv 0) pa_nil)) pa_nil)))))))
      (pss_one (ps_ret pe_bl))
      pss_nil)
      (pss_cons (ps_if (pt_not (pt_val (pe_allT (ok := okKd _) (pb := fun _ v => isW v) hr (by rfl) B.all (by decide +kernel) TB rfl ⟨rfl, rfl, by decide +kernel, rfl, rfl, fun y hy e => (nofree_gen rfl y hy e).elim⟩ (pv 0) (elt_whole FW hr gW B.isinstance B.int B.bool rfl ⟨_, _, _, _, _, _, _, _, _, _, _, ⟨0, 0, 0, 0⟩, rfl⟩ (fun _ _ _ _ _ _ us hl => match us, hl with | [_], _ => rfl) rfl rfl rfl) (fun _ => rfl))))
      (pss_one (ps_ret pe_bl))
      pss_nil)
      (pss_one (ps_ret (pe_cmpR (k_eq (K := K) rfl hr.units) (pe_callB (k_sortT (K := K) rfl) (by rfl) B.sorted (by decide +kernel) (pa_cons (pv 0) pa_nil)) (pe_listRg rfl (by rfl) B.list (prg_1 (by rfl) B.range (pe_callB (k_len (K := K) rfl) (by rfl) B.len PySem.boot_len (pa_cons (pv 0) pa_nil)))) (nomark _)))))), ?_⟩
    refine ⟨.ref a, rfl, .ref a, .ty "tuple", _, _, true, rfl, .ty _, (Kd.tup hT).ty, kd_tuple (Kd.tup hT), true, rfl, iteF ?_⟩
    refine ⟨.ref a, rfl, a, _, rfl, .inr hT, ((ns.map V.int).length : Int), rfl, ?_⟩
    have e1 : decide (1 ≤ ((ns.map V.int).length : Int) ∧ ((ns.map V.int).length : Int) ≤ 9) = true := by have := hR.1; have := hR.2.1; rw [List.length_map]; exact decide_eq_true ⟨by omega, by omega⟩
    refine ⟨_, rfl, ?_⟩
    rw [e1]
    refine iteF ?_
    refine ⟨.ref a, rfl, a, ns.map V.int, rfl, hT, hTab, fun x hx => by obtain ⟨i, _, rfl⟩ := List.mem_map.mp hx; exact ⟨_, .int i⟩, fun H2 t2 => ?_⟩
    have e2 : (ns.map V.int).all isW = true := by rw [List.all_eq_true]; intro x hx; obtain ⟨i, _, rfl⟩ := List.mem_map.mp hx; rfl
    refine ⟨_, rfl, ?_⟩
    rw [e2]
    refine iteF ?_
    have x1 : Ex H H2 := ex_tab hTab t2
    have hT2 := x1.sqt hT
    refine ⟨.ref a, rfl, a, ns, rfl, hT2, fun ns' p hp hs np => ?_⟩
    have x2 : Ex H2 (upd H2 p (.lst (ns'.map V.int))) := ex_new np
    refine ⟨.ref a, rfl, a, _, rfl, .inr (x2.sqt hT2), _, rfl, RgOk.of_le (Int.le_refl _) ?_ (by decide) (Int.natCast_nonneg _), fun q2 nq => ?_⟩
    · rw [List.length_map]; have := hR.2.1; omega
    · have e3 : ns' = (List.range ns.length).map Int.ofNat := hR.sorted hp hs
      have x3 : Ex (upd H2 p (.lst (ns'.map V.int))) (upd (upd H2 p (.lst (ns'.map V.int))) q2 (.lst (rgV 0 ((ns.map V.int).length : Int)))) := ex_new nq
      have e4 : rgV 0 ((ns.map V.int).length : Int) = ns'.map V.int := by rw [List.length_map, rgV_ints, e3]
      have nice : Nice 1 (9 * 53 + 3) (.list (ns'.map PyData.int)) := nice_list (nice_ints fun i hi => by have := hR.mem (hp.mem_iff.mp hi); have := hR.2.1; omega) (by rw [List.length_map, hp.length_eq]; exact hR.2.1)
      refine ⟨_, _, dp_ints (ns := ns') (SqL.of (Ex.lst x3 upd_same)), dp_ints (ns := ns') (SqL.of (by rw [upd_same, e4])), nice.shaped (by decide), nice.shaped (by decide), ?_⟩
      rw [nice.refl]
      exact q _ ((x1.trans x2).trans x3)
def spCheckRow (K : PySem.W.Frag) (Pt : Addr) : Sp := fun vs H Q _ => ∃ (a : Addr) (ns : List Int), vs = [.ref a] ∧ SqT K H a (ns.map V.int) ∧ TabG H Pt ∧ IsRow ns ∧ ∀ H', Ex H H' → Q .non H'
theorem d_check_row {Pt : Addr} (F : FnP K "check_row" s_check_row f fd) (g : mg "check_row" = some (.ref f)) (C_is_row : CallD P w K mg base n "is_row" ["thing"] (spIsRow K Pt)) : CallD P w K mg base (n + 1) "check_row" ["row"] (spCheckRow K Pt) := by
  refine callD F g sc_check_row (fun _ _ _ _ _ _ us hl => match us, hl with | [_], _ => rfl) (fun vs H Q E h => ?_) (fun cdv A outer s H vs Q E _ hr hG h => ?_)
  · obtain ⟨a, ns, rfl, _⟩ := h; rfl
  · obtain ⟨a, ns, rfl, hT, hTab, hR, q⟩ := h
    refine ⟨_, (pss_one (ps_if (pt_not (pt_val (pe_c C_is_row hr hG (pa_cons (pv 0) pa_nil))))
      (pss_one ps_never)
      pss_nil)), ?_⟩
    exact ⟨.ref a, rfl, a, ns, rfl, hT, hTab, hR, fun H' e => ⟨true, rfl, iteF (q H' e)⟩⟩
def spCheckRows (K : PySem.W.Frag) (Pt : Addr) : Sp := fun vs H Q _ => ∃ (a b : Addr) (ns ms : List Int), vs = [.ref a, .ref b] ∧ SqT K H a (ns.map V.int) ∧ SqT K H b (ms.map V.int) ∧ TabG H Pt ∧ IsRow ns ∧ IsRow ms ∧ ns.length = ms.length ∧ ∀ H', Ex H H' → Q .non H'
theorem d_check_rows {Pt : Addr} (F : FnP K "check_rows" s_check_rows f fd) (g : mg "check_rows" = some (.ref f)) (B : Bl mg) (C_check_row : CallD P w K mg base n "check_row" ["row"] (spCheckRow K Pt)) : CallD P w K mg base (n + 1) "check_rows" ["row", "other"] (spCheckRows K Pt) := by
  refine callD F g sc_check_rows (fun _ _ _ _ _ _ us hl => match us, hl with | [_, _], _ => rfl) (fun vs H Q E h => ?_) (fun cdv A outer s H vs Q E _ hr hG h => ?_)
  · obtain ⟨a, b, ns, ms, rfl, _⟩ := h; rfl
  · obtain ⟨a, b, ns, ms, rfl, hT, hT2, hTab, hR, hR2, hl, q⟩ := h
    refine ⟨_, (pss_cons (ps_expr (pe_c C_check_row hr hG (pa_cons (pv 0) pa_nil)))
      (pss_cons (ps_expr (pe_c C_check_row hr hG (pa_cons (pv 1) pa_nil)))
      (pss_one (ps_if (pt_cmpR op_ne (pe_callB (k_len (K := K) rfl) (by rfl) B.len PySem.boot_len (pa_cons (pv 0) pa_nil)) (pe_callB (k_len (K := K) rfl) (by rfl) B.len PySem.boot_len (pa_cons (pv 1) pa_nil)) (nomark _))
      (pss_one ps_never)
      pss_nil)))), ?_⟩
    refine ⟨.ref a, rfl, a, ns, rfl, hT, hTab, hR, fun H1 x1 => ?_⟩
    refine ⟨.ref b, rfl, b, ms, rfl, x1.sqt hT2, x1.tab hTab, hR2, fun H2 x2 => ?_⟩
    have x3 := x1.trans x2
    refine ⟨.ref a, rfl, a, _, rfl, .inr (x3.sqt hT), .ref b, rfl, b, _, rfl, .inr (x3.sqt hT2), rfl, _, rfl, ?_⟩
    exact iteNS (by rw [List.length_map, List.length_map, hl]) (q H2 x3)
/-- the lines that corners tells: new lists, of ls, at H -/
structure Corn (H0 H : Hp) (ns : List Int) (m : Nat) (ls : List Addr) : Prop where
  len : ls.length = m
  nd : ls.Nodup
  new : ∀ l ∈ ls, H0 l = none
  at_ : ∀ k l, ls[k]? = some l → H l = some (.lst ((cl ns k).map V.int))
def spCorners (K : PySem.W.Frag) (Pt : Addr) : Sp := fun vs H Q _ => ∃ (a : Addr) (ns : List Int), vs = [.ref a] ∧ SqT K H a (ns.map V.int) ∧ TabG H Pt ∧ IsRow ns ∧
  ∀ p ls H', Ex H H' → H p = none → p ∉ ls → H' p = some (.lst (ls.map V.ref)) → Corn H H' ns (ns.length + 1) ls → Q (.ref p) H'
theorem d_corners {Pt : Addr} (F : FnP K "corners" s_corners f fd) (g : mg "corners" = some (.ref f)) (B : Bl mg) (C_check_row : CallD P w K mg base n "check_row" ["row"] (spCheckRow K Pt)) : CallD P w K mg base (n + 1) "corners" ["row"] (spCorners K Pt) := by
  refine callD F g sc_corners (fun _ _ _ _ _ _ us hl => match us, hl with | [_], _ => rfl) (fun vs H Q E h => ?_) (fun cdv A outer s H vs Q E _ hr hG h => ?_)
  · obtain ⟨a, ns, rfl, _⟩ := h; rfl
  · obtain ⟨a, ns, rfl, hT, hTab, hR, q⟩ := h
    refine ⟨_, (pss_cons (ps_expr (pe_c C_check_row hr hG (pa_cons (pv 0) pa_nil)))
      (pss_cons (ps_set (i := 1) sc_corners.nd rfl (Or.inl rfl) (pe_op op_rep (pe_lst (pa_cons pe_int pa_nil)) (pe_op op_add (pe_callB (k_len (K := K) rfl) (by rfl) B.len PySem.boot_len (pa_cons (pv 0) pa_nil)) pe_int)))
      (pss_cons (ps_set (i := 2) sc_corners.nd rfl (Or.inl rfl) (pe_lst (pa_cons (pv 1) pa_nil)))
      (pss_cons (ps_for PassesOwn.never rfl (k_piT (K := K) rfl (pv 0)) (pg_name (i := 3) sc_corners.nd rfl (Or.inr rfl))
      (pss_cons (ps_setLc (i := 1) (own := [("j", 4), ("have", 5)]) (g := gTup K 2 (gCons (gName 4) (gCons (gName 5) (gNil)))) rfl sc_corners.nd rfl rfl (sw_true rfl rfl rfl (by decide +kernel)) (k_piE (K := K) rfl (pi_enum (by rfl) B.enumerate (pa_cons (pv 1) pa_nil))) (blkOk_by (N := N_corners) (sc := defScope s_corners) (by decide +kernel)) (fun _ _ _ _ _ => (k_tup (K := K) rfl (pg_tup rfl (pgs_cons (pg_name (i := 4) sc_corners.nd rfl (by first | exact Or.inl rfl | exact Or.inr rfl)) (pgs_cons (pg_name (i := 5) sc_corners.nd rfl (by first | exact Or.inl rfl | exact Or.inr rfl)) pgs_nil))))) (fun _ _ _ _ _ => pts_nil) (fun _ _ _ _ _ => (pe_ifExp (pt_cmpR op_le (pv 4) (pv 3) (nomark _)) (pe_op op_add (pv 5) pe_int) (pv 5))))
      (pss_one (ps_expr (k_bm (K := K) rfl PySem.F.plainAttrs_list PySem.F.slot_list_append PySem.F.type_list_append mt_append (pv 2) (pa_cons (pv 1) pa_nil))))))
      (pss_one (ps_ret (pv 2))))))), ?_⟩
    refine ⟨.ref a, rfl, a, ns, rfl, hT, hTab, hR, fun H1 x1 => ?_⟩
    have hn1 := hR.1
    have hn9 := hR.2.1
    have hT1 := x1.sqt hT
    -- line = [0] * (len(row) + 1)
    refine ⟨by show 1 ≤ sizeLine; decide, fun z nz => ?_⟩
    have x2 : Ex H1 (upd H1 z (.lst [V.int 0])) := ex_new nz
    refine ⟨.ref a, rfl, a, _, rfl, .inr (x2.sqt hT1), _, _, rfl, rfl, ?_⟩
    refine ⟨z, _, [V.int 0], rfl, rfl, upd_same, by rw [List.length_map]; omega, by rw [List.length_map]; omega, ?_, fun l0 nl0 => ?_⟩
    · rw [List.length_map]; show 1 * ((ns.length : Int) + 1).toNat ≤ sizeLine; have : sizeLine = 16777216 := by decide
      omega
    generalize hH2 : upd H1 z (.lst [V.int 0]) = H2 at x2 nl0 ⊢
    have el0 : (List.replicate (((ns.map V.int).length : Int) + 1).toNat [V.int 0]).flatten = (cl ns 0).map V.int := by
      have e1 : (((ns.map V.int).length : Int) + 1).toNat = ns.length + 1 := by rw [List.length_map]; omega
      rw [e1, cl_zero, List.map_replicate, rep_one]
    rw [el0]
    have x3 : Ex H2 (upd H2 l0 (.lst ((cl ns 0).map V.int))) := ex_new nl0
    have a3 : (upd H2 l0 (.lst ((cl ns 0).map V.int))) l0 = some (.lst ((cl ns 0).map V.int)) := upd_same
    generalize upd H2 l0 (.lst ((cl ns 0).map V.int)) = H3 at x3 a3 ⊢
    have nl0H : H l0 = none := ExB.fresh (x1.trans x2) nl0
    -- lines = [line]
    refine ⟨.ref l0, rfl, by show 1 ≤ sizeLine; decide, fun p np => ?_⟩
    have x4 : Ex H3 (upd H3 p (.lst [V.ref l0])) := ex_new np
    have a4 : (upd H3 p (.lst [V.ref l0])) p = some (.lst [V.ref l0]) := upd_same
    generalize upd H3 p (.lst [V.ref l0]) = H4 at x4 a4 ⊢
    have xs4 : Ex H H4 := ((x1.trans x2).trans x3).trans x4
    have npl : l0 ≠ p := fun e => by rw [e, np] at a3; cases a3
    have npH : H p = none := ExB.fresh ((x1.trans x2).trans x3) np
    -- for person in row
    refine ⟨.ref a, rfl, a, rfl, ⟨_, xs4.sqt hT⟩, for_it (walk_tup (xs := ns.map V.int)) (fun i σ H5 => ∃ (ls : List Addr) (l : Addr) (v3 : Option V), ls[i]? = some l ∧ σ = [some (.ref a), some (.ref l), some (.ref p), v3, none, none] ∧ Ex H H5 ∧ H5 p = some (.lst (ls.map V.ref)) ∧ Corn H H5 ns (i + 1) ls ∧ p ∉ ls)
      ⟨[l0], l0, none, rfl, rfl, xs4, a4, ⟨rfl, by simp, by intro l hl; rw [List.mem_singleton.mp hl]; exact nl0H, fun k l hk => ?_⟩, by simpa using npl.symm⟩ (fun i σ H5 _ ⟨_, _, _, _, _, x, _⟩ => x.sqt hT) ?_ ?_⟩
    · cases k with
      | zero => cases hk; exact Ex.lst x4 a3
      | succ k => simp at hk
    · rintro i x σ H5 H5' hi ⟨ls, l, v3, hl, rfl, x5, ap, C5, hpl⟩ ⟨rfl, hx⟩
      rw [List.length_map] at hi
      have hp : ∃ pe, ns[i]? = some pe ∧ x = .int pe := by
        rw [List.getElem?_map] at hx
        cases e : ns[i]? with
        | none => rw [e] at hx; cases hx
        | some u => rw [e] at hx; exact ⟨u, rfl, (Option.some.inj hx).symm⟩
      obtain ⟨pe, hpe, rfl⟩ := hp
      -- line = [.. for j, have in enumerate(line)]
      refine ⟨.ref l, rfl, l, _, rfl, SqL.of (C5.at_ i l hl), fun D nD => lc_it (walk_enum (xs := (cl ns i).map V.int)) (fun k H6 => Ex H5' H6 ∧ H6 D = some (.lst (((cl ns (i + 1)).take k).map V.int))) ⟨ex_new nD, upd_same⟩ (fun k H6 _ y => SqL.of (Ex.lst y.1 (C5.at_ i l hl))) ?_ ?_⟩
      · rintro k x H6 H7 hk ⟨x6, a6⟩ ⟨T, x', y', rfl, nT, rfl, e1, e2⟩
        rw [List.length_map, cl_length] at hk
        cases e1
        have e2' : y' = .int (cnt ns i k : Int) := by
          have e2 : ((cl ns i).map V.int)[k]? = some y' := e2
          rw [List.getElem?_map, cl_get ns i hk] at e2; exact (Option.some.inj e2).symm
        subst e2'
        have x7 : Ex H6 (upd H6 T (.tup [V.int (k : Nat), V.int (cnt ns i k : Int)])) := ex_new nT
        have a7 := Ex.lst x7 a6
        refine ⟨T, _, rfl, SqT.of upd_same, rfl, _, _, rfl, _, _, rfl, rfl, rfl, yes_go ?_⟩
        have hD : H5' D = none := nD
        have fin : ∀ y : Int, y = (cnt ns (i + 1) k : Int) → ∃ acc, (upd H6 T (.tup [V.int (k : Nat), V.int (cnt ns i k : Int)])) D = some (.lst acc) ∧ acc.length < sizeLine ∧ Ex H5' (upd (upd H6 T (.tup [V.int (k : Nat), V.int (cnt ns i k : Int)])) D (.lst (acc ++ [V.int y]))) ∧ (upd (upd H6 T (.tup [V.int (k : Nat), V.int (cnt ns i k : Int)])) D (.lst (acc ++ [V.int y]))) D = some (.lst (((cl ns (i + 1)).take (k + 1)).map V.int)) := fun y hy => by
          refine ⟨_, a7, small1000 (by rw [List.length_map, List.length_take]; omega), (x6.trans x7).then (ex_set a7) fun b hb => .inl (hb ▸ hD), ?_⟩
          rw [upd_same, cl_pref hk, List.map_append, hy]; rfl
        have hc := cnt_succ hpe (k : Int)
        refine ⟨_, rfl, _, rfl, _, _, rfl, rfl, _, rfl, ?_⟩
        by_cases hle : (k : Int) ≤ pe
        · rw [decide_eq_true hle]
          refine iteT ⟨_, rfl, _, _, rfl, rfl, fin _ ?_⟩
          rw [hc, if_pos hle]; rfl
        · rw [decide_eq_false hle]
          refine iteF ⟨_, rfl, fin _ ?_⟩
          rw [hc, if_neg hle]; rfl
      · rintro H6 ⟨x6, a6⟩
        have e6 : (cl ns (i + 1)).take ((cl ns i).map V.int).length = cl ns (i + 1) := List.take_of_length_le (by rw [List.length_map, cl_length, cl_length]; exact Nat.le_refl _)
        rw [e6] at a6
        have ap6 := Ex.lst x6 ap
        have hDp : D ≠ p := fun e => by rw [e, ap] at nD; cases nD
        have hDl : D ∉ ls := fun e => by
          obtain ⟨k, hk, ek⟩ := List.getElem_of_mem e
          have := C5.at_ k D (by rw [List.getElem?_eq_getElem hk, ek])
          rw [nD] at this; cases this
        -- lines.append(line)
        refine ⟨.ref p, rfl, .inl ⟨rfl, _, SqL.of ap6⟩, _, rfl, p, _, _, rfl, rfl, ap6, small1000 (by rw [List.length_map, C5.len]; omega), ?_⟩
        have x8 : ExB (fun b => b = p) H6 (upd H6 p (.lst (ls.map V.ref ++ [V.ref D]))) := ex_set ap6
        refine ⟨ls ++ [D], D, _, ?_, rfl, ((x5.trans x6).then x8 fun b hb => .inl (hb ▸ npH)), ?_, ⟨?_, ?_, ?_, ?_⟩, ?_⟩
        · rw [List.getElem?_append_right (by rw [C5.len]; omega), C5.len]; simp
        · rw [upd_same, List.map_append]; rfl
        · rw [List.length_append, C5.len]; rfl
        · rw [List.nodup_append]; exact ⟨C5.nd, by simp, fun a ha b hb e => hDl (by rw [← List.mem_singleton.mp hb, ← e]; exact ha)⟩
        · intro l' hl'
          rcases List.mem_append.mp hl' with z | z
          · exact C5.new l' z
          · rw [List.mem_singleton.mp z]; exact x5.fresh nD
        · intro k l' hk
          by_cases hki : k < ls.length
          · rw [List.getElem?_append_left hki] at hk
            have h1 := C5.at_ k l' hk
            have hlp : l' ≠ p := fun e => hpl (e ▸ List.mem_of_getElem? hk)
            rw [upd_ne hlp]; exact Ex.lst x6 h1
          · rw [List.getElem?_append_right (by omega)] at hk
            have hk0 : k = ls.length := by
              have := (List.getElem?_eq_some_iff.mp hk).1; simp at this; omega
            subst hk0
            simp at hk; subst hk
            rw [upd_ne hDp, C5.len]; exact a6
        · intro e
          rcases List.mem_append.mp e with z | z
          · exact hpl z
          · exact hDp (List.mem_singleton.mp z).symm
    · rintro σ H5 ⟨ls, l, v3, hl, rfl, x5, ap, C5, hpl⟩
      rw [List.length_map] at C5
      exact ⟨.ref p, rfl, q p ls H5 x5 npH hpl ap C5⟩
def spUnlike (K : PySem.W.Frag) (Pt : Addr) : Sp := fun vs H Q _ => ∃ (a b : Addr) (ns ms : List Int), vs = [.ref a, .ref b] ∧ SqT K H a (ns.map V.int) ∧ SqT K H b (ms.map V.int) ∧ TabG H Pt ∧ IsRow ns ∧ IsRow ms ∧ ns.length = ms.length ∧
  ∀ v H', Ex H H' → CornV H' v (more ns ms).head? → Q v H'
theorem d_unlike_corner {Pt : Addr} (F : FnP K "unlike_corner" s_unlike_corner f fd) (g : mg "unlike_corner" = some (.ref f)) (B : Bl mg) (C_check_rows : CallD P w K mg base n "check_rows" ["row", "other"] (spCheckRows K Pt)) (C_corners : CallD P w K mg base n "corners" ["row"] (spCorners K Pt)) : CallD P w K mg base (n + 1) "unlike_corner" ["row", "other"] (spUnlike K Pt) := by
  refine callD F g sc_unlike_corner (fun _ _ _ _ _ _ us hl => match us, hl with | [_, _], _ => rfl) (fun vs H Q E h => ?_) (fun cdv A outer s H vs Q E _ hr hG h => ?_)
  · obtain ⟨a, b, ns, ms, rfl, _⟩ := h; rfl
  · obtain ⟨a, b, ns, ms, rfl, hT, hT2, hTab, hR, hR2, hl, q⟩ := h
    refine ⟨_, (pss_cons (ps_expr (pe_c C_check_rows hr hG (pa_cons (pv 0) (pa_cons (pv 1) pa_nil))))
      (pss_cons (ps_set (i := 2) sc_unlike_corner.nd rfl (Or.inl rfl) (pe_callTy cr_range1 (by rfl) B.range (by decide +kernel) (pa_cons (pe_op op_add (pe_callB (k_len (K := K) rfl) (by rfl) B.len PySem.boot_len (pa_cons (pv 0) pa_nil)) pe_int) pa_nil)))
      (pss_cons (ps_set (i := 3) sc_unlike_corner.nd rfl (Or.inl rfl) (pe_c C_corners hr hG (pa_cons (pv 0) pa_nil)))
      (pss_cons (ps_set (i := 4) sc_unlike_corner.nd rfl (Or.inl rfl) (pe_c C_corners hr hG (pa_cons (pv 1) pa_nil)))
      (pss_cons (ps_for PassesOwn.never rfl (pi_rngV (pv 2)) (pg_name (i := 5) sc_unlike_corner.nd rfl (Or.inl rfl))
      (pss_one (ps_for PassesOwn.never rfl (pi_rngV (pv 2)) (pg_name (i := 6) sc_unlike_corner.nd rfl (Or.inl rfl))
      (pss_one (ps_if (pt_cmpR op_gt (pe_ix (k_ixl (K := K) rfl) (pe_ix (k_ixl (K := K) rfl) (pv 3) (pv 5) (fun _ _ => rfl)) (pv 6) (fun _ _ => rfl)) (pe_ix (k_ixl (K := K) rfl) (pe_ix (k_ixl (K := K) rfl) (pv 4) (pv 5) (fun _ _ => rfl)) (pv 6) (fun _ _ => rfl)) (nomark _))
      (pss_one (ps_ret (pe_tup (pa_cons (pv 5) (pa_cons (pv 6) pa_nil)))))
      pss_nil)))))
      (pss_one (ps_ret pe_non))))))), ?_⟩
    have hn9 := hR.2.1
    refine ⟨.ref a, rfl, .ref b, rfl, a, b, ns, ms, rfl, hT, hT2, hTab, hR, hR2, hl, fun H1 x1 => ?_⟩
    refine ⟨.ref a, rfl, a, _, rfl, .inr (x1.sqt hT), _, _, rfl, rfl, _, rfl, fun pl npl => ?_⟩
    rw [List.length_map]
    have x2 : Ex H1 (upd H1 pl (.rng 0 ((ns.length : Int) + 1))) := ex_new npl
    have a2 : (upd H1 pl (.rng 0 ((ns.length : Int) + 1))) pl = some (.rng 0 ((ns.length : Int) + 1)) := upd_same
    generalize upd H1 pl (.rng 0 ((ns.length : Int) + 1)) = H2 at x2 a2 ⊢
    have y2 := x1.trans x2
    refine ⟨.ref a, rfl, a, ns, rfl, y2.sqt hT, y2.tab hTab, hR, fun p1 ls1 H3 x3 np1 _ a3 C1 => ?_⟩
    have y3 := y2.trans x3
    refine ⟨.ref b, rfl, b, ms, rfl, y3.sqt hT2, y3.tab hTab, hR2, fun p2 ls2 H4 x4 np2 _ a4 C2 => ?_⟩
    have y4 := y3.trans x4
    have apl := (x3.trans x4).rng a2
    have ap1 := Ex.lst x4 a3
    have eN : (((ns.length : Int) + 1) - 0).toNat = ns.length + 1 := by omega
    have bd : -(2 ^ 62) ≤ (0 : Int) ∧ (0 : Int) < 2 ^ 62 ∧ -(2 ^ 62) ≤ (ns.length : Int) + 1 ∧ (ns.length : Int) + 1 < 2 ^ 62 := ⟨by decide, by decide, by omega, by omega⟩
    refine ⟨.ref pl, rfl, pl, 0, _, rfl, apl, bd, ?_⟩
    rw [eN]
    refine for_it walk_range (fun i σ H5 => ∃ v5 v6, σ = [some (.ref a), some (.ref b), some (.ref pl), some (.ref p1), some (.ref p2), v5, v6] ∧ Ex H4 H5 ∧ ∀ i' j' : Nat, i' < i → j' < ns.length + 1 → ¬ cnt ms i' j' < cnt ns i' j') ⟨none, none, rfl, ExB.refl, fun _ _ h => absurd h (Nat.not_lt_zero _)⟩ (fun _ _ _ _ _ => trivial) ?_ ?_
    · rintro i x σ H5 H5' hi ⟨v5, v6, rfl, x5, hno⟩ ⟨rfl, rfl⟩
      refine ⟨.ref pl, rfl, pl, 0, _, rfl, x5.rng apl, bd, ?_⟩
      rw [eN]
      refine for_it walk_range (fun j σ H6 => ∃ v6, σ = [some (.ref a), some (.ref b), some (.ref pl), some (.ref p1), some (.ref p2), some (.int (0 + (i : Int))), v6] ∧ Ex H4 H6 ∧ ∀ j' : Nat, j' < j → ¬ cnt ms i j' < cnt ns i j') ⟨v6, rfl, x5, fun _ h => absurd h (Nat.not_lt_zero _)⟩ (fun _ _ _ _ _ => trivial) ?_ ?_
      · rintro j x σ H6 H6' hj ⟨v6, rfl, x6, hnj⟩ ⟨rfl, rfl⟩
        have hi1 : i < ls1.length := by rw [C1.len]; exact hi
        have hi2 : i < ls2.length := by rw [C2.len, ← hl]; exact hi
        have g1 : (ls1.map V.ref)[i]? = some (.ref ls1[i]) := by rw [List.getElem?_map, List.getElem?_eq_getElem hi1]; rfl
        have g2 : (ls2.map V.ref)[i]? = some (.ref ls2[i]) := by rw [List.getElem?_map, List.getElem?_eq_getElem hi2]; rfl
        have l1 := C1.at_ i _ (List.getElem?_eq_getElem hi1)
        have l2 := C2.at_ i _ (List.getElem?_eq_getElem hi2)
        have c1 : ((cl ns i).map V.int)[j]? = some (.int (cnt ns i j : Int)) := by rw [List.getElem?_map, cl_get ns i hj]; rfl
        have c2 : ((cl ms i).map V.int)[j]? = some (.int (cnt ms i j : Int)) := by rw [List.getElem?_map, cl_get ms i (by rw [← hl]; exact hj)]; rfl
        refine ⟨_, rfl, _, rfl, p1, _, _, _, rfl, rfl, SqL.of (Ex.lst x6 ap1), at_of (by omega) g1, _, rfl, _, _, _, _, rfl, rfl, SqL.of (Ex.lst x6 (Ex.lst x4 l1)), at_of (by omega) c1, ?_⟩
        refine ⟨_, rfl, _, rfl, p2, _, _, _, rfl, rfl, SqL.of (Ex.lst x6 a4), at_of (by omega) g2, _, rfl, _, _, _, _, rfl, rfl, SqL.of (Ex.lst x6 l2), at_of (by omega) c2, ?_⟩
        refine ⟨_, _, rfl, rfl, _, rfl, ?_⟩
        by_cases hc : cnt ms i j < cnt ns i j
        · have hc2 : (cnt ms i j : Int) < (cnt ns i j : Int) := by omega
          rw [decide_eq_true hc2]
          refine iteT ⟨_, rfl, _, rfl, by show 2 ≤ sizeLine; decide, fun T nT => ?_⟩
          refine q _ _ ((y4.trans x6).trans (ex_new nT)) ?_
          rw [more_head hi hj hc hno hnj]
          refine ⟨T, rfl, ?_⟩
          rw [upd_same]
          show some (HO.tup [V.int (0 + (i : Int)), V.int (0 + (j : Int))]) = some (HO.tup [V.int (i : Int), V.int (j : Int)])
          rw [Int.zero_add, Int.zero_add]
        · have hc2 : ¬ (cnt ms i j : Int) < (cnt ns i j : Int) := by omega
          rw [decide_eq_false hc2]
          refine iteF ⟨_, rfl, x6, fun j' hj' => ?_⟩
          rcases Nat.lt_succ_iff_lt_or_eq.mp hj' with z | z
          · exact hnj j' z
          · rw [z]; exact hc
      · rintro σ H6 ⟨v6, rfl, x6, hnj⟩
        refine ⟨_, _, rfl, x6, fun i' j' hi' hj' => ?_⟩
        rcases Nat.lt_succ_iff_lt_or_eq.mp hi' with z | z
        · exact hno i' j' z hj'
        · rw [z]; exact hnj j' hj'
    · rintro σ H5 ⟨v5, v6, rfl, x5, hno⟩
      refine q _ _ (y4.trans x5) ?_
      rw [more_nil fun i j hi hj => hno i j hi hj]
      rfl
end
end K70
namespace K70
open PySem PySem.Spec PyProof.Rows L2 GxR MM
section
variable {P : Program} {w : World} {K : PySem.W.Frag} {mg : Str → Option Value} {base : Heap} {f : Addr} {fd : FuncData} {n : Nat}
def spBelow (K : PySem.W.Frag) (Pt : Addr) : Sp := fun vs H Q _ => ∃ (a b : Addr) (ns ms : List Int), vs = [.ref a, .ref b] ∧ SqT K H a (ns.map V.int) ∧ SqT K H b (ms.map V.int) ∧ TabG H Pt ∧ IsRow ns ∧ IsRow ms ∧ ns.length = ms.length ∧
  ∀ H', Ex H H' → Q (.bl (decide (more ns ms = []))) H'
theorem d_below {Pt : Addr} (F : FnP K "below" s_below f fd) (g : mg "below" = some (.ref f)) (C_unlike_corner : CallD P w K mg base n "unlike_corner" ["row", "other"] (spUnlike K Pt)) : CallD P w K mg base (n + 1) "below" ["row", "other"] (spBelow K Pt) := by
  refine callD F g sc_below (fun _ _ _ _ _ _ us hl => match us, hl with | [_, _], _ => rfl) (fun vs H Q E h => ?_) (fun cdv A outer s H vs Q E _ hr hG h => ?_)
  · obtain ⟨a, b, ns, ms, rfl, _⟩ := h; rfl
  · obtain ⟨a, b, ns, ms, rfl, hT, hT2, hTab, hR, hR2, hl, q⟩ := h
    refine ⟨_, (pss_one (ps_ret (pe_cmpR op_isN (pe_c C_unlike_corner hr hG (pa_cons (pv 0) (pa_cons (pv 1) pa_nil))) pe_non (nomark _)))), ?_⟩
    refine ⟨.ref a, rfl, .ref b, rfl, a, b, ns, ms, rfl, hT, hT2, hTab, hR, hR2, hl, fun v H1 x1 hv => ?_⟩
    have e : decide (more ns ms = []) = decide (v = .non) := by
      cases q : more ns ms with
      | nil => rw [q] at hv; rw [show v = .non from hv]; rfl
      | cons p l =>
        rw [q] at hv
        obtain ⟨T, rfl, _⟩ := hv
        rfl
    have h2 := q H1 x1
    rw [e] at h2
    exact ⟨rfl, h2⟩
def spGap : Sp := fun vs H Q _ => ∃ i m : Int, vs = [.int i, .int m] ∧ Q (.bl (decide (0 ≤ i ∧ i ≤ m - 2))) H
theorem d_is_gap (F : FnP K "is_gap" s_is_gap f fd) (g : mg "is_gap" = some (.ref f)) (C_is_whole : CallD P w K mg base n "is_whole" ["thing"] (spWhole K)) : CallD P w K mg base (n + 1) "is_gap" ["thing", "many"] spGap := by
  refine callD F g sc_is_gap (fun _ _ _ _ _ _ us hl => match us, hl with | [_, _], _ => rfl) (fun vs H Q E h => ?_) (fun cdv A outer s H vs Q E _ hr hG h => ?_)
  · obtain ⟨x, m, rfl, _⟩ := h; rfl
  · obtain ⟨i, m, rfl, q⟩ := h
    refine ⟨_, (pss_one (ps_ret (pe_and (pe_c C_is_whole hr hG (pa_cons (pv 0) pa_nil)) (pe_one (pe_chain op_le op_le pe_int (pv 0) (pe_op op_sub (pv 1) pe_int)))))), ?_⟩
    refine ⟨.int i, rfl, .int i, "int", rfl, .int i, true, rfl, iteT ?_⟩
    refine ⟨_, rfl, _, _, rfl, rfl, decide (0 ≤ i), rfl, ?_⟩
    by_cases h1 : 0 ≤ i
    · rw [decide_eq_true h1]
      refine iteT ⟨_, rfl, _, _, rfl, rfl, _, _, rfl, rfl, ?_⟩
      have e : decide (0 ≤ i ∧ i ≤ m - 2) = decide (i ≤ m - 2) := by rw [Bool.eq_iff_iff]; simp [h1]
      rw [e] at q; exact q
    · rw [decide_eq_false h1]
      refine iteF ?_
      have e : decide (0 ≤ i ∧ i ≤ m - 2) = false := by simp [h1]
      rw [e] at q; exact q
theorem row_get {ns : List Int} {k : Nat} (hk : k < ns.length) : (ns.map V.int)[k]? = some (.int (ns.getD k 0)) := by rw [List.getElem?_map, getD_some hk]; rfl
def spSwF : Sp := fun vs H Q _ => ∃ (a : Addr) (ns : List Int) (g : Nat), vs = [.ref a, .int g] ∧ FTup H a (ns.map V.int) ∧ g + 1 < ns.length ∧ ns.length ≤ 9 ∧ ∀ p H', Ex H H' → FTup H' p ((swL ns g).map V.int) → Q (.ref p) H'
theorem d_swapped (F : FnP K "swapped" s_swapped f fd) (g : mg "swapped" = some (.ref f)) : CallD P w K mg base (n + 1) "swapped" ["row", "gap"] spSwF := by
  refine callD F g sc_swapped (fun _ _ _ _ _ _ us hl => match us, hl with | [_, _], _ => rfl) (fun vs H Q E h => ?_) (fun cdv A outer s H vs Q E _ hr hG h => ?_)
  · obtain ⟨a, ns, g, rfl, _⟩ := h; rfl
  · obtain ⟨a, ns, g, rfl, hT, hg, h9, q⟩ := h
    refine ⟨_, (pss_one (ps_ret (pe_op k_catF (pe_op k_catF (pe_slice k_slF (pv 0) po_none (po_some (pv 1))) (pe_tupF (pa_cons (pe_ix (k_ixt (K := K) rfl) (pv 0) (pe_op op_add (pv 1) pe_int) (fun _ _ => rfl)) (pa_cons (pe_ix (k_ixt (K := K) rfl) (pv 0) (pv 1) (fun _ _ => rfl)) pa_nil)))) (pe_slice k_slF (pv 0) (po_some (pe_op op_add (pv 1) pe_int)) po_none)))), ?_⟩
    have sl : sizeLine = 16777216 := by decide
    refine ⟨_, rfl, _, rfl, _, rfl, a, _, rfl, hT, fun p1 H1 x1 h1 => ?_⟩
    rw [cutV_to] at h1
    have eg : (g : Int) + 1 = ((g + 1 : Nat) : Int) := by omega
    refine ⟨_, rfl, _, rfl, _, _, rfl, rfl, a, _, _, _, rfl, rfl, (hT.ex x1).sqt, by rw [eg]; exact at_of (by omega) (row_get hg), ?_⟩
    refine ⟨_, rfl, _, rfl, a, _, _, _, rfl, rfl, (hT.ex x1).sqt, at_of (by omega) (row_get (k := g) (by omega)), by show 2 ≤ sizeLine; decide, fun t H2 x2 nt ht => ?_⟩
    refine ⟨p1, t, _, _, rfl, rfl, h1.ex x2, ht, by rw [List.length_take, List.length_map, sl]; simp; omega, fun p3 H3 x3 h3 => ?_⟩
    refine ⟨_, rfl, _, rfl, _, _, rfl, rfl, _, rfl, a, _, rfl, (hT.ex x1).ex (x2.trans x3), fun p4 H4 x4 h4 => ?_⟩
    rw [show (g : Int) + 2 = ((g + 2 : Nat) : Int) by omega, cutV_from] at h4
    refine ⟨p3, p4, _, _, rfl, rfl, h3.ex x4, h4, by simp [sl]; omega, fun p5 H5 x5 h5 => ?_⟩
    refine q p5 H5 ((((x1.trans x2).trans x3).trans x4).trans x5) ?_
    unfold swL
    rw [List.map_append, List.map_append, List.map_take, List.map_drop]
    exact h5
def spLesser (K : PySem.W.Frag) : Sp := fun vs H Q _ => ∃ (a : Addr) (ns : List Int) (g : Nat), vs = [.ref a, .int g] ∧ SqT K H a (ns.map V.int) ∧ g + 1 < ns.length ∧ Q (.bl (decide (ns.getD g 0 < ns.getD (g + 1) 0))) H
theorem d_lesser_ahead (F : FnP K "lesser_ahead" s_lesser_ahead f fd) (g : mg "lesser_ahead" = some (.ref f)) : CallD P w K mg base (n + 1) "lesser_ahead" ["row", "gap"] (spLesser K) := by
  refine callD F g sc_lesser_ahead (fun _ _ _ _ _ _ us hl => match us, hl with | [_, _], _ => rfl) (fun vs H Q E h => ?_) (fun cdv A outer s H vs Q E _ hr hG h => ?_)
  · obtain ⟨a, ns, g, rfl, _⟩ := h; rfl
  · obtain ⟨a, ns, g, rfl, hT, hg, q⟩ := h
    refine ⟨_, (pss_one (ps_ret (pe_cmpR op_lt (pe_ix (k_ixt (K := K) rfl) (pv 0) (pv 1) (fun _ _ => rfl)) (pe_ix (k_ixt (K := K) rfl) (pv 0) (pe_op op_add (pv 1) pe_int) (fun _ _ => rfl)) (nomark _)))), ?_⟩
    exact ⟨_, rfl, _, rfl, a, _, _, _, rfl, rfl, hT, at_of rfl (row_get (k := g) (by omega)), _, rfl, _, rfl, _, _, rfl, rfl, a, _, _, _, rfl, rfl, hT, at_of (j := g + 1) (by omega) (row_get hg), _, _, rfl, rfl, q⟩
def spCheckMany : Sp := fun vs H Q _ => ∃ i : Int, vs = [.int i] ∧ 1 ≤ i ∧ i ≤ 9 ∧ Q .non H
theorem d_check_many (F : FnP K "check_many" s_check_many f fd) (g : mg "check_many" = some (.ref f)) (C_is_many : CallD P w K mg base n "is_many" ["thing"] spMany) : CallD P w K mg base (n + 1) "check_many" ["many"] spCheckMany := by
  refine callD F g sc_check_many (fun _ _ _ _ _ _ us hl => match us, hl with | [_], _ => rfl) (fun vs H Q E h => ?_) (fun cdv A outer s H vs Q E _ hr hG h => ?_)
  · obtain ⟨i, rfl, _⟩ := h; rfl
  · obtain ⟨i, rfl, h1, h9, q⟩ := h
    refine ⟨_, (pss_one (ps_if (pt_not (pt_val (pe_c C_is_many hr hG (pa_cons (pv 0) pa_nil))))
      (pss_one ps_never)
      pss_nil)), ?_⟩
    refine ⟨_, rfl, i, rfl, ?_⟩
    rw [decide_eq_true (⟨h1, h9⟩ : 1 ≤ i ∧ i ≤ 9)]
    exact ⟨_, rfl, iteF q⟩
def spBook (K : PySem.W.Frag) (Pb : Addr) : Sp := fun vs H Q _ => ∃ (a : Addr) (gs : List Int) (m : Nat), vs = [.ref a, .int m] ∧ SqT K H a (gs.map V.int) ∧ TabG H Pb ∧ 1 ≤ m ∧ m ≤ 9 ∧ BookOk m gs ∧ ∀ H', Ex H H' → Q (.bl true) H'
theorem d_is_book {c Pb fG fW : Addr} {fdG fdW : FuncData} (F : FnP K "is_book" s_is_book f fd) (g : mg "is_book" = some (.ref f)) (B : Bl mg) (C_check_many : CallD P w K mg base n "check_many" ["many"] spCheckMany) (FG : FnP K "is_gap" s_is_gap fG fdG) (gG : mg "is_gap" = some (.ref fG)) (FW : FnP K "is_whole" s_is_whole fW fdW) (gW : mg "is_whole" = some (.ref fW))
    (TB : TabB base mg c Pb) (hc : ∀ oc od fd osl, K.lookup f = some ⟨oc, od, .func fd, osl⟩ → fd.code = .ref c) : CallD P w K mg base (n + 1) "is_book" ["thing", "many"] (spBook K Pb) := by
  refine callD F g sc_is_book (fun _ _ _ _ _ _ us hl => match us, hl with | [_, _], _ => rfl) (fun vs H Q E h => ?_) (fun cdv A outer s H vs Q E hcd0 hr hG h => ?_)
  · obtain ⟨a, gs, m, rfl, _⟩ := h; rfl
  · obtain ⟨a, gs, m, rfl, hT, hTab, h1, h9, hB, q⟩ := h
    have hcd : cdv = .ref c := by
      obtain ⟨oc, od, dV, kV, doc, pm, an, cdv', ct, osl, e1, lk, _⟩ := F.ex
      rw [← hcd0 _ _ _ _ lk]; exact hc _ _ _ _ lk
    subst hcd
    refine ⟨_, (pss_cons (ps_expr (pe_c C_check_many hr hG (pa_cons (pv 1) pa_nil)))
      (pss_one (ps_ret (pe_and (pe_callB (k_isi (K := K) rfl) (by rfl) B.isinstance (by decide +kernel) (pa_cons (pv 0) (pa_cons (pe_bltn (v := .ty "tuple") (by rfl) B.tuple (by decide +kernel) rfl) pa_nil))) (pe_one (pe_allT (ok := fun σ H v => (∃ T, Kd _ H v T) ∧ ∃ m : Int, σ[1]? = some (some (.int m))) (pb := gapAt 1) hr (by rfl) B.all (by decide +kernel) TB rfl ⟨rfl, rfl, by decide +kernel, rfl, rfl, fun y hy e => free_one (z := "many") (by decide +kernel) rfl y hy e⟩ (pv 0) (elt_gap FG FW hr gG gW B.isinstance B.int B.bool rfl ⟨_, _, _, _, _, _, _, _, _, _, _, rfl⟩ (fun _ _ _ _ _ _ us hl => match us, hl with | [_, _], _ => rfl) rfl ⟨_, _, _, _, _, _, _, _, _, _, _, ⟨0, 0, 0, 0⟩, rfl⟩ (fun _ _ _ _ _ _ us hl => match us, hl with | [_], _ => rfl) rfl rfl rfl rfl rfl (fun c hc => by cases hc; rfl) rfl) (fun _ => rfl))))))), ?_⟩
    refine ⟨_, rfl, (m : Int), rfl, by omega, by omega, ?_⟩
    refine ⟨.ref a, rfl, .ref a, .ty "tuple", _, _, true, rfl, .ty _, (Kd.tup hT).ty, kd_tuple (Kd.tup hT), true, rfl, ?_⟩
    refine ⟨.ref a, rfl, a, gs.map V.int, rfl, hT, hTab, fun x hx => ⟨by obtain ⟨i, _, rfl⟩ := List.mem_map.mp hx; exact ⟨_, .int i⟩, (m : Int), rfl⟩, fun H2 t2 => ?_⟩
    have e2 : (gs.map V.int).all (gapAt 1 [some (.ref a), some (.int (m : Int))]) = true := by
      rw [List.all_eq_true]; intro x hx; obtain ⟨i, hi, rfl⟩ := List.mem_map.mp hx
      have := hB i hi
      show decide (0 ≤ i ∧ i ≤ (m : Int) - 2) = true
      exact decide_eq_true ⟨this.1, by omega⟩
    have q2 := q H2 (ex_tab hTab t2)
    rw [← e2] at q2
    exact q2
def spCheckBook (K : PySem.W.Frag) (Pb : Addr) : Sp := fun vs H Q _ => ∃ (a : Addr) (gs : List Int) (m : Nat), vs = [.ref a, .int m] ∧ SqT K H a (gs.map V.int) ∧ TabG H Pb ∧ 1 ≤ m ∧ m ≤ 9 ∧ BookOk m gs ∧ ∀ H', Ex H H' → Q .non H'
theorem d_check_book {Pb : Addr} (F : FnP K "check_book" s_check_book f fd) (g : mg "check_book" = some (.ref f)) (C_is_book : CallD P w K mg base n "is_book" ["thing", "many"] (spBook K Pb)) : CallD P w K mg base (n + 1) "check_book" ["book", "many"] (spCheckBook K Pb) := by
  refine callD F g sc_check_book (fun _ _ _ _ _ _ us hl => match us, hl with | [_, _], _ => rfl) (fun vs H Q E h => ?_) (fun cdv A outer s H vs Q E _ hr hG h => ?_)
  · obtain ⟨a, gs, m, rfl, _⟩ := h; rfl
  · obtain ⟨a, gs, m, rfl, hT, hTab, h1, h9, hB, q⟩ := h
    refine ⟨_, (pss_one (ps_if (pt_not (pt_val (pe_c C_is_book hr hG (pa_cons (pv 0) (pa_cons (pv 1) pa_nil)))))
      (pss_one ps_never)
      pss_nil)), ?_⟩
    exact ⟨_, rfl, _, rfl, a, gs, m, rfl, hT, hTab, h1, h9, hB, fun H' x => ⟨_, rfl, iteF (q H' x)⟩⟩
end
end K70
namespace K70
open PySem PySem.Spec PyProof.Rows L2 GxR MM
section
variable {P : Program} {w : World} {K : PySem.W.Frag} {mg : Str → Option Value} {base : Heap} {f : Addr} {fd : FuncData} {n : Nat}
def spRowOfF : Sp := fun vs H Q _ => ∃ m : Nat, vs = [.int m] ∧ 1 ≤ m ∧ m ≤ 9 ∧ ∀ p H', Ex H H' → FTup H' p ((row0 m).map V.int) → Q (.ref p) H'
theorem d_row_of (F : FnP K "row_of" s_row_of f fd) (g : mg "row_of" = some (.ref f)) (B : Bl mg) (C_check_many : CallD P w K mg base n "check_many" ["many"] spCheckMany) : CallD P w K mg base (n + 1) "row_of" ["many"] spRowOfF := by
  refine callD F g sc_row_of (fun _ _ _ _ _ _ us hl => match us, hl with | [_], _ => rfl) (fun vs H Q E h => ?_) (fun cdv A outer s H vs Q E _ hr hG h => ?_)
  · obtain ⟨m, rfl, _⟩ := h; rfl
  · obtain ⟨m, rfl, h1, h9, q⟩ := h
    refine ⟨_, (pss_cons (ps_expr (pe_c C_check_many hr hG (pa_cons (pv 0) pa_nil)))
      (pss_one (ps_ret (pe_tupRgF rfl (by rfl) B.tuple (prg_1 (by rfl) B.range (pv 0)))))), ?_⟩
    refine ⟨_, rfl, (m : Int), rfl, by omega, by omega, ?_⟩
    refine ⟨_, rfl, _, rfl, RgOk.of_le (Int.le_refl _) (by omega) (by decide) (by omega), fun p H1 x1 np hp => ?_⟩
    rw [show rgV 0 (m : Int) = (row0 m).map V.int from rgV_ints m] at hp
    exact q p H1 x1 hp
def spFarF (K : PySem.W.Frag) : Sp := fun vs H Q _ => ∃ (t a : Addr) (r gs : List Int) (m : Nat), vs = [.ref t, .ref a] ∧ FTup H t (r.map V.int) ∧ SqT K H a (gs.map V.int) ∧ IsRow r ∧ r.length = m ∧ m ≤ 9 ∧ BookOk m gs ∧ ∀ p H', Ex H H' → FTup H' p ((farL r gs).map V.int) → Q (.ref p) H'
theorem d_farthest_from (F : FnP K "farthest_from" s_farthest_from f fd) (g : mg "farthest_from" = some (.ref f)) (C_lesser_ahead : CallD P w K mg base n "lesser_ahead" ["row", "gap"] (spLesser K)) (C_swapped : CallD P w K mg base n "swapped" ["row", "gap"] spSwF) : CallD P w K mg base (n + 1) "farthest_from" ["row", "book"] (spFarF K) := by
  refine callD F g sc_farthest_from (fun _ _ _ _ _ _ us hl => match us, hl with | [_, _], _ => rfl) (fun vs H Q E h => ?_) (fun cdv A outer s H vs Q E _ hr hG h => ?_)
  · obtain ⟨t, a, r, gs, m, rfl, _⟩ := h; rfl
  · obtain ⟨t, a, r, gs, m, rfl, hR, hT, hrow, hlen, h9, hB, q⟩ := h
    refine ⟨_, (pss_cons (ps_for PassesOwn.never rfl (k_piT (K := K) rfl (pv 1)) (pg_name (i := 2) sc_farthest_from.nd rfl (Or.inl rfl))
      (pss_one (ps_if (pt_val (pe_c C_lesser_ahead hr hG (pa_cons (pv 0) (pa_cons (pv 2) pa_nil))))
      (pss_one (ps_set (i := 0) sc_farthest_from.nd rfl (Or.inl rfl) (pe_c C_swapped hr hG (pa_cons (pv 0) (pa_cons (pv 2) pa_nil)))))
      pss_nil)))
      (pss_one (ps_ret (pv 0)))), ?_⟩
    have okk := fun i => farL_ok (gs := gs.take i) (fun x hx => hB x (List.mem_of_mem_take hx)) hrow hlen
    refine ⟨_, rfl, a, rfl, ⟨_, hT⟩, for_it (walk_tup (xs := gs.map V.int)) (fun i σ H5 => ∃ (p : Addr) (v3 : Option V), σ = [some (.ref p), some (.ref a), v3] ∧ Ex H H5 ∧ FTup H5 p ((farL r (gs.take i)).map V.int)) ⟨t, none, rfl, ExB.refl, hR⟩ (fun i σ H5 _ ⟨_, _, _, x, _⟩ => x.sqt hT) ?_ ?_⟩
    · rintro i x σ H5' H5 hi ⟨p, v3, rfl, x5, hp⟩ ⟨rfl, hx⟩
      rw [List.length_map] at hi
      obtain ⟨gp, eg, hg⟩ := book_at hB hi
      rw [row_get hi, eg] at hx
      cases hx
      obtain ⟨hri, hrl⟩ := okk i
      have ev : farL r (gs.take (i + 1)) = upS (farL r (gs.take i)) gp := by rw [List.take_add_one, getD_some hi, farL_app, eg]; show upS _ ((gp : Int)).toNat = _; rw [Int.toNat_natCast]
      refine ⟨_, rfl, _, rfl, p, _, gp, rfl, hp.sqt, by rw [hrl]; exact hg, _, rfl, ?_⟩
      unfold upS at ev
      by_cases hc : (farL r (gs.take i)).getD gp 0 < (farL r (gs.take i)).getD (gp + 1) 0
      · rw [if_pos hc] at ev
        rw [decide_eq_true hc]
        refine iteT ⟨_, rfl, _, rfl, p, _, gp, rfl, hp, by rw [hrl]; exact hg, by rw [hrl]; exact h9, fun p2 H6 x6 hp2 => ?_⟩
        exact ⟨p2, _, rfl, x5.trans x6, by rw [ev]; exact hp2⟩
      · rw [if_neg hc] at ev
        rw [decide_eq_false hc]
        exact iteF ⟨p, _, rfl, x5, by rw [ev]; exact hp⟩
    · rintro σ H5 ⟨p, v3, rfl, x5, hp⟩
      rw [List.length_map, List.take_length] at hp
      exact ⟨_, rfl, q p H5 x5 hp⟩
def spFar (K : PySem.W.Frag) (Pb : Addr) : Sp := fun vs H Q _ => ∃ (a : Addr) (gs : List Int) (m : Nat), vs = [.ref a, .int m] ∧ SqT K H a (gs.map V.int) ∧ TabG H Pb ∧ 1 ≤ m ∧ m ≤ 9 ∧ BookOk m gs ∧ ∀ p H', Ex H H' → FTup H' p ((farL (row0 m) gs).map V.int) → Q (.ref p) H'
theorem d_farthest {Pb : Addr} (F : FnP K "farthest" s_farthest f fd) (g : mg "farthest" = some (.ref f)) (C_check_book : CallD P w K mg base n "check_book" ["book", "many"] (spCheckBook K Pb)) (C_row_of : CallD P w K mg base n "row_of" ["many"] spRowOfF) (C_farthest_from : CallD P w K mg base n "farthest_from" ["row", "book"] (spFarF K)) : CallD P w K mg base (n + 1) "farthest" ["book", "many"] (spFar K Pb) := by
  refine callD F g sc_farthest (fun _ _ _ _ _ _ us hl => match us, hl with | [_, _], _ => rfl) (fun vs H Q E h => ?_) (fun cdv A outer s H vs Q E _ hr hG h => ?_)
  · obtain ⟨a, gs, m, rfl, _⟩ := h; rfl
  · obtain ⟨a, gs, m, rfl, hT, hTab, h1, h9, hB, q⟩ := h
    refine ⟨_, (pss_cons (ps_expr (pe_c C_check_book hr hG (pa_cons (pv 0) (pa_cons (pv 1) pa_nil))))
      (pss_one (ps_ret (pe_c C_farthest_from hr hG (pa_cons (pe_c C_row_of hr hG (pa_cons (pv 1) pa_nil)) (pa_cons (pv 0) pa_nil)))))), ?_⟩
    refine ⟨_, rfl, _, rfl, a, gs, m, rfl, hT, hTab, h1, h9, hB, fun H1 x1 => ?_⟩
    refine ⟨_, rfl, m, rfl, h1, h9, fun t0 H2 x2 ht0 => ?_⟩
    have y2 := x1.trans x2
    exact ⟨_, rfl, t0, a, _, gs, m, rfl, ht0, y2.sqt hT, row0_row h1 h9, row0_len m, h9, hB, fun p H5 x5 hp => q p H5 (y2.trans x5) hp⟩
def spBookRow (K : PySem.W.Frag) (Pr Pb : Addr) : Sp := fun vs H Q _ => ∃ (a r : Addr) (gs ns : List Int), vs = [.ref a, .ref r] ∧ SqT K H a (gs.map V.int) ∧ SqT K H r (ns.map V.int) ∧ TabG H Pr ∧ TabG H Pb ∧ IsRow ns ∧ BookOk ns.length gs ∧ ∀ H', Ex H H' → Q .non H'
theorem d_check_book_and_row {Pr Pb : Addr} (F : FnP K "check_book_and_row" s_check_book_and_row f fd) (g : mg "check_book_and_row" = some (.ref f)) (B : Bl mg) (C_check_row : CallD P w K mg base n "check_row" ["row"] (spCheckRow K Pr)) (C_check_book : CallD P w K mg base n "check_book" ["book", "many"] (spCheckBook K Pb)) : CallD P w K mg base (n + 1) "check_book_and_row" ["book", "row"] (spBookRow K Pr Pb) := by
  refine callD F g sc_check_book_and_row (fun _ _ _ _ _ _ us hl => match us, hl with | [_, _], _ => rfl) (fun vs H Q E h => ?_) (fun cdv A outer s H vs Q E _ hr hG h => ?_)
  · obtain ⟨a, r, gs, ns, rfl, _⟩ := h; rfl
  · obtain ⟨a, r, gs, ns, rfl, hT, hT2, hPr, hPb, hR, hB, q⟩ := h
    refine ⟨_, (pss_cons (ps_expr (pe_c C_check_row hr hG (pa_cons (pv 1) pa_nil)))
      (pss_one (ps_expr (pe_c C_check_book hr hG (pa_cons (pv 0) (pa_cons (pe_callB (k_len (K := K) rfl) (by rfl) B.len PySem.boot_len (pa_cons (pv 1) pa_nil)) pa_nil)))))), ?_⟩
    refine ⟨_, rfl, r, ns, rfl, hT2, hPr, hR, fun H1 x1 => ?_⟩
    refine ⟨_, rfl, _, rfl, r, _, rfl, .inr (x1.sqt hT2), a, gs, ns.length, by rw [List.length_map]; rfl, x1.sqt hT, x1.tab hPb, hR.1, hR.2.1, hB, fun H2 x2 => q H2 (x1.trans x2)⟩
def spLets (K : PySem.W.Frag) (Pr Pb : Addr) : Sp := fun vs H Q _ => ∃ (a r : Addr) (gs ns : List Int), vs = [.ref a, .ref r] ∧ SqT K H a (gs.map V.int) ∧ SqT K H r (ns.map V.int) ∧ TabG H Pr ∧ TabG H Pb ∧ IsRow ns ∧ BookOk ns.length gs ∧ ∀ H', Ex H H' → Q (.bl (decide (more ns (farL (row0 ns.length) gs) = []))) H'
theorem d_lets {Pr Pb : Addr} (F : FnP K "lets" s_lets f fd) (g : mg "lets" = some (.ref f)) (B : Bl mg) (C_check_book_and_row : CallD P w K mg base n "check_book_and_row" ["book", "row"] (spBookRow K Pr Pb)) (C_below : CallD P w K mg base n "below" ["row", "other"] (spBelow K Pr)) (C_farthest : CallD P w K mg base n "farthest" ["book", "many"] (spFar K Pb)) : CallD P w K mg base (n + 1) "lets" ["book", "row"] (spLets K Pr Pb) := by
  refine callD F g sc_lets (fun _ _ _ _ _ _ us hl => match us, hl with | [_, _], _ => rfl) (fun vs H Q E h => ?_) (fun cdv A outer s H vs Q E _ hr hG h => ?_)
  · obtain ⟨a, r, gs, ns, rfl, _⟩ := h; rfl
  · obtain ⟨a, r, gs, ns, rfl, hT, hT2, hPr, hPb, hR, hB, q⟩ := h
    refine ⟨_, (pss_cons (ps_expr (pe_c C_check_book_and_row hr hG (pa_cons (pv 0) (pa_cons (pv 1) pa_nil))))
      (pss_one (ps_ret (pe_c C_below hr hG (pa_cons (pv 1) (pa_cons (pe_c C_farthest hr hG (pa_cons (pv 0) (pa_cons (pe_callB (k_len (K := K) rfl) (by rfl) B.len PySem.boot_len (pa_cons (pv 1) pa_nil)) pa_nil))) pa_nil)))))), ?_⟩
    refine ⟨_, rfl, _, rfl, a, r, gs, ns, rfl, hT, hT2, hPr, hPb, hR, hB, fun H1 x1 => ?_⟩
    refine ⟨_, rfl, _, rfl, _, rfl, r, _, rfl, .inr (x1.sqt hT2), a, gs, ns.length, by rw [List.length_map]; rfl, x1.sqt hT, x1.tab hPb, hR.1, hR.2.1, hB, fun p H2 x2 hp => ?_⟩
    obtain ⟨hfr, hfl⟩ := farL_ok hB (row0_row hR.1 hR.2.1) (row0_len ns.length)
    exact ⟨r, p, ns, _, rfl, (x1.trans x2).sqt hT2, hp.sqt, (x1.trans x2).tab hPr, hR, hfr, hfl.symm, fun H3 x3 => q H3 ((x1.trans x2).trans x3)⟩
def spPlaces (Pp : Addr) : Sp := fun vs H Q _ => ∃ (a : Addr) (m : Nat) (fa fb : Nat → Nat), vs = [.ref a] ∧ FTup H a ((ofF m fa).map V.int) ∧ IsInv m fa fb ∧ m ≤ 9 ∧ TabG H Pp ∧ ∀ p H', Ex H H' → FTup H' p ((ofF m fb).map V.int) → Q (.ref p) H'
theorem d_places_of {c Pp : Addr} (F : FnP K "places_of" s_places_of f fd) (g : mg "places_of" = some (.ref f)) (B : Bl mg) (TB : TabB base mg c Pp) (hc : ∀ oc od fd osl, K.lookup f = some ⟨oc, od, .func fd, osl⟩ → fd.code = .ref c) : CallD P w K mg base (n + 1) "places_of" ["row"] (spPlaces Pp) := by
  refine callD F g sc_places_of (fun _ _ _ _ _ _ us hl => match us, hl with | [_], _ => rfl) (fun vs H Q E h => ?_) (fun cdv A outer s H vs Q E hcd0 hr hG h => ?_)
  · obtain ⟨a, m, fa, fb, rfl, _⟩ := h; rfl
  · obtain ⟨a, m, fa, fb, rfl, hT, hI, h9, hTab, q⟩ := h
    have hcd : cdv = .ref c := by
      obtain ⟨oc, od, dV, kV, doc, pm, an, cdv', ct, osl, e1, lk, _⟩ := F.ex
      rw [← hcd0 _ _ _ _ lk]; exact hc _ _ _ _ lk
    subst hcd
    refine ⟨_, (pss_one (ps_ret (pe_tupG (K := K) (ok := okIndex 0) rfl hr (by rfl) B.tuple TB rfl ⟨rfl, rfl, by decide +kernel, rfl, rfl, fun y hy e => free_one (z := "row") (by decide +kernel) rfl y hy e⟩ (pe_callTy cr_range1 (by rfl) B.range (by decide +kernel) (pa_cons (pe_callB (k_len (K := K) rfl) (by rfl) B.len PySem.boot_len (pa_cons (pv 0) pa_nil)) pa_nil)) (elt_index rfl rfl rfl rfl (fun c hc => by cases hc; rfl) rfl rfl) (fun _ => rfl)))), ?_⟩
    refine ⟨_, rfl, a, _, rfl, .inr hT.sqt, ?_⟩
    rw [List.length_map, ofF_len]
    refine ⟨_, rfl, fun p np => ?_⟩
    have x1 : Ex H (upd H p (.rng 0 (m : Int))) := ex_new np
    refine ⟨x1.tab hTab, (List.range m).map (fun (k : Nat) => V.int (k : Int)), (List.range m).map (fun (k : Nat) => some (V.int (fb k : Int))), .inr ⟨p, m, rfl, by omega, upd_same, rfl⟩, by rw [List.length_map, List.length_map], fun j x r hx hr => ?_, by rw [List.length_map, List.length_range]; omega, fun H2 tb u H3 x3 nu hF => ?_⟩
    · rw [List.getElem?_map] at hx hr
      cases e : (List.range m)[j]? with
      | none => rw [e] at hx; cases hx
      | some k =>
        obtain ⟨hk, ek⟩ := List.getElem?_eq_some_iff.mp e
        rw [List.getElem_range] at ek
        rw [e] at hx hr
        cases hx
        cases hr
        have hkm : k < m := by rw [List.length_range] at hk; omega
        obtain ⟨i1, i2⟩ := index_fact hI hkm
        exact ⟨a, ofF m fa, (k : Int), fb k, rfl, hT.ex x1, rfl, i1, fun mm hm h => i2 mm _ hm h rfl, rfl⟩
    · have e : ((List.range m).map fun (k : Nat) => some (V.int (fb k : Int))).filterMap id = (ofF m fb).map V.int := by
        unfold ofF
        rw [List.filterMap_map, List.map_map]
        exact congrFun (List.filterMap_eq_map (f := fun (k : Nat) => V.int ((fb k : Nat) : Int))) (List.range m)
      rw [e] at hF
      exact q u H3 ((x1.trans (ex_tab (x1.tab hTab) tb)).trans x3) hF
def FewV (gs y : List Int) (m : Nat) (H : Hp) (v : V) (H' : Hp) : Prop := (dnL gs y = row0 m → ∃ p, v = .ref p ∧ H p = none ∧ H' p = some (.lst (((tld gs y gs.length).map fun (k : Nat) => (k : Int)).map V.int))) ∧ (dnL gs y ≠ row0 m → v = .non)
def spFewest (K : PySem.W.Frag) (Pr Pb Pp : Addr) : Sp := fun vs H Q _ => ∃ (a r : Addr) (gs : List Int) (m : Nat) (fa fb : Nat → Nat), vs = [.ref a, .ref r] ∧ SqT K H a (gs.map V.int) ∧ FTup H r ((ofF m fa).map V.int) ∧ IsInv m fa fb ∧ 1 ≤ m ∧ m ≤ 9 ∧ BookOk m gs ∧ gs.length ≤ 60 ∧ TabG H Pr ∧ TabG H Pb ∧ TabG H Pp ∧ ∀ v H', Ex H H' → FewV gs (ofF m fb) m H v H' → Q v H'
theorem ne_rows {K : PySem.W.Frag} {H : Hp} {a b : Addr} {ns ms : List Int} (ha : SqT K H a (ns.map V.int)) (hb : SqT K H b (ms.map V.int)) (r1 : IsRow ns) (r2 : IsRow ms) {Q : VK} (q : Q (.bl (!decide (ns = ms))) H) : rNeD K (.ref a) (.ref b) H Q := by
  refine ⟨_, _, dp_row ha, dp_row hb, (nice_row r1).shaped (by decide), (nice_row r2).shaped (by decide), ?_⟩
  rw [eqv_rows]; exact q
theorem d_fewest {Pr Pb Pp : Addr} (F : FnP K "fewest" s_fewest f fd) (g : mg "fewest" = some (.ref f)) (B : Bl mg) (C_check_book_and_row : CallD P w K mg base n "check_book_and_row" ["book", "row"] (spBookRow K Pr Pb)) (C_places_of : CallD P w K mg base n "places_of" ["row"] (spPlaces Pp)) (C_lesser_ahead : CallD P w K mg base n "lesser_ahead" ["row", "gap"] (spLesser K)) (C_swapped : CallD P w K mg base n "swapped" ["row", "gap"] spSwF) (C_row_of : CallD P w K mg base n "row_of" ["many"] spRowOfF) : CallD P w K mg base (n + 1) "fewest" ["book", "row"] (spFewest K Pr Pb Pp) := by
  refine callD F g sc_fewest (fun _ _ _ _ _ _ us hl => match us, hl with | [_, _], _ => rfl) (fun vs H Q E h => ?_) (fun cdv A outer s H vs Q E _ hr hG h => ?_)
  · obtain ⟨a, r, gs, m, fa, fb, rfl, _⟩ := h; rfl
  · obtain ⟨a, r, gs, m, fa, fb, rfl, hT, hF, hI, h1, h9, hB, h60, hPr, hPb, hPp, q⟩ := h
    refine ⟨_, (pss_cons (ps_expr (pe_c C_check_book_and_row hr hG (pa_cons (pv 0) (pa_cons (pv 1) pa_nil))))
      (pss_cons (ps_set (i := 2) sc_fewest.nd rfl (Or.inl rfl) (pe_c C_places_of hr hG (pa_cons (pv 1) pa_nil)))
      (pss_cons (ps_set (i := 3) sc_fewest.nd rfl (Or.inl rfl) (pe_lst pa_nil))
      (pss_cons (ps_for PassesOwn.never rfl (pi_enT (K := K) rfl (by rfl) B.enumerate (pa_cons (pv 0) pa_nil)) (k_tup (K := K) rfl (pg_tup rfl (pgs_cons (pg_name (i := 4) sc_fewest.nd rfl (Or.inl rfl)) (pgs_cons (pg_name (i := 5) sc_fewest.nd rfl (Or.inl rfl)) pgs_nil))))
      (pss_one (ps_if (pt_not (pt_val (pe_c C_lesser_ahead hr hG (pa_cons (pv 2) (pa_cons (pv 5) pa_nil)))))
      (pss_cons (ps_set (i := 2) sc_fewest.nd rfl (Or.inl rfl) (pe_c C_swapped hr hG (pa_cons (pv 2) (pa_cons (pv 5) pa_nil))))
      (pss_one (ps_expr (k_bm (K := K) rfl PySem.F.plainAttrs_list PySem.F.slot_list_append PySem.F.type_list_append mt_append (pv 3) (pa_cons (pv 4) pa_nil)))))
      pss_nil)))
      (pss_cons (ps_if (pt_cmpR (k_ne (K := K) rfl hr.units) (pv 2) (pe_c C_row_of hr hG (pa_cons (pe_callB (k_len (K := K) rfl) (by rfl) B.len PySem.boot_len (pa_cons (pv 1) pa_nil)) pa_nil)) (nomark _))
      (pss_one (ps_ret pe_non))
      pss_nil)
      (pss_one (ps_ret (pv 3)))))))), ?_⟩
    have hR := row_ofF h1 h9 hI
    have hY := row_ofF h1 h9 hI.symm
    refine ⟨_, rfl, _, rfl, a, r, gs, ofF m fa, rfl, hT, hF.sqt, hPr, hPb, hR, by rw [ofF_len]; exact hB, fun H1 x1 => ?_⟩
    refine ⟨_, rfl, r, m, fa, fb, rfl, hF.ex x1, hI, h9, x1.tab hPp, fun l0 H2 x2 hl0 => ?_⟩
    have y2 := x1.trans x2
    refine ⟨Nat.zero_le _, fun ch nch => ?_⟩
    have x3 : Ex H2 (upd H2 ch (.lst [])) := ex_new nch
    have e3 : (upd H2 ch (.lst [])) ch = some (.lst (((tld gs (ofF m fb) 0).map fun (k : Nat) => (k : Int)).map V.int)) := upd_same
    have hl3 := hl0.ex x3
    have y3 := y2.trans x3
    have nchH : H ch = none := y2.fresh nch
    show tSeq _ _ _ _ _
    generalize upd H2 ch (.lst []) = H3 at e3 hl3 y3 ⊢
    have okk := fun i => dnL_ok (gs := gs.take i) (fun x hx => hB x (List.mem_of_mem_take hx)) hY (ofF_len m fb)
    refine ⟨_, rfl, a, _, rfl, y3.sqt hT, for_it (walk_enT (xs := gs.map V.int)) (fun i σ H4 => ∃ (p : Addr) (v4 v5 : Option V), σ = [some (.ref a), some (.ref r), some (.ref p), some (.ref ch), v4, v5] ∧ Ex H H4 ∧ FTup H4 p ((dnL (gs.take i) (ofF m fb)).map V.int) ∧ H4 ch = some (.lst (((tld gs (ofF m fb) i).map fun (k : Nat) => (k : Int)).map V.int))) ⟨l0, none, none, rfl, y3, hl3, e3⟩ (fun i σ H4 _ ⟨_, _, _, _, x, _⟩ => x.sqt hT) ?_ ?_⟩
    · rintro i x σ H4 H4' hi ⟨p, v4, v5, rfl, x4, hp, ech⟩ ⟨T, x', y', rfl, nT, rfl, g1, g2⟩
      rw [List.length_map] at hi
      have g1 : x' = .int (i : Int) := (Option.some.inj g1).symm
      obtain ⟨gp, eg, hg⟩ := book_at hB hi
      have g2 : y' = .int (gp : Int) := by
        have g2 : (gs.map V.int)[i]? = some y' := g2
        rw [row_get hi, eg] at g2; exact (Option.some.inj g2).symm
      subst g1 g2
      have x6 : Ex H4 (upd H4 T (.tup [.int (i : Int), .int (gp : Int)])) := ex_new nT
      have hp := hp.ex x6
      have ech := Ex.lst x6 ech
      have y6 := x4.trans x6
      refine ⟨T, _, rfl, SqT.of upd_same, rfl, _, _, rfl, _, _, rfl, rfl, ?_⟩
      generalize upd H4 T (.tup [.int (i : Int), .int (gp : Int)]) = H6 at hp ech y6 ⊢
      obtain ⟨rr, rl⟩ := okk i
      have egp : gapN gs i = gp := by unfold gapN; rw [eg, Int.toNat_natCast]
      refine ⟨_, rfl, _, rfl, p, _, gp, rfl, hp.sqt, by rw [rl]; exact hg, _, rfl, ?_⟩
      have en := dn_next (y := ofF m fb) hi
      have et := tld_succ gs (ofF m fb) i
      have ha : asc gs (ofF m fb) i ↔ (dnL (gs.take i) (ofF m fb)).getD gp 0 < (dnL (gs.take i) (ofF m fb)).getD (gp + 1) 0 := by unfold asc; rw [egp]
      by_cases hc : asc gs (ofF m fb) i
      · rw [if_pos hc] at en et
        rw [decide_eq_true (ha.mp hc)]
        exact iteF ⟨p, _, _, rfl, y6, by rw [en]; exact hp, by rw [et]; exact ech⟩
      · rw [if_neg hc] at en et
        rw [egp] at en
        rw [decide_eq_false (fun z => hc (ha.mpr z))]
        refine iteT ⟨_, rfl, _, rfl, p, _, gp, rfl, hp, by rw [rl]; exact hg, by rw [rl]; exact h9, fun p2 H7 x7 hp2 => ?_⟩
        have ech7 := Ex.lst x7 ech
        refine ⟨_, rfl, .inl ⟨rfl, _, SqL.of ech7⟩, _, rfl, ch, _, _, rfl, rfl, ech7, small1000 ?_, ?_⟩
        · rw [List.length_map, List.length_map]
          have : (tld gs (ofF m fb) i).length ≤ i := by unfold tld; exact Nat.le_trans (List.length_filter_le _ _) (by rw [List.length_range]; exact Nat.le_refl _)
          omega
        · have x8 : ExB (fun z => z = ch) H7 (upd H7 ch (.lst ((((tld gs (ofF m fb) i).map fun (k : Nat) => (k : Int)).map V.int) ++ [.int (i : Int)]))) := ex_set ech7
          refine ⟨p2, _, _, rfl, (y6.trans x7).then x8 fun z hz => .inl (by rw [show z = ch from hz]; exact nchH), by rw [en]; exact hp2.ex x8, ?_⟩
          rw [et, upd_same, List.map_append, List.map_append]; rfl
    · rintro σ H4 ⟨p, v4, v5, rfl, x4, hp, ech⟩
      rw [List.length_map, List.take_length] at hp
      rw [List.length_map] at ech
      obtain ⟨rr, rl⟩ := okk gs.length
      rw [List.take_length] at rr rl
      refine ⟨_, rfl, _, rfl, r, _, rfl, .inr (x4.sqt hF.sqt), m, by rw [List.length_map, ofF_len]; rfl, h1, h9, fun t H5 x5 ht => ?_⟩
      refine ne_rows (x5.sqt hp.sqt) ht.sqt rr (row0_row h1 h9) ⟨_, rfl, ?_⟩
      by_cases hd : dnL gs (ofF m fb) = row0 m
      · rw [decide_eq_true hd]
        exact iteF ⟨_, rfl, q _ _ (x4.trans x5) ⟨fun _ => ⟨ch, rfl, nchH, Ex.lst x5 ech⟩, fun z => absurd hd z⟩⟩
      · rw [decide_eq_false hd]
        exact iteT (q _ _ (x4.trans x5) ⟨fun z => absurd z hd, fun _ => rfl⟩)
end
end K70
namespace K70
open PySem PySem.Spec PyProof.Rows L2 GxR MM
section
variable {P : Program} {w : World} {K : PySem.W.Frag} {mg : Str → Option Value} {base : Heap} {f : Addr} {fd : FuncData} {n : Nat}
def spNum : Sp := fun vs H Q _ => ∃ i : Int, vs = [.int i] ∧ 0 ≤ i ∧ Q .non H
theorem d_check_number (F : FnP K "check_number" s_check_number f fd) (g : mg "check_number" = some (.ref f)) (C_is_whole : CallD P w K mg base n "is_whole" ["thing"] (spWhole K)) : CallD P w K mg base (n + 1) "check_number" ["number"] spNum := by
  refine callD F g sc_check_number (fun _ _ _ _ _ _ us hl => match us, hl with | [_], _ => rfl) (fun vs H Q E h => ?_) (fun cdv A outer s H vs Q E _ hr hG h => ?_)
  · obtain ⟨i, rfl, _⟩ := h; rfl
  · obtain ⟨i, rfl, h0, q⟩ := h
    refine ⟨_, (pss_one (ps_if (PW.pt (pw_or (pt_not (pt_val (pe_c C_is_whole hr hG (pa_cons (pv 0) pa_nil)))) (pw_or1 (pt_cmpR op_lt (pv 0) pe_int (nomark _)))))
      (pss_one ps_never)
      pss_nil)), ?_⟩
    refine ⟨_, rfl, _, _, rfl, .int i, true, rfl, ?_⟩
    refine iteF ⟨_, rfl, _, _, rfl, rfl, _, rfl, ?_⟩
    rw [decide_eq_false (by omega)]
    exact iteF q
def spFew : Sp := fun vs H Q _ => ∃ i : Int, vs = [.int i] ∧ i ≤ 6 ∧ Q .non H
theorem d_check_few (F : FnP K "check_few" s_check_few f fd) (g : mg "check_few" = some (.ref f)) {tk : Tok} (m_MOST_GONE_THROUGH : mg "MOST_GONE_THROUGH" = some (.int 6 tk)) : CallD P w K mg base (n + 1) "check_few" ["many"] spFew := by
  refine callD F g sc_check_few (fun _ _ _ _ _ _ us hl => match us, hl with | [_], _ => rfl) (fun vs H Q E h => ?_) (fun cdv A outer s H vs Q E _ hr hG h => ?_)
  · obtain ⟨i, rfl, _⟩ := h; rfl
  · obtain ⟨i, rfl, h6, q⟩ := h
    refine ⟨_, (pss_one (ps_if (pt_cmpR op_gt (pv 0) (pe_glob (v := .int 6) (by rfl) m_MOST_GONE_THROUGH ⟨_, rfl⟩) (nomark _))
      (pss_one ps_never)
      pss_nil)), ?_⟩
    refine ⟨_, rfl, _, _, rfl, rfl, _, rfl, ?_⟩
    rw [decide_eq_false (by omega)]
    exact iteF q
def spSwU : Sp := fun vs H Q _ => ∃ (a : Addr) (ns : List Int) (g : Nat), vs = [.ref a, .int g] ∧ H a = some (.tup (ns.map V.int)) ∧ g + 1 < ns.length ∧ ns.length ≤ 9 ∧ ∀ p H', Ex H H' → H' p = some (.tup ((swL ns g).map V.int)) → Q (.ref p) H'
theorem swU (F : FnP K "swapped" s_swapped f fd) (g : mg "swapped" = some (.ref f)) : CallD P w K mg base (n + 1) "swapped" ["row", "gap"] spSwU := by
  refine callD F g sc_swapped (fun _ _ _ _ _ _ us hl => match us, hl with | [_, _], _ => rfl) (fun vs H Q E h => ?_) (fun cdv A outer s H vs Q E _ hr hG h => ?_)
  · obtain ⟨a, ns, g, rfl, _⟩ := h; rfl
  · obtain ⟨a, ns, g, rfl, hT, hg, h9, q⟩ := h
    refine ⟨_, (pss_one (ps_ret (pe_op k_catU (pe_op k_catU (pe_slice k_slU (pv 0) po_none (po_some (pv 1))) (pe_tup (pa_cons (pe_ix (k_ixt (K := K) rfl) (pv 0) (pe_op op_add (pv 1) pe_int) (fun _ _ => rfl)) (pa_cons (pe_ix (k_ixt (K := K) rfl) (pv 0) (pv 1) (fun _ _ => rfl)) pa_nil)))) (pe_slice k_slU (pv 0) (po_some (pe_op op_add (pv 1) pe_int)) po_none)))), ?_⟩
    have sl : sizeLine = 16777216 := by decide
    refine ⟨_, rfl, _, rfl, _, rfl, a, _, rfl, hT, fun p1 H1 x1 h1 => ?_⟩
    rw [cutV_to] at h1
    have eg : (g : Int) + 1 = ((g + 1 : Nat) : Int) := by omega
    refine ⟨_, rfl, _, rfl, _, _, rfl, rfl, a, _, _, _, rfl, rfl, SqT.of (x1.tup hT), by rw [eg]; exact at_of (by omega) (row_get hg), ?_⟩
    refine ⟨_, rfl, _, rfl, a, _, _, _, rfl, rfl, SqT.of (x1.tup hT), at_of (by omega) (row_get (k := g) (by omega)), by show 2 ≤ sizeLine; decide, fun t nt => ?_⟩
    have x2 : Ex H1 (upd H1 t (.tup [.int (ns.getD (g + 1) 0), .int (ns.getD g 0)])) := ex_new nt
    refine ⟨p1, t, _, _, rfl, rfl, x2.tup h1, upd_same, by rw [List.length_take, List.length_map, sl]; simp; omega, fun p3 H3 x3 h3 => ?_⟩
    refine ⟨_, rfl, _, rfl, _, _, rfl, rfl, _, rfl, a, _, rfl, (x2.trans x3).tup (x1.tup hT), fun p4 H4 x4 h4 => ?_⟩
    rw [show (g : Int) + 2 = ((g + 2 : Nat) : Int) by omega, cutV_from] at h4
    refine ⟨p3, p4, _, _, rfl, rfl, x4.tup h3, h4, by simp [sl]; omega, fun p5 H5 x5 h5 => ?_⟩
    refine q p5 H5 ((((x1.trans x2).trans x3).trans x4).trans x5) ?_
    unfold swL
    rw [List.map_append, List.map_append, List.map_take, List.map_drop]
    exact h5
def spRowOfU : Sp := fun vs H Q _ => ∃ m : Nat, vs = [.int m] ∧ 1 ≤ m ∧ m ≤ 9 ∧ ∀ p, H p = none → Q (.ref p) (upd H p (.tup ((row0 m).map V.int)))
theorem row_ofU (F : FnP K "row_of" s_row_of f fd) (g : mg "row_of" = some (.ref f)) (B : Bl mg) (C_check_many : CallD P w K mg base n "check_many" ["many"] spCheckMany) : CallD P w K mg base (n + 1) "row_of" ["many"] spRowOfU := by
  refine callD F g sc_row_of (fun _ _ _ _ _ _ us hl => match us, hl with | [_], _ => rfl) (fun vs H Q E h => ?_) (fun cdv A outer s H vs Q E _ hr hG h => ?_)
  · obtain ⟨m, rfl, _⟩ := h; rfl
  · obtain ⟨m, rfl, h1, h9, q⟩ := h
    refine ⟨_, (pss_cons (ps_expr (pe_c C_check_many hr hG (pa_cons (pv 0) pa_nil)))
      (pss_one (ps_ret (pe_tupRg rfl (by rfl) B.tuple (prg_1 (by rfl) B.range (pv 0)))))), ?_⟩
    refine ⟨_, rfl, (m : Int), rfl, by omega, by omega, ?_⟩
    refine ⟨_, rfl, _, rfl, RgOk.of_le (Int.le_refl _) (by omega) (by decide) (by omega), fun p np => ?_⟩
    have := q p np
    rw [show (row0 m).map V.int = rgV 0 (m : Int) from (rgV_ints m).symm] at this
    exact this
/-- locked, walked, unlocked -/
theorem ex_lock {B : Addr → Prop} {H H' : Hp} {d : Addr} {od : Obj} {kvs : List (List Key × V)} (hd : H d = some (.dT kvs)) (e : ExB B (upd H d (.frz od (.dT kvs))) H') : ExB B H (upd H' d (.dT kvs)) := by
  refine ⟨fun a o q f => ?_, fun a o q n b => ?_, fun P ps q => ?_, fun a q => ?_⟩
  · have ne : a ≠ d := fun z => by rw [z, hd] at q; cases q; exact f
    rw [upd_ne ne]; exact e.fix a o (by rw [upd_ne ne]; exact q) f
  · by_cases z : a = d
    · rw [z, upd_same]; rw [z, hd] at q; exact q
    · rw [upd_ne z]; exact e.keep a o (by rw [upd_ne z]; exact q) n b
  · have ne : P ≠ d := fun z => by rw [z, hd] at q; cases q
    rw [upd_ne ne]; exact e.tbl P ps (by rw [upd_ne ne]; exact q)
  · by_cases z : a = d
    · rw [z, upd_same]; exact fun h => nomatch h
    · rw [upd_ne z]; exact e.still a (by rw [upd_ne z]; exact q)
def spAsked (K : PySem.W.Frag) (Pr Pb : Addr) : Sp := fun vs H Q _ => ∃ (a r : Addr) (gs ns : List Int), vs = [.ref a, .ref r] ∧ SqT K H a (gs.map V.int) ∧ SqT K H r (ns.map V.int) ∧ TabG H Pr ∧ TabG H Pb ∧ IsRow ns ∧ ns.length ≤ 6 ∧ BookOk ns.length gs ∧ ∀ H', Ex H H' → Q .non H'
theorem d_check_asked {Pr Pb : Addr} (F : FnP K "check_asked" s_check_asked f fd) (g : mg "check_asked" = some (.ref f)) (B : Bl mg) (C_check_book_and_row : CallD P w K mg base n "check_book_and_row" ["book", "row"] (spBookRow K Pr Pb)) (C_check_few : CallD P w K mg base n "check_few" ["many"] spFew) : CallD P w K mg base (n + 1) "check_asked" ["book", "row"] (spAsked K Pr Pb) := by
  refine callD F g sc_check_asked (fun _ _ _ _ _ _ us hl => match us, hl with | [_, _], _ => rfl) (fun vs H Q E h => ?_) (fun cdv A outer s H vs Q E _ hr hG h => ?_)
  · obtain ⟨a, r, gs, ns, rfl, _⟩ := h; rfl
  · obtain ⟨a, r, gs, ns, rfl, hT, hT2, hPr, hPb, hR, h6, hB, q⟩ := h
    refine ⟨_, (pss_cons (ps_expr (pe_c C_check_book_and_row hr hG (pa_cons (pv 0) (pa_cons (pv 1) pa_nil))))
      (pss_one (ps_expr (pe_c C_check_few hr hG (pa_cons (pe_callB (k_len (K := K) rfl) (by rfl) B.len PySem.boot_len (pa_cons (pv 1) pa_nil)) pa_nil))))), ?_⟩
    refine ⟨_, rfl, _, rfl, a, r, gs, ns, rfl, hT, hT2, hPr, hPb, hR, hB, fun H1 x1 => ?_⟩
    refine ⟨_, rfl, r, _, rfl, .inr (x1.sqt hT2), _, rfl, by rw [List.length_map]; omega, q H1 x1⟩
theorem at_neg {xs : List V} {i : Nat} (h : xs.length = i + 1) : atI xs (-1) = xs[i]? := by
  have e : ixN xs.length (-1) = some i := by
    unfold ixN
    rw [if_neg (by decide), if_pos (by omega), show ((-1 : Int) + (xs.length : Int)).toNat = i by omega]
  unfold atI
  rw [e]; rfl
def spLedOn (P : Program) (w : World) : Sp := fun vs H Q _ => ∃ (d : Addr) (g m : Nat) (fw : List Int → Nat) (xs : KXs), vs = [.ref d, .int g] ∧ DFo P w H d xs ∧ DW m fw (kvX xs) ∧ g + 1 < m ∧ m ≤ 6 ∧ ∀ p x2 H', Ex H H' → H p = none → DFo P w H' p x2 → DW m (tkN g fw) (kvX x2) → Q (.ref p) H'
theorem d_led_on (F : FnP K "led_on" s_led_on f fd) (g : mg "led_on" = some (.ref f)) (C_swapped : CallD P w K mg base n "swapped" ["row", "gap"] spSwF) : CallD P w K mg base (n + 1) "led_on" ["ways", "gap"] (spLedOn P w) := by
  refine callD F g sc_led_on (fun _ _ _ _ _ _ us hl => match us, hl with | [_, _], _ => rfl) (fun vs H Q E h => ?_) (fun cdv A outer s H vs Q E _ hr hG h => ?_)
  · obtain ⟨d, g, m, fw, xs, rfl, _⟩ := h; rfl
  · obtain ⟨d, g, m, fw, xs, rfl, ⟨hd, hkF⟩, hW, hg, h6, q⟩ := h
    refine ⟨_, (pss_cons (ps_lock (ps_setDcF (i := 3) (hu_of hr) (own := [("row", 2)]) (g := gName 2) rfl sc_led_on.nd rfl rfl (sw_trueD rfl rfl rfl (by decide +kernel)) (pi_keysF (P := P) (w := w) rfl rfl (pv 0)) (blkOk_by (N := N_led_on) (sc := defScope s_led_on) (by decide +kernel)) (fun _ _ _ _ _ => (pg_name (i := 2) sc_led_on.nd rfl (by first | exact Or.inl rfl | exact Or.inr rfl))) (fun _ _ _ _ _ => pts_nil) (fun _ _ _ _ _ => (pv 2)) (fun _ _ _ _ _ => (pe_dgetFx (K := K) (P := P) (w := w) rfl rfl rfl (hu_of hr) (pv 0) (pv 2) (fun _ _ => rfl)))))
      (pss_cons (ps_lock (ps_for PassesOwn.never rfl (pi_keysF (P := P) (w := w) rfl rfl (pv 0)) (pg_name (i := 2) sc_led_on.nd rfl (Or.inl rfl))
      (pss_cons (ps_set (i := 4) sc_led_on.nd rfl (Or.inl rfl) (pe_c C_swapped hr hG (pa_cons (pv 2) (pa_cons (pv 1) pa_nil))))
      (pss_one (ps_dputF (P := P) (w := w) rfl rfl (hu_of hr) (pv 3) (pv 4) (pe_op op_add (pe_dget2F (K := K) (P := P) (w := w) rfl rfl rfl (hu_of hr) (pv 3) (pv 4) pe_int ⟨rfl, rfl, rfl, rfl⟩) (pe_dgetFx (K := K) (P := P) (w := w) rfl rfl rfl (hu_of hr) (pv 0) (pv 2) (fun _ _ => rfl))) (by rfl))))))
      (pss_one (ps_ret (pv 3))))), ?_⟩
    have sl : sizeLine = 16777216 := by decide
    generalize hkvs : kvX xs = kvs at hW
    have hle := hW.le h6
    have lx : xs.length = kvs.length := by rw [← hkvs, kvX_len]
    -- after = {row: ways[row] for row in ways}
    refine ⟨d, _, hd, trivial, fun od => ?_⟩
    have eL : (upd H d (.frz od (.ext (DTp P w d xs)))) d = some (.frz od (.ext (DTp P w d xs))) := upd_same
    have xl := ex_setX (o := .frz od (.ext (DTp P w d xs))) hd
    have kL := hkF.ex xl
    refine ⟨_, rfl, d, od, xs, rfl, eL, fun D Hz nD xz Dz => ?_⟩
    have hDd : D ≠ d := fun z => by rw [z, eL] at nD; cases nD
    have nDH : H D = none := by rw [upd_ne hDd] at nD; exact nD
    refine dcF_it walk_keysF (fun i Hb => Ex (upd H d (.frz od (.ext (DTp P w d xs)))) Hb ∧ DFo P w Hb D (xs.take i)) ⟨xz, Dz⟩ (fun i Hb _ y => y.1.frzT eL) ?_ ?_
    · rintro i x Hb Hc hi ⟨x1, e1⟩ ⟨rfl, k, q0, v, eks, rfl⟩
      have ek : kvs[i]? = some (k, v) := by rw [← hkvs]; exact kvX_get eks
      have eq0 := (kL.ex x1) _ (List.mem_of_getElem? eks)
      have hv := val_of_nodup hW.nd ek
      refine ⟨rfl, yes_go ⟨_, rfl, _, rfl, _, rfl, d, xs, q0, k, v, rfl, rfl, ⟨.inr ⟨od, x1.frzT eL⟩, kL.ex x1⟩, eq0.sqt, by rw [hkvs]; exact hv, xs.take i, k, q0, rfl, eq0, e1, by rw [List.length_take]; omega, fun Hx xx Dx => ?_⟩⟩
      rw [putX_next (by rw [hkvs]; exact hW.nd) eks] at Dx
      exact ⟨x1.then xx fun z hz => .inl (by rw [show z = D from hz]; exact nD), Dx⟩
    rintro H2 ⟨x1, e1⟩
    rw [List.take_length] at e1
    refine ⟨x1.frzT eL, ?_⟩
    have f2 := x1.frzT eL
    have x2 : Ex H (upd H2 d (.ext (DTp P w d xs))) := ex_lockX hd x1
    have ed : (upd H2 d (.ext (DTp P w d xs))) d = some (.ext (DTp P w d xs)) := upd_same
    have kx := hkF.ex x2
    have eD : DFo P w (upd H2 d (.ext (DTp P w d xs))) D xs := ⟨by rw [upd_ne hDd]; exact e1.1, kx⟩
    show tSeq _ _ _ _ (upd H2 d (.ext (DTp P w d xs)))
    generalize upd H2 d (.ext (DTp P w d xs)) = H3 at x2 ed eD kx ⊢
    -- for row in ways
    refine ⟨d, _, ed, trivial, fun od2 => ?_⟩
    have eL2 : (upd H3 d (.frz od2 (.ext (DTp P w d xs)))) d = some (.frz od2 (.ext (DTp P w d xs))) := upd_same
    have xl2 := ex_setX (o := .frz od2 (.ext (DTp P w d xs))) ed
    have eD2 := eD.ex xl2 hDd
    have k4 := kx.ex xl2
    generalize hH4 : upd H3 d (.frz od2 (.ext (DTp P w d xs))) = H4 at eL2 eD2 k4
    rw [← lx] at hle
    refine ⟨_, rfl, d, od2, xs, rfl, eL2, ?_⟩
    refine for_it walk_keysF (fun j σ Hb => ∃ (x2 : KXs) (v2 v4 : Option V), σ = [some (.ref d), some (.int g), v2, some (.ref D), v4] ∧ ExB (At1 D) H4 Hb ∧ DFo P w Hb D x2 ∧ DW m (fJ kvs fw g j) (kvX x2)) ⟨xs, _, _, rfl, ExB.refl, eD2, by rw [hkvs]; exact hW.congr fun x _ _ => (fJ_zero kvs fw g x).symm⟩ (fun j σ Hb _ ⟨_, _, _, _, y, _⟩ => y.frzT eL2) ?_ ?_
    · rintro j x σ Hb Hc hj ⟨xs2, v2, v4, rfl, x4, D4, J4⟩ ⟨rfl, k, q0, v, eks, rfl⟩
      have ek : kvs[j]? = some (k, v) := by rw [← hkvs]; exact kvX_get eks
      have eq0 := (k4.ex x4) _ (List.mem_of_getElem? eks)
      obtain ⟨ns, rfl, hR, hl, hf, hv⟩ := hW.at ek
      have hkj : (kvs[j]?).map (·.1) = some (rk ns) := by rw [ek]; rfl
      have eq0 : FTup Hc q0 (ns.map V.int) := by rw [← rk_kV]; exact eq0
      refine ⟨_, rfl, _, rfl, q0, ns, g, rfl, eq0, by omega, by omega, fun u H5 x5 e5 => ?_⟩
      have y5 := x4.trans (ExB.of x5)
      have D5 := D4.ex x5 id
      have eq5 := eq0.ex x5
      have hRm := sw_row (g := g) (by omega) hR
      have hlm : (swL ns g).length = m := by rw [sw_len (by omega)]; exact hl
      refine ⟨_, rfl, D, xs2, rfl, D5.rd, _, rfl, u, rk (swL ns g), rfl, D5.rd, by rw [rk_kV]; exact e5.sqt, ?_⟩
      rw [J4.get hRm hlm]
      refine ⟨_, rfl, _, rfl, d, xs, q0, rk ns, .int ((fw ns : Nat) : Int), rfl, rfl, ⟨.inr ⟨od2, y5.frzT eL2⟩, k4.ex y5⟩, by rw [rk_kV]; exact eq5.sqt, by rw [hkvs]; exact hv, ?_⟩
      refine ⟨_, _, rfl, rfl, _, rfl, _, rfl, D, xs2, u, rk (swL ns g), rfl, rfl, D5, by rw [rk_kV]; exact e5, by have := J4.le h6; omega, fun Hn xn Dn => ?_⟩
      exact ⟨_, _, _, rfl, y5.trans xn, Dn, by rw [kvX_put]; exact DW.put hW.nd hkj hR hl hf hg J4⟩
    · rintro σ Hb ⟨xs2, v2, v4, rfl, x4, D4, J4⟩
      refine ⟨x4.frzT eL2, _, rfl, ?_⟩
      have hfz := x4.frzT eL2
      rw [lx] at J4
      subst hH4
      have x5 := ex_lockX ed x4
      refine q D xs2 _ (x2.then x5 fun z hz => .inl (by rw [show z = D from hz]; exact nDH)) nDH ⟨by rw [upd_ne hDd]; exact D4.1, fun p hp => ?_⟩ (hW.fin hg J4)
      obtain ⟨ob, c1, c2, c3⟩ := D4.2 p hp
      exact ⟨ob, c1, c2, by rw [upd_ne (fun z => by rw [z, hfz] at c3; cases c3)]; exact c3⟩
/-- dicts at ds: the k-th tells by how many goings through the first k meetings of gs each row comes from r -/
def WaysF (P : Program) (w : World) (H : Hp) (m : Nat) (r gs : List Int) (n : Nat) (ds : List Addr) : Prop := ds.length = n ∧ ∀ k d, ds[k]? = some d → ∃ xs, DFo P w H d xs ∧ DW m (wN r (gs.take k)) (kvX xs)
theorem WaysF.ex {P : Program} {w : World} {H H' : Hp} {m n : Nat} {r gs : List Int} {ds : List Addr} (h : WaysF P w H m r gs n ds) (e : Ex H H') : WaysF P w H' m r gs n ds := ⟨h.1, fun k d hk => let ⟨xs, a, b⟩ := h.2 k d hk; ⟨xs, a.ex e id, b⟩⟩
def spWays (K : PySem.W.Frag) (P : Program) (w : World) : Sp := fun vs H Q _ => ∃ (r b : Addr) (rr gs : List Int) (m : Nat), vs = [.ref r, .ref b] ∧ FTup H r (rr.map V.int) ∧ SqT K H b (gs.map V.int) ∧ IsRow rr ∧ rr.length = m ∧ m ≤ 6 ∧ BookOk m gs ∧ gs.length ≤ 100 ∧
  ∀ p ds H', Ex H H' → H p = none → (∀ d ∈ ds, H d = none) → H' p = some (.lst (ds.map V.ref)) → WaysF P w H' m rr gs (gs.length + 1) ds → Q (.ref p) H'
theorem d_ways_from (F : FnP K "ways_from" s_ways_from f fd) (g : mg "ways_from" = some (.ref f)) (C_led_on : CallD P w K mg base n "led_on" ["ways", "gap"] (spLedOn P w)) : CallD P w K mg base (n + 1) "ways_from" ["row", "book"] (spWays K P w) := by
  refine callD F g sc_ways_from (fun _ _ _ _ _ _ us hl => match us, hl with | [_, _], _ => rfl) (fun vs H Q E h => ?_) (fun cdv A outer s H vs Q E _ hr hG h => ?_)
  · obtain ⟨r, b, rr, gs, m, rfl, _⟩ := h; rfl
  · obtain ⟨r, b, rr, gs, m, rfl, hr0, hT, hR, hl, h6, hB, h100, q⟩ := h
    refine ⟨_, (pss_cons (ps_set (i := 2) sc_ways_from.nd rfl (Or.inl rfl) (pe_lst (pa_cons (pe_disp1F (P := P) (w := w) rfl rfl (hu_of hr) (pv 0) pe_int) pa_nil)))
      (pss_cons (ps_for PassesOwn.never rfl (k_piT (K := K) rfl (pv 1)) (pg_name (i := 3) sc_ways_from.nd rfl (Or.inl rfl))
      (pss_one (ps_expr (k_bm (K := K) rfl PySem.F.plainAttrs_list PySem.F.slot_list_append PySem.F.type_list_append mt_append (pv 2) (pa_cons (pe_c C_led_on hr hG (pa_cons (pe_ix (k_ixl (K := K) rfl) (pv 2) (pe_un un_neg pe_int) (fun _ _ => rfl)) (pa_cons (pv 3) pa_nil))) pa_nil)))))
      (pss_one (ps_ret (pv 2))))), ?_⟩
    have sl : sizeLine = 16777216 := by decide
    refine fun d0 H1 nd0 x1 D1 => ?_
    refine ⟨_, rfl, D1, r, rk rr, rfl, by rw [rk_kV]; exact hr0.ex x1, fun H2 x2 D2 => ?_⟩
    have y2 : Ex H H2 := x1.then x2 fun z hz => .inl (by rw [show z = d0 from hz]; exact nd0)
    refine ⟨by show 1 ≤ sizeLine; decide, fun p np => ?_⟩
    have x3 : Ex H2 (upd H2 p (.lst [.ref d0])) := ex_new np
    have e3 : (upd H2 p (.lst [.ref d0])) p = some (.lst ([d0].map V.ref)) := upd_same
    have W3 : WaysF P w (upd H2 p (.lst [.ref d0])) m rr gs 1 [d0] := ⟨rfl, fun k d hk => by
      cases k with
      | zero => cases hk; exact ⟨_, D2.ex x3 id, by rw [kvX_put]; exact DW.one hR hl⟩
      | succ k => simp at hk⟩
    have npH : H p = none := y2.fresh np
    have y3 := y2.trans x3
    show tSeq _ _ _ _ _
    generalize upd H2 p (.lst [.ref d0]) = H3 at y3 e3 W3 ⊢
    refine ⟨_, rfl, b, rfl, ⟨_, y3.sqt hT⟩, for_it (walk_tup (xs := gs.map V.int)) (fun i σ H5 => ∃ (ds : List Addr) (v3 : Option V), σ = [some (.ref r), some (.ref b), some (.ref p), v3] ∧ Ex H H5 ∧ H5 p = some (.lst (ds.map V.ref)) ∧ (∀ d ∈ ds, H d = none) ∧ WaysF P w H5 m rr gs (i + 1) ds) ⟨[d0], none, rfl, y3, e3, by simpa using nd0, W3⟩ (fun i σ H5 _ ⟨_, _, _, x, _⟩ => x.sqt hT) ?_ ?_⟩
    · rintro i x σ H5' H5 hi ⟨ds, v3, rfl, x5, e5, n5, W5⟩ ⟨rfl, hx⟩
      rw [List.length_map] at hi
      rw [row_get hi] at hx
      cases hx
      obtain ⟨gp, eg, hg⟩ := book_at hB hi
      have egp : gapN gs i = gp := by unfold gapN; rw [eg, Int.toNat_natCast]
      have hil : i < ds.length := by rw [W5.1]; omega
      have gt : (ds.map V.ref)[i]? = some (.ref ds[i]) := by rw [List.getElem?_map, List.getElem?_eq_getElem hil]; rfl
      obtain ⟨xs, Dd, hW⟩ := W5.2 i _ (List.getElem?_eq_getElem hil)
      refine ⟨_, rfl, .inl ⟨rfl, _, SqL.of e5⟩, _, rfl, 1, rfl, p, _, _, _, rfl, rfl, SqL.of e5, (at_neg (by rw [List.length_map, W5.1])).trans gt, ?_⟩
      refine ⟨_, rfl, ds[i], gp, m, _, xs, by rw [eg]; rfl, Dd, hW, hg, h6, fun u x2' H6 x6 nu D6 hW6 => ?_⟩
      have e6p := Ex.lst x6 e5
      refine ⟨p, _, _, rfl, rfl, e6p, by rw [List.length_map, W5.1, sl]; omega, ?_⟩
      have x7 : ExB (fun z => z = p) H6 (upd H6 p (.lst (ds.map V.ref ++ [.ref u]))) := ex_set e6p
      refine ⟨ds ++ [u], _, rfl, (x5.trans x6).then x7 fun z hz => .inl (by rw [show z = p from hz]; exact npH), by rw [upd_same, List.map_append]; rfl, fun d hd => ?_, by rw [List.length_append, W5.1]; rfl, fun k d hk => ?_⟩
      · rcases List.mem_append.mp hd with z | z
        · exact n5 d z
        · rw [List.mem_singleton.mp z]; exact x5.fresh nu
      · have nep : ∀ {d ys}, DFo P w H6 d ys → d ≠ p := fun {d ys} z y => by have := z.1; rw [y, e6p] at this; cases this
        rcases Nat.lt_or_ge k ds.length with c | c
        · rw [List.getElem?_append_left c] at hk
          obtain ⟨ys, a1, a2⟩ := W5.2 k d hk
          have a3 := a1.ex x6 id
          exact ⟨ys, a3.ex x7 (nep a3), a2⟩
        · have hk2 : k < (ds ++ [u]).length := (List.getElem?_eq_some_iff.mp hk).1
          have ek : k = i + 1 := by rw [List.length_append, W5.1] at hk2; rw [W5.1] at c; simp at hk2; omega
          subst ek
          rw [List.getElem?_append_right c, W5.1, Nat.sub_self] at hk
          cases hk
          exact ⟨x2', D6.ex x7 (nep D6), by rw [wN_take hi, egp]; exact hW6⟩
    · rintro σ H5 ⟨ds, v3, rfl, x5, e5, n5, W5⟩
      rw [List.length_map] at W5
      exact ⟨_, rfl, q p ds H5 x5 npH n5 e5 W5⟩
def spAhead (K : PySem.W.Frag) (P : Program) (w : World) : Sp := fun vs H Q _ => ∃ (b : Addr) (gs : List Int) (m : Nat), vs = [.ref b, .int m] ∧ SqT K H b (gs.map V.int) ∧ 1 ≤ m ∧ m ≤ 6 ∧ BookOk m gs ∧ gs.length ≤ 100 ∧
  ∀ p ds H', Ex H H' → H' p = some (.lst (ds.map V.ref)) → WaysF P w H' m (row0 m) gs (gs.length + 1) ds → Q (.ref p) H'
theorem d_ways_ahead (F : FnP K "ways_ahead" s_ways_ahead f fd) (g : mg "ways_ahead" = some (.ref f)) (C_row_of : CallD P w K mg base n "row_of" ["many"] spRowOfF) (C_ways_from : CallD P w K mg base n "ways_from" ["row", "book"] (spWays K P w)) : CallD P w K mg base (n + 1) "ways_ahead" ["book", "many"] (spAhead K P w) := by
  refine callD F g sc_ways_ahead (fun _ _ _ _ _ _ us hl => match us, hl with | [_, _], _ => rfl) (fun vs H Q E h => ?_) (fun cdv A outer s H vs Q E _ hr hG h => ?_)
  · obtain ⟨b, gs, m, rfl, _⟩ := h; rfl
  · obtain ⟨b, gs, m, rfl, hT, h1, h6, hB, h100, q⟩ := h
    refine ⟨_, (pss_one (ps_ret (pe_c C_ways_from hr hG (pa_cons (pe_c C_row_of hr hG (pa_cons (pv 1) pa_nil)) (pa_cons (pv 0) pa_nil))))), ?_⟩
    refine ⟨_, rfl, m, rfl, h1, by omega, fun r H1 x1 e1 => ?_⟩
    exact ⟨_, rfl, r, b, row0 m, gs, m, rfl, e1, x1.sqt hT, row0_row h1 (by omega), row0_len m, h6, hB, h100, fun p ds H2 x2 _ _ e2 W2 => q p ds H2 (x1.trans x2) e2 W2⟩
def spGoings (K : PySem.W.Frag) (Pr Pb : Addr) : Sp := fun vs H Q _ => ∃ (a r : Addr) (gs ns : List Int), vs = [.ref a, .ref r] ∧ SqT K H a (gs.map V.int) ∧ SqT K H r (ns.map V.int) ∧ TabG H Pr ∧ TabG H Pb ∧ IsRow ns ∧ ns.length ≤ 6 ∧ BookOk ns.length gs ∧ gs.length ≤ 100 ∧ ∀ H', Ex H H' → Q (.int ((wN (row0 ns.length) gs ns : Nat) : Int)) H'
theorem d_goings {Pr Pb : Addr} (F : FnP K "goings" s_goings f fd) (g : mg "goings" = some (.ref f)) (B : Bl mg) (C_check_asked : CallD P w K mg base n "check_asked" ["book", "row"] (spAsked K Pr Pb)) (C_ways_ahead : CallD P w K mg base n "ways_ahead" ["book", "many"] (spAhead K P w)) : CallD P w K mg base (n + 1) "goings" ["book", "row"] (spGoings K Pr Pb) := by
  refine callD F g sc_goings (fun _ _ _ _ _ _ us hl => match us, hl with | [_, _], _ => rfl) (fun vs H Q E h => ?_) (fun cdv A outer s H vs Q E _ hr hG h => ?_)
  · obtain ⟨a, r, gs, ns, rfl, _⟩ := h; rfl
  · obtain ⟨a, r, gs, ns, rfl, hT, hr0, hPr, hPb, hR, h6, hB, h100, q⟩ := h
    refine ⟨_, (pss_cons (ps_expr (pe_c C_check_asked hr hG (pa_cons (pv 0) (pa_cons (pv 1) pa_nil))))
      (pss_one (ps_ret (pe_dget2F (K := K) (P := P) (w := w) rfl rfl rfl (hu_of hr) (pe_ix (k_ixl (K := K) rfl) (pe_c C_ways_ahead hr hG (pa_cons (pv 0) (pa_cons (pe_callB (k_len (K := K) rfl) (by rfl) B.len PySem.boot_len (pa_cons (pv 1) pa_nil)) pa_nil))) (pe_un un_neg pe_int) (fun _ _ => rfl)) (pv 1) pe_int ⟨rfl, rfl, rfl, rfl⟩)))), ?_⟩
    refine ⟨_, rfl, _, rfl, a, r, gs, ns, rfl, hT, hr0, hPr, hPb, hR, h6, hB, fun H1 x1 => ?_⟩
    refine ⟨_, rfl, _, rfl, r, _, rfl, .inr (x1.sqt hr0), a, gs, ns.length, by rw [List.length_map]; rfl, x1.sqt hT, hR.1, h6, hB, h100, fun p ds H2 x2 ep W => ?_⟩
    have hil : gs.length < ds.length := by rw [W.1]; omega
    have gt : (ds.map V.ref)[gs.length]? = some (.ref ds[gs.length]) := by rw [List.getElem?_map, List.getElem?_eq_getElem hil]; rfl
    obtain ⟨xs, ed, hW⟩ := W.2 gs.length _ (List.getElem?_eq_getElem hil)
    rw [List.take_length] at hW
    refine ⟨1, rfl, p, _, _, _, rfl, rfl, SqL.of ep, (at_neg (by rw [List.length_map, W.1])).trans gt, ?_⟩
    refine ⟨_, xs, rfl, ed.rd, _, rfl, r, rk ns, rfl, ed.rd, by rw [rk_kV]; exact (x1.trans x2).sqt hr0, ?_⟩
    rw [hW.get hR rfl]
    exact q H2 (x1.trans x2)
end
end K70
namespace K70
open PySem PySem.Spec PyProof.Rows L2 GxR MM
section
variable {P : Program} {w : World} {K : PySem.W.Frag} {mg : Str → Option Value} {base : Heap} {f : Addr} {fd : FuncData} {n : Nat}
theorem getD_ints (ns : List Int) (i : Nat) : (ns.map V.int).getD i (.int 0) = .int (ns.getD i 0) := by
  rw [List.getD_eq_getElem?_getD, List.getD_eq_getElem?_getD, List.getElem?_map]
  cases ns[i]? <;> rfl
def spOneMore (K : PySem.W.Frag) : Sp := fun vs H Q _ => ∃ (a b : Addr) (st ch : List Int), vs = [.ref a, .ref b] ∧ SqL K H a (st.map V.int) ∧ H b = some (.lst (ch.map V.int)) ∧ st.length ≤ 1000 ∧ ch.length ≤ 1000 ∧ ∀ p H', Ex H H' → H p = none → H' p = some (.lst ((oneMore st ch).map V.int)) → Q (.ref p) H'
theorem d_with_one_more (F : FnP K "with_one_more" s_with_one_more f fd) (g : mg "with_one_more" = some (.ref f)) (G_zip_longest : mg "zip_longest" = some (.type "itertools.zip_longest")) : CallD P w K mg base (n + 1) "with_one_more" ["staying", "changing"] (spOneMore K) := by
  refine callD F g sc_with_one_more (fun _ _ _ _ _ _ us hl => match us, hl with | [_, _], _ => rfl) (fun vs H Q E h => ?_) (fun cdv A outer s H vs Q E _ hr hG h => ?_)
  · obtain ⟨a, b, st, ch, rfl, _⟩ := h; rfl
  · obtain ⟨a, b, st, ch, rfl, ha, hb, la, lb, q⟩ := h
    refine ⟨_, (pss_one (ps_ret (pe_lc (own := [("stay", 2), ("change", 3)]) (g := gTup K 2 (gCons (gName 2) (gCons (gName 3) (gNil)))) rfl sc_with_one_more.nd (pi_zl (K := K) rfl (by rfl) G_zip_longest (pa_cons (pv 0) (pa_cons (pe_op op_cat (pe_lst (pa_cons pe_int pa_nil)) (pv 1)) pa_nil)) (pk_cons pe_int pk_nil)) (blkOk_by (N := N_with_one_more) (sc := defScope s_with_one_more) (by decide +kernel)) (fun _ _ _ _ _ => (k_tup (K := K) rfl (pg_tup rfl (pgs_cons (pg_name (i := 2) sc_with_one_more.nd rfl (by first | exact Or.inl rfl | exact Or.inr rfl)) (pgs_cons (pg_name (i := 3) sc_with_one_more.nd rfl (by first | exact Or.inl rfl | exact Or.inr rfl)) pgs_nil))))) (fun _ _ _ _ _ => pts_nil) (fun _ _ _ _ _ => (pe_op op_add (pv 2) (pv 3)))))), ?_⟩
    have sl : sizeLine = 16777216 := by decide
    refine ⟨_, rfl, by show 1 ≤ sizeLine; decide, fun l nl => ?_⟩
    have x1 : Ex H (upd H l (.lst [.int 0])) := ex_new nl
    have e1 : (upd H l (.lst [.int 0])) l = some (.lst [.int 0]) := upd_same
    have hb1 := Ex.lst x1 hb
    have nlb : l ≠ b := fun z => by rw [z, hb] at nl; cases nl
    have ha1 := x1.sql ha 
    generalize upd H l (.lst [.int 0]) = H1 at x1 e1 hb1 ha1 ⊢
    refine ⟨_, rfl, l, b, _, _, rfl, rfl, e1, hb1, by rw [List.length_map, sl]; show 1 + _ ≤ _; omega, fun l2 n2 => ?_⟩
    have x2 : Ex H1 (upd H1 l2 (.lst ([V.int 0] ++ ch.map V.int))) := ex_new n2
    have e2 : (upd H1 l2 (.lst ([V.int 0] ++ ch.map V.int))) l2 = some (.lst (((0 : Int) :: ch).map V.int)) := upd_same
    have ha2 := x2.sql ha1 
    generalize upd H1 l2 (.lst ([V.int 0] ++ ch.map V.int)) = H2 at x2 e2 ha2 ⊢
    refine ⟨a, l2, _, _, rfl, rfl, ha2, SqL.of e2, fun D nD => ?_⟩
    have lm : max (st.map V.int).length (((0 : Int) :: ch).map V.int).length = (oneMore st ch).length := by rw [oneMore_len, List.length_map, List.length_map, List.length_cons]
    refine lc_it walk_zl (fun i H3 => Ex H2 H3 ∧ H3 D = some (.lst (((oneMore st ch).take i).map V.int))) ⟨ex_new nD, upd_same⟩ (fun i H3 _ y => ⟨y.1.sql ha2, y.1.sql (SqL.of e2)⟩) ?_ ?_
    · rintro i x H3 H3' hi ⟨x3, e3⟩ ⟨T, rfl, nT, rfl⟩
      rw [lm] at hi
      have hg := oneMore_get (st := st) (ch := ch) (i := i) (by rw [← oneMore_len]; exact hi)
      have x4 : Ex H3 (upd H3 T (.tup [(st.map V.int).getD i (.int 0), (((0 : Int) :: ch).map V.int).getD i (.int 0)])) := ex_new nT
      have eT : (upd H3 T (.tup [(st.map V.int).getD i (.int 0), (((0 : Int) :: ch).map V.int).getD i (.int 0)])) T = some (.tup [(st.map V.int).getD i (.int 0), (((0 : Int) :: ch).map V.int).getD i (.int 0)]) := upd_same
      have e4 := Ex.lst x4 e3
      generalize upd H3 T (.tup [(st.map V.int).getD i (.int 0), (((0 : Int) :: ch).map V.int).getD i (.int 0)]) = H4 at x4 eT e4 ⊢
      rw [getD_ints, getD_ints] at eT
      refine ⟨T, _, rfl, SqT.of eT, rfl, _, _, rfl, _, _, rfl, rfl, rfl, yes_go ⟨_, rfl, _, rfl, _, _, rfl, rfl, _, e4, by rw [List.length_map, List.length_take, sl]; have := oneMore_len st ch; omega, (x3.trans x4).then (ex_set e4) fun y hy => .inl (hy ▸ nD), ?_⟩⟩
      rw [upd_same, List.take_add_one, hg, List.map_append]; rfl
    · rintro H3 ⟨x3, e3⟩
      rw [lm, List.take_length] at e3
      exact q D H3 ((x1.trans x2).trans x3) ((x1.trans x2).fresh nD) e3
def spSpread : Sp := fun vs H Q _ => ∃ (d : Addr) (g m : Nat) (ff : List Int → List Int) (kvs : List (List Key × V)), vs = [.ref d, .int g] ∧ H d = some (.dT kvs) ∧ DL H m ff kvs ∧ g + 1 < m ∧ m ≤ 6 ∧ (∀ x, (ff x).length ≤ 999) ∧ ∀ p kv2 H', Ex H H' → H p = none → H' p = some (.dT kv2) → DL H' m (spN g ff) kv2 → Q (.ref p) H'
theorem d_spread_on (F : FnP K "spread_on" s_spread_on f fd) (g : mg "spread_on" = some (.ref f)) (C_swapped : CallD P w K mg base n "swapped" ["row", "gap"] spSwU) (C_with_one_more : CallD P w K mg base n "with_one_more" ["staying", "changing"] (spOneMore K)) : CallD P w K mg base (n + 1) "spread_on" ["spreads", "gap"] spSpread := by
  refine callD F g sc_spread_on (fun _ _ _ _ _ _ us hl => match us, hl with | [_, _], _ => rfl) (fun vs H Q E h => ?_) (fun cdv A outer s H vs Q E _ hr hG h => ?_)
  · obtain ⟨d, g, m, ff, kvs, rfl, _⟩ := h; rfl
  · obtain ⟨d, g, m, ff, kvs, rfl, hd, hW, hg, h6, hlen, q⟩ := h
    refine ⟨_, (pss_cons (ps_set (i := 2) sc_spread_on.nd rfl (Or.inl rfl) pe_dnewT)
      (pss_cons (ps_lock (ps_for PassesOwn.never rfl (pi_keys (pv 0)) (pg_name (i := 3) sc_spread_on.nd rfl (Or.inl rfl))
      (pss_cons (ps_set (i := 4) sc_spread_on.nd rfl (Or.inl rfl) (pe_c C_swapped hr hG (pa_cons (pv 3) (pa_cons (pv 1) pa_nil))))
      (pss_one (ps_if (pt_cmp (pc_dnotin (hu_of hr) (pv 4) (pv 2)))
      (pss_cons (ps_set (i := 5) sc_spread_on.nd rfl (Or.inl rfl) (pe_dget2 (hu_of hr) (pv 0) (pv 4) (pe_lst pa_nil) ⟨rfl, rfl, rfl, rfl⟩))
      (pss_cons (ps_asg (pe_c C_with_one_more hr hG (pa_cons (pe_dget (hu_of hr) (pv 0) (pv 3) (fun _ _ => rfl)) (pa_cons (pv 5) pa_nil))) (pg_sub (pv 2) (pv 3) (set_dict (hu_of hr))))
      (pss_one (ps_asg (pe_c C_with_one_more hr hG (pa_cons (pv 5) (pa_cons (pe_dget (hu_of hr) (pv 0) (pv 3) (fun _ _ => rfl)) pa_nil))) (pg_sub (pv 2) (pv 4) (set_dict (hu_of hr)))))))
      pss_nil)))))
      (pss_one (ps_ret (pv 2))))), ?_⟩
    have hle := hW.le h6
    have sl : sizeLine = 16777216 := by decide
    refine fun D nD => ?_
    have hDd : D ≠ d := fun z => by rw [z, hd] at nD; cases nD
    have x1 : Ex H (upd H D (.dT [])) := ex_new nD
    have e1 : (upd H D (.dT [])) d = some (.dT kvs) := Ex.dct x1 hd
    have eD1 : (upd H D (.dT [])) D = some (.dT []) := upd_same
    have W1 := hW.ex x1
    show tSeq _ _ _ _ _
    generalize upd H D (.dT []) = H1 at x1 e1 eD1 W1 ⊢
    refine ⟨d, _, e1, mut_dT, fun od => ?_⟩
    have eL : (upd H1 d (.frz od (.dT kvs))) d = some (.frz od (.dT kvs)) := upd_same
    have eD2 : (upd H1 d (.frz od (.dT kvs))) D = some (.dT []) := by rw [upd_ne hDd]; exact eD1
    have W4 : DL (upd H1 d (.frz od (.dT kvs))) m ff kvs := ⟨W1.rows, W1.out, fun x v hr hl hv => let ⟨a, p, b, c⟩ := W1.val x v hr hl hv; ⟨a, p, b, by rw [upd_ne (fun z => by rw [z, e1] at c; cases c)]; exact c⟩⟩
    generalize hH4 : upd H1 d (.frz od (.dT kvs)) = H4 at eL eD2 W4
    refine ⟨_, rfl, d, od, rfl, .inr ⟨kvs, eL, ?_⟩⟩
    refine for_it walk_keysT (fun j σ Hb => ∃ (kv2 : List (List Key × V)) (v3 v4 v5 : Option V), σ = [some (.ref d), some (.int g), some (.ref D), v3, v4, v5] ∧ ExB (At1 D) H4 Hb ∧ Hb D = some (.dT kv2) ∧ DL Hb m (gJ (kvs.map (·.1)) ff g j) kv2) ⟨[], _, _, _, rfl, ExB.refl, eD2, DL.nil.congr fun x _ _ => (gJ_zero _ _ _ _).symm⟩ (fun j σ Hb _ ⟨_, _, _, _, _, y, _⟩ => y.frzT eL) ?_ ?_
    · rintro j x σ Hb Hc hj ⟨kv2, v3, v4, v5, rfl, x4, e4, J4⟩ ⟨rfl, kk, v, q0, ek, rfl, eq0⟩
      obtain ⟨ns, pr, rfl, hR, hl, rfl, epr, hne, hv⟩ := W4.at ek
      have hk' : (kvs.map (·.1))[j]? = some (rk ns) := by rw [List.getElem?_map, ek]; rfl
      have hgn : g + 1 < ns.length := by omega
      rw [rk_kV] at eq0
      have hRm := sw_row (g := g) hgn hR
      have hlm : (swL ns g).length = m := by rw [sw_len hgn]; exact hl
      obtain ⟨has1, has2⟩ := gJ_has (ff := ff) W4.nd hk' hgn
      refine ⟨_, rfl, _, rfl, q0, ns, g, rfl, eq0, hgn, by omega, fun u H5 x5 e5 => ?_⟩
      have y5 := x4.trans (ExB.of x5)
      have eD5 := Ex.dct x5 e4
      have eq5 := x5.tup eq0
      have J5 := J4.ex x5
      refine ⟨_, rfl, _, rfl, D, _, rfl, DGet.t (k := rk (swL ns g)) eD5 (by rw [rk_kV]; exact e5), _, rfl, ?_⟩
      have s1 : spN g ff ns = oneMore (ff ns) (ff (swL ns g)) := if_neg fun z => hne z.1
      have s2 : spN g ff (swL ns g) = oneMore (ff (swL ns g)) (ff ns) := by
        unfold spN
        rw [sw_sw hgn, if_neg fun z => hne z.2]
      by_cases hin : rk (swL ns g) ∈ (kvs.map (·.1)).take j
      · have hs : (valV kv2 (rk (swL ns g))).isSome = true := by
          cases e : valV kv2 (rk (swL ns g)) with
          | some v => rfl
          | none =>
            have := J4.out _ hRm hlm e
            rw [has1 hin, s2] at this
            exact absurd this (oneMore_ne _ _)
        rw [hs]
        exact iteF ⟨kv2, _, _, _, rfl, y5, eD5, J5.congr fun x hx hxl => (gJ_there hk' hgn hin (by omega)).symm⟩
      · have hs : (valV kv2 (rk (swL ns g))).isSome = false := by
          cases e : valV kv2 (rk (swL ns g)) with
          | none => rfl
          | some v => exact absurd (has2 hin) (J4.val _ v hRm hlm e).1
        rw [hs]
        have hf5 := y5.frzT eL
        refine iteT ⟨_, rfl, d, rfl, .inr ⟨kvs, .inr ⟨od, hf5⟩⟩, _, rfl, Nat.zero_le _, fun z nz => ?_⟩
        have x6 : Ex H5 (upd H5 z (.lst [])) := ex_new nz
        have ez : (upd H5 z (.lst [])) z = some (.lst (([] : List Int).map V.int)) := upd_same
        have y6 := y5.trans (ExB.of x6)
        have W6 := W4.exD y6 eD2
        have eD6 := Ex.dct x6 eD5
        have eq6 := x6.tup eq5
        have e6 := x6.tup e5
        have J6 := J5.ex x6
        generalize upd H5 z (.lst []) = H6 at x6 ez y6 W6 eD6 eq6 e6 J6 ⊢
        have hf6 := y6.frzT eL
        have acr : ∃ pa, (valV kvs (rk (swL ns g))).getD (.ref z) = .ref pa ∧ H6 pa = some (.lst ((ff (swL ns g)).map V.int)) := by
          cases e : valV kvs (rk (swL ns g)) with
          | none => exact ⟨z, rfl, by rw [W4.out _ hRm hlm e]; exact ez⟩
          | some v =>
            obtain ⟨_, pa, rfl, h⟩ := W6.val _ v hRm hlm e
            exact ⟨pa, rfl, h⟩
        obtain ⟨pa, epa, hpa⟩ := acr
        obtain ⟨_, pr', epr', hpr'⟩ := W6.val ns _ hR hl hv
        injection epr' with epr'
        subst epr'
        refine ⟨_, .inr ⟨kvs, rk (swL ns g), u, .inr ⟨od, hf6⟩, rfl, by rw [rk_kV]; exact e6, rfl⟩, ?_⟩
        rw [epa]
        refine ⟨_, rfl, _, rfl, d, .ref pr, rfl, .inr ⟨kvs, rk ns, q0, .inr ⟨od, hf6⟩, rfl, by rw [rk_kV]; exact eq6, hv.symm⟩, _, rfl, pr, pa, ff ns, ff (swL ns g), rfl, SqL.of hpr', hpa, by have := hlen ns; omega, by have := hlen (swL ns g); omega, fun p1 H7 x7 n7 e7 => ?_⟩
        have eD7 := Ex.dct x7 eD6
        have lt2 := J6.le h6
        refine ⟨_, rfl, _, rfl, D, _, rfl, DPut.t (k := rk ns) eD7 (by rw [rk_kV]; exact x7.tup eq6) (by rw [sl]; omega), ?_⟩
        have x8 := ex_setD (o := .dT (putK kv2 (rk ns) (.ref p1))) eD7
        have eD8 : (upd H7 D (.dT (putK kv2 (rk ns) (.ref p1)))) D = some (.dT (putK kv2 (rk ns) (.ref p1))) := upd_same
        have p1D : p1 ≠ D := fun c => by rw [c, eD7] at e7; cases e7
        have e78 : (upd H7 D (.dT (putK kv2 (rk ns) (.ref p1)))) p1 = some (.lst ((oneMore (ff ns) (ff (swL ns g))).map V.int)) := by rw [upd_ne p1D]; exact e7
        have J8 := ((J6.ex x7).exD x8 eD7).put hR hl e78 (oneMore_ne _ _)
        have y8 := (y6.trans (ExB.of x7)).trans x8
        have eq8 := x8.tup (x7.tup eq6)
        have e68 := x8.tup (x7.tup e6)
        have W8 := W4.exD y8 eD2
        have hpa8 := x8.lst (Ex.lst x7 hpa) (fun c => by rw [show pa = D from c, eD6] at hpa; cases hpa)
        generalize upd H7 D (.dT (putK kv2 (rk ns) (.ref p1))) = H8 at x8 eD8 e78 J8 y8 eq8 e68 W8 hpa8 ⊢
        have hf8 := y8.frzT eL
        obtain ⟨_, pr2, epr2, hpr2⟩ := W8.val ns _ hR hl hv
        injection epr2 with epr2
        subst epr2
        refine ⟨_, rfl, _, rfl, _, rfl, d, .ref pr, rfl, .inr ⟨kvs, rk ns, q0, .inr ⟨od, hf8⟩, rfl, by rw [rk_kV]; exact eq8, hv.symm⟩, pa, pr, ff (swL ns g), ff ns, rfl, SqL.of hpa8, hpr2, by have := hlen (swL ns g); omega, by have := hlen ns; omega, fun p2 H9 x9 n9 e9 => ?_⟩
        have eD9 := Ex.dct x9 eD8
        have lt3 := J8.le h6
        refine ⟨_, rfl, _, rfl, D, _, rfl, DPut.t (k := rk (swL ns g)) eD9 (by rw [rk_kV]; exact x9.tup e68) (by rw [sl]; omega), ?_⟩
        have x10 := ex_setD (o := .dT (putK (putK kv2 (rk ns) (.ref p1)) (rk (swL ns g)) (.ref p2))) eD9
        have p2D : p2 ≠ D := fun c => by rw [c, eD9] at e9; cases e9
        have e10 : (upd H9 D (.dT (putK (putK kv2 (rk ns) (.ref p1)) (rk (swL ns g)) (.ref p2)))) p2 = some (.lst ((oneMore (ff (swL ns g)) (ff ns)).map V.int)) := by rw [upd_ne p2D]; exact e9
        have J10 := ((J8.ex x9).exD x10 eD9).put hRm hlm e10 (oneMore_ne _ _)
        refine ⟨_, _, _, _, rfl, (y8.trans (ExB.of x9)).trans x10, upd_same, J10.congr fun x hx hxl => ?_⟩
        rw [gJ_step hk' hgn (by omega), s1, s2]
    · rintro σ Hb ⟨kv2, v3, v4, v5, rfl, x4, e4, J4⟩
      refine ⟨x4.frzT eL, _, rfl, ?_⟩
      subst hH4
      have x5 := ex_lock e1 x4
      have J6 := J4.congr fun x hr hl => gJ_all W4 hg hr hl
      refine q D kv2 _ (x1.then x5 fun z hz => .inl (by rw [show z = D from hz]; exact nD)) nD (by rw [upd_ne hDd]; exact e4) ?_
      exact ⟨J6.rows, J6.out, fun x v hr hl hv => let ⟨a, p, b, c⟩ := J6.val x v hr hl hv; ⟨a, p, b, by rw [upd_ne (fun z => by rw [z, x4.frzT eL] at c; cases c)]; exact c⟩⟩
abbrev RefC2 (H : Hp) : List V → List (Nat × Int) → Prop := Paired fun v q => ∃ t, v = V.ref t ∧ H t = some (.tup [.int (q.1 : Nat), .int q.2])
theorem RefC2.ex {B : Addr → Prop} {H H' : Hp} {vs : List V} {ws : List (Nat × Int)} (h : RefC2 H vs ws) (e : ExB B H H') : RefC2 H' vs ws := L2.Paired.mapP h fun _ _ ⟨t, a, b⟩ => ⟨t, a, e.tup b⟩
def spByCh (K : PySem.W.Frag) (Pr Pb : Addr) : Sp := fun vs H Q _ => ∃ (a r : Addr) (gs ns : List Int), vs = [.ref a, .ref r] ∧ SqT K H a (gs.map V.int) ∧ SqT K H r (ns.map V.int) ∧ TabG H Pr ∧ TabG H Pb ∧ IsRow ns ∧ ns.length ≤ 6 ∧ BookOk ns.length gs ∧ gs.length ≤ 100 ∧
  ∀ p ts H', Ex H H' → H p = none → H' p = some (.lst ts) → RefC2 H' ts (chg (spS ns.length gs gs.length ns) (spS ns.length gs gs.length ns).length) → Q (.ref p) H'
theorem d_by_changes {Pr Pb : Addr} (F : FnP K "by_changes" s_by_changes f fd) (g : mg "by_changes" = some (.ref f)) (B : Bl mg) (C_check_asked : CallD P w K mg base n "check_asked" ["book", "row"] (spAsked K Pr Pb)) (C_row_of : CallD P w K mg base n "row_of" ["many"] spRowOfU) (C_spread_on : CallD P w K mg base n "spread_on" ["spreads", "gap"] spSpread) : CallD P w K mg base (n + 1) "by_changes" ["book", "row"] (spByCh K Pr Pb) := by
  refine callD F g sc_by_changes (fun _ _ _ _ _ _ us hl => match us, hl with | [_, _], _ => rfl) (fun vs H Q E h => ?_) (fun cdv A outer s H vs Q E _ hr hG h => ?_)
  · obtain ⟨a, r, gs, ns, rfl, _⟩ := h; rfl
  · obtain ⟨a, r, gs, ns, rfl, hT, hU, hPr, hPb, hR, h6, hB, h100, q⟩ := h
    refine ⟨_, (pss_cons (ps_expr (pe_c C_check_asked hr hG (pa_cons (pv 0) (pa_cons (pv 1) pa_nil))))
      (pss_cons (ps_set (i := 2) sc_by_changes.nd rfl (Or.inl rfl) (pe_disp1T (hu_of hr) (pe_c C_row_of hr hG (pa_cons (pe_callB (k_len (K := K) rfl) (by rfl) B.len PySem.boot_len (pa_cons (pv 1) pa_nil)) pa_nil)) (pe_lst (pa_cons pe_int pa_nil))))
      (pss_cons (ps_for PassesOwn.never rfl (k_piT (K := K) rfl (pv 0)) (pg_name (i := 3) sc_by_changes.nd rfl (Or.inl rfl))
      (pss_one (ps_set (i := 2) sc_by_changes.nd rfl (Or.inl rfl) (pe_c C_spread_on hr hG (pa_cons (pv 2) (pa_cons (pv 3) pa_nil))))))
      (pss_one (ps_ret (pe_lc (own := [("changes", 4), ("many", 5)]) (g := gTup K 2 (gCons (gName 4) (gCons (gName 5) (gNil)))) rfl sc_by_changes.nd (k_piE (K := K) rfl (pi_enum (by rfl) B.enumerate (pa_cons (pe_dget2S (K := K) rfl (hu_of hr) (pv 2) (pv 1) (pe_lst pa_nil) ⟨rfl, rfl, rfl, rfl⟩) pa_nil))) (blkOk_by (N := N_by_changes) (sc := defScope s_by_changes) (by decide +kernel)) (fun _ _ _ _ _ => (k_tup (K := K) rfl (pg_tup rfl (pgs_cons (pg_name (i := 4) sc_by_changes.nd rfl (by first | exact Or.inl rfl | exact Or.inr rfl)) (pgs_cons (pg_name (i := 5) sc_by_changes.nd rfl (by first | exact Or.inl rfl | exact Or.inr rfl)) pgs_nil))))) (fun _ _ _ _ _ => (pts_one (pt_cmpR op_gt (pv 5) pe_int (nomark _)))) (fun _ _ _ _ _ => (pe_tup (pa_cons (pv 4) (pa_cons (pv 5) pa_nil)))))))))), ?_⟩
    have sl : sizeLine = 16777216 := by decide
    have h1 := hR.1
    have h9 := hR.2.1
    refine ⟨_, rfl, _, rfl, a, r, gs, ns, rfl, hT, hU, hPr, hPb, hR, h6, hB, fun H1 x1 => ?_⟩
    refine fun d0 nd0 => ?_
    have x2 : Ex H1 (upd H1 d0 (.dT [])) := ex_new nd0
    have y2 := x1.trans x2
    have nH0 : H d0 = none := x1.fresh nd0
    refine ⟨_, rfl, r, _, rfl, .inr (y2.sqt hU), ns.length, by rw [List.length_map]; rfl, h1, h9, fun t nt => ?_⟩
    have x3 : Ex (upd H1 d0 (.dT [])) (upd (upd H1 d0 (.dT [])) t (.tup ((row0 ns.length).map V.int))) := ex_new nt
    have e3 := Ex.dct x3 (upd_same (H := H1) (a := d0) (o := .dT []))
    have y3 := y2.trans x3
    have eR : (upd (upd H1 d0 (.dT [])) t (.tup ((row0 ns.length).map V.int))) t = some (.tup ((row0 ns.length).map V.int)) := upd_same
    generalize upd (upd H1 d0 (.dT [])) t (.tup ((row0 ns.length).map V.int)) = H3 at y3 e3 eR ⊢
    refine ⟨by show 1 ≤ sizeLine; decide, fun l nl => ?_⟩
    have x4 : Ex H3 (upd H3 l (.lst [.int 1])) := ex_new nl
    have el : (upd H3 l (.lst [.int 1])) l = some (.lst (([1] : List Int).map V.int)) := upd_same
    have e4 := Ex.dct x4 e3
    have eR4 := x4.tup eR
    have y4 := y3.trans x4
    generalize upd H3 l (.lst [.int 1]) = H4 at x4 el e4 eR4 y4 ⊢
    refine ⟨e4, t, rk (row0 ns.length), rfl, by rw [rk_kV]; exact eR4, ?_⟩
    have x5 := ex_setD (o := .dT (putK [] (rk (row0 ns.length)) (.ref l))) e4
    have y5 : Ex H (upd H4 d0 (.dT (putK [] (rk (row0 ns.length)) (.ref l)))) := y4.then x5 fun z hz => .inl (by rw [show z = d0 from hz]; exact nH0)
    have ld : l ≠ d0 := fun z => by rw [z, e4] at el; cases el
    have el5 : (upd H4 d0 (.dT (putK [] (rk (row0 ns.length)) (.ref l)))) l = some (.lst (([1] : List Int).map V.int)) := by rw [upd_ne ld]; exact el
    have e5 : (upd H4 d0 (.dT (putK [] (rk (row0 ns.length)) (.ref l)))) d0 = some (.dT (putK [] (rk (row0 ns.length)) (.ref l))) := upd_same
    show tSeq _ _ _ _ _
    generalize upd H4 d0 (.dT (putK [] (rk (row0 ns.length)) (.ref l))) = H5 at y5 el5 e5 ⊢
    have J5 : DL H5 ns.length (spS ns.length gs 0) (putK [] (rk (row0 ns.length)) (.ref l)) := DL.one h1 h9 el5
    refine ⟨_, rfl, a, rfl, ⟨_, y5.sqt hT⟩, for_it (walk_tup (xs := gs.map V.int)) (fun i σ H6 => ∃ (d : Addr) (kvs : List (List Key × V)) (v3 : Option V), σ = [some (.ref a), some (.ref r), some (.ref d), v3, none, none] ∧ Ex H H6 ∧ H6 d = some (.dT kvs) ∧ DL H6 ns.length (spS ns.length gs i) kvs) ⟨d0, _, none, rfl, y5, e5, J5⟩ (fun i σ H6 _ ⟨_, _, _, _, x, _⟩ => x.sqt hT) ?_ ?_⟩
    · rintro i x σ H6' H6 hi ⟨d, kvs, v3, rfl, x6, e6, J6⟩ ⟨rfl, hx⟩
      rw [List.length_map] at hi
      rw [row_get hi] at hx
      cases hx
      obtain ⟨gp, eg, hg⟩ := book_at hB hi
      have egp : gapN gs i = gp := by unfold gapN; rw [eg, Int.toNat_natCast]
      refine ⟨_, rfl, _, rfl, d, gp, ns.length, spS ns.length gs i, kvs, by rw [eg]; rfl, e6, J6, hg, h6, fun x => by have := spS_len ns.length gs i x; omega, fun p kv2 H7 x7 n7 e7 J7 => ?_⟩
      exact ⟨p, kv2, _, rfl, x6.trans x7, e7, by rw [← egp] at J7; exact J7⟩
    · rintro σ H6 ⟨d, kvs, v3, rfl, x6, e6, J6⟩
      rw [List.length_map] at J6
      have bl := spS_len ns.length gs gs.length ns
      generalize spS ns.length gs gs.length = ff at J6 bl q
      refine ⟨_, rfl, d, rfl, .inr ⟨kvs, .inl e6⟩, _, rfl, Nat.zero_le _, fun z nz => ?_⟩
      have x7 : Ex H6 (upd H6 z (.lst [])) := ex_new nz
      have ez : (upd H6 z (.lst [])) z = some (.lst (([] : List Int).map V.int)) := upd_same
      have y7 := x6.trans x7
      have J7 := J6.ex x7
      have e7 := Ex.dct x7 e6
      show ∃ k, _
      generalize upd H6 z (.lst []) = H7 at x7 ez y7 J7 e7 ⊢
      have acr : ∃ pa, (valV kvs (rk ns)).getD (.ref z) = .ref pa ∧ H7 pa = some (.lst ((ff ns).map V.int)) := by
        cases e : valV kvs (rk ns) with
        | none => exact ⟨z, rfl, by rw [J7.out _ hR rfl e]; exact ez⟩
        | some v =>
          obtain ⟨_, pa, rfl, h⟩ := J7.val _ v hR rfl e
          exact ⟨pa, rfl, h⟩
      obtain ⟨pa, epa, hpa⟩ := acr
      refine ⟨kvs, r, rk ns, rfl, .inl e7, by rw [rk_kV]; exact y7.sqt hU, ?_⟩
      rw [epa]
      refine ⟨pa, _, rfl, SqL.of hpa, fun D nD => ?_⟩
      refine lc_it (walk_enum (xs := (ff ns).map V.int)) (fun i H8 => Ex H7 H8 ∧ ∃ ts, H8 D = some (.lst ts) ∧ RefC2 H8 ts (chg (ff ns) i)) ⟨ex_new nD, [], upd_same, .nil⟩ (fun i H8 _ y => SqL.of (Ex.lst y.1 hpa)) ?_ ?_
      · rintro i x H8 H9 hi ⟨x8, ts, e8, r8⟩ ⟨T, x', y', rfl, nT, rfl, ex1, ex2⟩
        rw [List.length_map] at hi
        cases ex1
        have ex2' : ((ff ns).map V.int)[i]? = some y' := ex2
        rw [List.getElem?_map, getD_some hi] at ex2'
        have ey : y' = .int ((ff ns).getD i 0) := (Option.some.inj ex2').symm
        subst ey
        have x9 : Ex H8 (upd H8 T (.tup [.int (i : Nat), .int ((ff ns).getD i 0)])) := ex_new nT
        have eT : (upd H8 T (.tup [.int (i : Nat), .int ((ff ns).getD i 0)])) T = some (.tup [.int (i : Nat), .int ((ff ns).getD i 0)]) := upd_same
        have e9 := Ex.lst x9 e8
        have tl : ts.length = (chg (ff ns) i).length := Paired.length r8
        have cl := chg_len (ff ns) i
        generalize upd H8 T (.tup [.int (i : Nat), .int ((ff ns).getD i 0)]) = H9 at x9 eT e9 ⊢
        refine ⟨T, _, rfl, SqT.of eT, rfl, _, _, rfl, _, _, rfl, rfl, rfl, ?_⟩
        refine ⟨_, rfl, _, _, rfl, rfl, _, rfl, ?_⟩
        by_cases hc : 0 < (ff ns).getD i 0
        · rw [decide_eq_true hc]
          refine iteT ⟨_, rfl, _, rfl, by show 2 ≤ sizeLine; decide, fun t2 n2 => ?_⟩
          have x10 : Ex H9 (upd H9 t2 (.tup [.int (i : Nat), .int ((ff ns).getD i 0)])) := ex_new n2
          have e10 : (upd H9 t2 (.tup [.int (i : Nat), .int ((ff ns).getD i 0)])) t2 = some (.tup [.int (i : Nat), .int ((ff ns).getD i 0)]) := upd_same
          have e11 := Ex.lst x10 e9
          refine ⟨_, e11, by rw [sl]; omega, ((x8.trans x9).trans x10).then (ex_set e11) fun y hy => .inl (hy ▸ nD), _, upd_same, ?_⟩
          rw [chg_succ, if_pos hc]
          exact Paired.snoc (((r8.ex x9).ex x10).ex (ex_set e11)) ⟨t2, rfl, (ex_set e11).tup e10⟩
        · rw [decide_eq_false hc]
          exact iteF ⟨x8.trans x9, ts, e9, by rw [chg_succ, if_neg hc, List.append_nil]; exact r8.ex x9⟩
      · rintro H8 ⟨x8, ts, e8, r8⟩
        rw [List.length_map] at r8
        exact q D ts H8 (y7.trans x8) (y7.fresh nD) e8 r8
abbrev RefP2 (H : Hp) : List V → List (Int × Int) → Prop := Paired fun v q => ∃ t, v = V.ref t ∧ H t = some (.tup [.int q.1, .int q.2])
theorem RefP2.exB {B : Addr → Prop} {H H' : Hp} {vs : List V} {ws : List (Int × Int)} (h : RefP2 H vs ws) (e : ExB B H H') : RefP2 H' vs ws := L2.Paired.mapP h fun _ _ ⟨t, a, b⟩ => ⟨t, a, e.tup b⟩
theorem RefP2.snoc {H : Hp} : ∀ {vs : List V} {ws : List (Int × Int)} {t : Addr} {q : Int × Int}, RefP2 H vs ws → H t = some (.tup [.int q.1, .int q.2]) → RefP2 H (vs ++ [.ref t]) (ws ++ [q])
  | _, _, t, _, .nil, h => .cons ⟨t, rfl, h⟩ .nil
  | _, _, _, _, .cons a r, h => .cons a (RefP2.snoc r h)
theorem RefP2.get {H : Hp} : ∀ {vs : List V} {ws : List (Int × Int)} {i : Nat} {v : V}, RefP2 H vs ws → vs[i]? = some v → ∃ t q, ws[i]? = some q ∧ v = V.ref t ∧ H t = some (.tup [.int q.1, .int q.2])
  | _, _, _, _, .nil, h => nomatch h
  | _, w :: _, 0, _, .cons ⟨t, a, b⟩ _, h => by cases h; exact ⟨t, w, rfl, a, b⟩
  | _, _, i + 1, _, .cons _ r, h => RefP2.get r (i := i) h
theorem RefC2.p2 {H : Hp} : ∀ {vs : List V} {ws : List (Nat × Int)}, RefC2 H vs ws → RefP2 H vs (ws.map fun q => (((q.1 : Nat) : Int), q.2))
  | _, _, .nil => .nil
  | _, _, .cons a r => .cons a (RefC2.p2 r)
def spCellAt (K : PySem.W.Frag) : Sp := fun vs H Q _ => ∃ (a : Addr) (ns : List Int) (k : Nat), vs = [.ref a, .int k] ∧ SqL K H a (ns.map V.int) ∧ ∀ c : Int, Q (.int c) H
theorem d_law_cell_at (F : FnP K "_law_cell_at" s_law_cell_at f fd) (g : mg "_law_cell_at" = some (.ref f)) (B : Bl mg) : CallD P w K mg base (n + 1) "_law_cell_at" ["script", "k"] (spCellAt K) := by
  refine callD F g sc_law_cell_at (fun _ _ _ _ _ _ us hl => match us, hl with | [_, _], _ => rfl) (fun vs H Q E h => ?_) (fun cdv A outer s H vs Q E _ hr hG h => ?_)
  · obtain ⟨a, ns, k, rfl, _⟩ := h; rfl
  · obtain ⟨a, ns, k, rfl, hS, q⟩ := h
    refine ⟨_, (pss_cons (ps_if (pt_cmpR op_lt (pv 1) (pe_callB (k_len (K := K) rfl) (by rfl) B.len PySem.boot_len (pa_cons (pv 0) pa_nil)) (nomark _))
      (pss_one (ps_ret (pe_ix (k_ixl (K := K) rfl) (pv 0) (pv 1) (fun _ _ => rfl))))
      pss_nil)
      (pss_one (ps_ret pe_int))), ?_⟩
    refine ⟨_, rfl, _, rfl, a, _, rfl, .inl hS, _, _, rfl, rfl, _, rfl, ?_⟩
    rw [List.length_map]
    by_cases hlt : (k : Int) < (ns.length : Int)
    · rw [decide_eq_true hlt]
      exact iteT ⟨_, rfl, _, rfl, a, _, _, _, rfl, rfl, hS, at_of rfl (row_get (k := k) (by omega)), q _⟩
    · rw [decide_eq_false hlt]
      exact iteF (q 0)
def spBagD : Sp := fun vs H Q _ => ∃ c : Int, vs = [.int c] ∧ ∀ b H', Ex H H' → H b = none → BagD 0 H' b → Q (.ref b) H'
theorem max_nn1 (e : Int) : 0 ≤ (if e > 1 then e else 1) := by split <;> omega
theorem d_law_bag (F : FnP K "_law_bag" s_law_bag f fd) (g : mg "_law_bag" = some (.ref f)) (B : Bl mg) : CallD P w K mg base (n + 1) "_law_bag" ["cell"] spBagD := by
  refine callD F g sc_law_bag (fun _ _ _ _ _ _ us hl => match us, hl with | [_], _ => rfl) (fun vs H Q E h => ?_) (fun cdv A outer s H vs Q E _ hr hG h => ?_)
  · obtain ⟨c, rfl, _⟩ := h; rfl
  · obtain ⟨cell, rfl, q⟩ := h
    refine ⟨_, (pss_one (ps_ret (pe_lst (pa_cons (pe_callB (call_max2 rfl) (by rfl) B.max (by decide +kernel) (pa_cons pe_int (pa_cons (pe_op op_sub (pv 0) (pe_op op_powW pe_int pe_int)) pa_nil))) (pa_cons (pe_op op_mod (pv 0) (pe_op op_add (pe_op op_powW pe_int pe_int) pe_int)) (pa_cons pe_int pa_nil)))))), ?_⟩
    have pw2 : CPowW 10 18 := pow_ok (k := 200) (by decide) (by decide) (by decide)
    have pw3 : CPowW 10 40 := pow_ok (k := 200) (by decide) (by decide) (by decide)
    refine ⟨_, rfl, 10, 18, rfl, rfl, pw2, _, _, rfl, rfl, _, _, rfl, ?_⟩
    refine ⟨_, rfl, 10, 40, rfl, rfl, pw3, _, _, rfl, rfl, _, _, rfl, rfl, by show (0 : Int) < 10 ^ (40 : Int).toNat + 121; decide, by show 3 ≤ sizeLine; decide, fun b nb => ?_⟩
    have hp : (0 : Int) < 10 ^ (40 : Int).toNat + 121 := by decide
    refine q b _ (ex_new nb) nb ⟨_, _, _, upd_same, max_nn1 _, Int.emod_nonneg _ (by omega), ?_, Int.le_refl _, Int.le_refl _⟩
    exact Int.lt_trans (Int.emod_lt_of_pos _ hp) (by decide)
def spDraw : Sp := fun vs H Q _ => ∃ (b : Addr) (wd : Int) (m : Nat), vs = [.ref b, .int wd] ∧ BagD m H b ∧ m < 1000000 ∧ 1 ≤ wd ∧ wd ≤ 1000000 ∧ ∀ (v : Int) H', 0 ≤ v → v < wd → ExB (At1 b) H H' → BagD (m + 1) H' b → Q (.int v) H'
theorem d_law_draw (F : FnP K "_law_draw" s_law_draw f fd) (g : mg "_law_draw" = some (.ref f)) : CallD P w K mg base (n + 1) "_law_draw" ["bag", "sides"] spDraw := by
  refine callD F g sc_law_draw (fun _ _ _ _ _ _ us hl => match us, hl with | [_, _], _ => rfl) (fun vs H Q E h => ?_) (fun cdv A outer s H vs Q E _ hr hG h => ?_)
  · obtain ⟨b, wd, m, rfl, _⟩ := h; rfl
  · obtain ⟨b, wd, m, rfl, ⟨x, y, z, eb, hx, hy, hy2, hz, hz2⟩, hm, hw1, hw2, q⟩ := h
    refine ⟨_, (pss_cons (ps_if (pt_cmpR op_gt (pe_ix (k_ixl (K := K) rfl) (pv 0) pe_int (fun _ _ => rfl)) pe_int (nomark _))
      (pss_cons (ps_set (i := 2) sc_law_draw.nd rfl (Or.inl rfl) (pe_op op_mod (pe_ix (k_ixl (K := K) rfl) (pv 0) pe_int (fun _ _ => rfl)) (pv 1)))
      (pss_cons (ps_asg (pe_op op_fdivW (pe_ix (k_ixl (K := K) rfl) (pv 0) pe_int (fun _ _ => rfl)) (pv 1)) (pg_sub (pv 0) pe_int set_list))
      (pss_one (ps_ret (pv 2)))))
      pss_nil)
      (pss_cons (ps_asg (pe_op op_add (pe_ix (k_ixl (K := K) rfl) (pv 0) pe_int (fun _ _ => rfl)) pe_int) (pg_sub (pv 0) pe_int set_list))
      (pss_cons (ps_set (i := 2) sc_law_draw.nd rfl (Or.inl rfl) (pe_op op_mod (pe_op op_powW (pe_op op_add (pe_ix (k_ixl (K := K) rfl) (pv 0) pe_int (fun _ _ => rfl)) (pe_op op_mulW (pe_ix (k_ixl (K := K) rfl) (pv 0) pe_int (fun _ _ => rfl)) pe_int)) pe_int) (pe_op op_add (pe_op op_powW pe_int pe_int) pe_int)))
      (pss_cons (ps_set (i := 2) sc_law_draw.nd rfl (Or.inl rfl) (pe_op op_mod (pe_op op_powW (pe_op op_add (pv 2) (pe_op op_mulW (pe_ix (k_ixl (K := K) rfl) (pv 0) pe_int (fun _ _ => rfl)) pe_int)) pe_int) (pe_op op_add (pe_op op_powW pe_int pe_int) pe_int)))
      (pss_one (ps_ret (pe_op op_mod (pe_op op_fdivW (pv 2) pe_int) (pv 1)))))))), ?_⟩
    have w9 : wd < 10 ^ 9 := by have : (10 : Int) ^ 9 = 1000000000 := by decide
                                omega
    refine ⟨_, rfl, b, _, _, _, rfl, rfl, SqL.of eb, rfl, _, _, rfl, rfl, _, rfl, ?_⟩
    by_cases hp : 1 < x
    · rw [decide_eq_true hp]
      refine iteT ⟨_, rfl, b, _, _, _, rfl, rfl, SqL.of eb, rfl, _, rfl, _, _, rfl, rfl, by show (0 : Int) < wd; omega, ?_⟩
      refine ⟨_, rfl, b, _, _, _, rfl, rfl, SqL.of eb, rfl, _, rfl, _, _, rfl, rfl, divW_small (by omega) w9, _, rfl, b, _, _, 0, rfl, rfl, eb, rfl, ?_⟩
      refine ⟨_, rfl, q _ _ (Int.emod_nonneg _ (by omega)) (Int.emod_lt_of_pos _ (by omega)) (ex_set eb) ⟨_, _, _, upd_same, Int.ediv_nonneg hx (by omega), hy, hy2, hz, by omega⟩⟩
    · rw [decide_eq_false hp]
      refine iteF ⟨_, rfl, b, _, _, _, rfl, rfl, SqL.of eb, rfl, _, _, rfl, rfl, _, rfl, b, _, _, 2, rfl, rfl, eb, rfl, ?_⟩
      have x1 : ExB (At1 b) H (upd H b (.lst [.int x, .int y, .int (z + 1)])) := ex_set eb
      have e1 : (upd H b (.lst [.int x, .int y, .int (z + 1)])) b = some (.lst [.int x, .int y, .int (z + 1)]) := upd_same
      show tSeq _ _ _ _ (upd H b (.lst [.int x, .int y, .int (z + 1)]))
      generalize upd H b (.lst [.int x, .int y, .int (z + 1)]) = H1 at x1 e1 ⊢
      have m1 : CMulW (z + 1) 982451653 := mulW_small (Nat.lt_of_le_of_lt (show (z + 1).natAbs ≤ 1000001 by omega) (by decide)) (by decide)
      have m2 : CMulW (z + 1) 15485863 := mulW_small (Nat.lt_of_le_of_lt (show (z + 1).natAbs ≤ 1000001 by omega) (by decide)) (by decide)
      have p1 : CPowW (y + (z + 1) * 982451653) 5 := mix_okD hy hy2 (by omega) (by omega) (by decide) (by decide) (by decide) (by decide)
      have pa : CPowW 10 39 := pow_ok (k := 200) (by decide) (by decide) (by decide)
      have pb : CPowW 10 36 := pow_ok (k := 200) (by decide) (by decide) (by decide)
      have ga : (0 : Int) < 10 ^ (39 : Int).toNat + 3 := by decide
      have gb : (0 : Int) < 10 ^ (36 : Int).toNat + 67 := by decide
      refine ⟨_, rfl, b, _, _, _, rfl, rfl, SqL.of e1, rfl, _, rfl, b, _, _, _, rfl, rfl, SqL.of e1, rfl, _, _, rfl, rfl, m1, _, _, rfl, rfl, _, _, rfl, rfl, p1, 10, 39, rfl, rfl, pa, _, _, rfl, rfl, _, _, rfl, rfl, ga, ?_⟩
      have r0 : 0 ≤ (y + (z + 1) * 982451653) ^ (5 : Int).toNat % (10 ^ (39 : Int).toNat + 3) := Int.emod_nonneg _ (by omega)
      have r1 : (y + (z + 1) * 982451653) ^ (5 : Int).toNat % (10 ^ (39 : Int).toNat + 3) < 10 ^ 41 := Int.lt_trans (Int.emod_lt_of_pos _ ga) (by decide)
      generalize hmx : (y + (z + 1) * 982451653) ^ (5 : Int).toNat % (10 ^ (39 : Int).toNat + 3) = mx at r0 r1
      show tSeq _ _ _ [_, _, some (V.int ((y + (z + 1) * 982451653) ^ (5 : Int).toNat % (10 ^ (39 : Int).toNat + 3)))] _
      rw [hmx]
      have p2 : CPowW (mx + (z + 1) * 15485863) 3 := mix_okD r0 r1 (by omega) (by omega) (by decide) (by decide) (by decide) (by decide)
      refine ⟨_, rfl, _, rfl, b, _, _, _, rfl, rfl, SqL.of e1, rfl, _, _, rfl, rfl, m2, _, _, rfl, rfl, _, _, rfl, rfl, p2, 10, 36, rfl, rfl, pb, _, _, rfl, rfl, _, _, rfl, rfl, gb, ?_⟩
      refine ⟨_, rfl, _, _, rfl, rfl, divW_small (by decide) (by decide), _, rfl, _, _, rfl, rfl, by show (0 : Int) < wd; omega, ?_⟩
      exact q _ _ (Int.emod_nonneg _ (by omega)) (Int.emod_lt_of_pos _ (by omega)) x1 ⟨_, _, _, e1, hx, hy, hy2, by omega, by omega⟩
def spSwapF : Sp := fun vs H Q _ => ∃ (a : Addr) (ns : List Int) (g : Nat), vs = [.ref a, .int g] ∧ FTup H a (ns.map V.int) ∧ g + 1 < ns.length ∧ ns.length ≤ 9 ∧ ∀ p H', Ex H H' → FTup H' p ((swL ns g).map V.int) → Q (.ref p) H'
theorem d_law_swap (F : FnP K "_law_swap" s_law_swap f fd) (g : mg "_law_swap" = some (.ref f)) : CallD P w K mg base (n + 1) "_law_swap" ["line", "spot"] spSwapF := by
  refine callD F g sc_law_swap (fun _ _ _ _ _ _ us hl => match us, hl with | [_, _], _ => rfl) (fun vs H Q E h => ?_) (fun cdv A outer s H vs Q E _ hr hG h => ?_)
  · obtain ⟨a, ns, g, rfl, _⟩ := h; rfl
  · obtain ⟨a, ns, g, rfl, hT, hg, h9, q⟩ := h
    refine ⟨_, (pss_one (ps_ret (pe_op k_catF (pe_op k_catF (pe_slice k_slF (pv 0) po_none (po_some (pv 1))) (pe_tupF (pa_cons (pe_ix (k_ixt (K := K) rfl) (pv 0) (pe_op op_add (pv 1) pe_int) (fun _ _ => rfl)) (pa_cons (pe_ix (k_ixt (K := K) rfl) (pv 0) (pv 1) (fun _ _ => rfl)) pa_nil)))) (pe_slice k_slF (pv 0) (po_some (pe_op op_add (pv 1) pe_int)) po_none)))), ?_⟩
    have sl : sizeLine = 16777216 := by decide
    refine ⟨_, rfl, _, rfl, _, rfl, a, _, rfl, hT, fun p1 H1 x1 h1 => ?_⟩
    rw [cutV_to] at h1
    have eg : (g : Int) + 1 = ((g + 1 : Nat) : Int) := by omega
    refine ⟨_, rfl, _, rfl, _, _, rfl, rfl, a, _, _, _, rfl, rfl, (hT.ex x1).sqt, by rw [eg]; exact at_of (by omega) (row_get hg), ?_⟩
    refine ⟨_, rfl, _, rfl, a, _, _, _, rfl, rfl, (hT.ex x1).sqt, at_of (by omega) (row_get (k := g) (by omega)), by show 2 ≤ sizeLine; decide, fun t H2 x2 nt ht => ?_⟩
    refine ⟨p1, t, _, _, rfl, rfl, h1.ex x2, ht, by rw [List.length_take, List.length_map, sl]; simp; omega, fun p3 H3 x3 h3 => ?_⟩
    refine ⟨_, rfl, _, rfl, _, _, rfl, rfl, _, rfl, a, _, rfl, (hT.ex x1).ex (x2.trans x3), fun p4 H4 x4 h4 => ?_⟩
    rw [show (g : Int) + 2 = ((g + 2 : Nat) : Int) by omega, cutV_from] at h4
    refine ⟨p3, p4, _, _, rfl, rfl, h3.ex x4, h4, by simp [sl]; omega, fun p5 H5 x5 h5 => ?_⟩
    refine q p5 H5 ((((x1.trans x2).trans x3).trans x4).trans x5) ?_
    unfold swL
    rw [List.map_append, List.map_append, List.map_take, List.map_drop]
    exact h5
end
end K70
namespace K70
open PySem PySem.Spec PyProof.Rows L2 GxR MM
section
variable {P : Program} {w : World} {K : PySem.W.Frag} {mg : Str → Option Value} {base : Heap} {f : Addr} {fd : FuncData} {n : Nat}
def spFarLF (K : PySem.W.Frag) : Sp := fun vs H Q _ => ∃ (a : Addr) (gs : List Int) (m : Nat), vs = [.ref a, .int m] ∧ SqT K H a (gs.map V.int) ∧ 1 ≤ m ∧ m ≤ 9 ∧ BookOk m gs ∧ ∀ p H', Ex H H' → FTup H' p ((farL (row0 m) gs).map V.int) → Q (.ref p) H'
theorem d_law_far (F : FnP K "_law_far" s_law_far f fd) (g : mg "_law_far" = some (.ref f)) (B : Bl mg) (C_law_swap : CallD P w K mg base n "_law_swap" ["line", "spot"] spSwapF) : CallD P w K mg base (n + 1) "_law_far" ["plan", "size"] (spFarLF K) := by
  refine callD F g sc_law_far (fun _ _ _ _ _ _ us hl => match us, hl with | [_, _], _ => rfl) (fun vs H Q E h => ?_) (fun cdv A outer s H vs Q E _ hr hG h => ?_)
  · obtain ⟨a, gs, m, rfl, _⟩ := h; rfl
  · obtain ⟨a, gs, m, rfl, hT, h1, h9, hB, q⟩ := h
    refine ⟨_, (pss_cons (ps_set (i := 2) sc_law_far.nd rfl (Or.inl rfl) (pe_tupRgF rfl (by rfl) B.tuple (prg_1 (by rfl) B.range (pv 1))))
      (pss_cons (ps_for PassesOwn.never rfl (k_piT (K := K) rfl (pv 0)) (pg_name (i := 3) sc_law_far.nd rfl (Or.inl rfl))
      (pss_one (ps_if (pt_cmpR op_lt (pe_ix (k_ixt (K := K) rfl) (pv 2) (pv 3) (fun _ _ => rfl)) (pe_ix (k_ixt (K := K) rfl) (pv 2) (pe_op op_add (pv 3) pe_int) (fun _ _ => rfl)) (nomark _))
      (pss_one (ps_set (i := 2) sc_law_far.nd rfl (Or.inl rfl) (pe_c C_law_swap hr hG (pa_cons (pv 2) (pa_cons (pv 3) pa_nil)))))
      pss_nil)))
      (pss_one (ps_ret (pv 2))))), ?_⟩
    refine ⟨_, rfl, _, rfl, RgOk.of_le (Int.le_refl _) (by omega) (by decide) (by omega), fun t0 H3 y3 nt0 e3 => ?_⟩
    rw [show rgV 0 (m : Int) = (row0 m).map V.int from rgV_ints m] at e3
    refine ⟨_, rfl, a, rfl, ⟨_, y3.sqt hT⟩, for_it (walk_tup (xs := gs.map V.int)) (fun i σ H5 => ∃ (p : Addr) (v3 : Option V), σ = [some (.ref a), some (.int m), some (.ref p), v3] ∧ Ex H H5 ∧ FTup H5 p ((farAt (row0 m) gs i).map V.int)) ⟨t0, none, rfl, y3, e3⟩ (fun i σ H5 _ ⟨_, _, _, x, _⟩ => x.sqt hT) ?_ ?_⟩
    · rintro i x σ H5 H5' hi ⟨p, v3, rfl, x5, hp⟩ ⟨rfl, hx⟩
      rw [List.length_map] at hi
      obtain ⟨gp, eg, hg⟩ := book_at hB hi
      rw [row_get hi, eg] at hx
      cases hx
      obtain ⟨hri, hrl⟩ := farAt_ok (row0_row h1 h9) (row0_len m) hB i (by omega)
      have ev : farAt (row0 m) gs (i + 1) = upS (farAt (row0 m) gs i) gp := by show upS (farAt (row0 m) gs i) (gs.getD i 0).toNat = _; rw [eg, Int.toNat_natCast]
      refine ⟨_, rfl, _, rfl, p, _, _, _, rfl, rfl, hp.sqt, at_of rfl (row_get (k := gp) (by omega)), _, rfl, _, rfl, _, _, rfl, rfl, p, _, _, _, rfl, rfl, hp.sqt, at_of (j := gp + 1) (by omega) (row_get (by omega)), _, _, rfl, rfl, _, rfl, ?_⟩
      unfold upS at ev
      by_cases hc : (farAt (row0 m) gs i).getD gp 0 < (farAt (row0 m) gs i).getD (gp + 1) 0
      · rw [if_pos hc] at ev
        rw [decide_eq_true hc]
        refine iteT ⟨_, rfl, _, rfl, p, _, gp, rfl, hp, by rw [hrl]; exact hg, by rw [hrl]; exact h9, fun p2 H6 x6 hp2 => ?_⟩
        exact ⟨p2, _, rfl, x5.trans x6, by rw [ev]; exact hp2⟩
      · rw [if_neg hc] at ev
        rw [decide_eq_false hc]
        exact iteF ⟨p, _, rfl, x5, by rw [ev]; exact hp⟩
    · rintro σ H5 ⟨p, v3, rfl, x5, hp⟩
      rw [List.length_map, ← farL_all] at hp
      exact ⟨_, rfl, q p H5 x5 hp⟩
def spPlanD (K : PySem.W.Frag) : Sp := fun vs H Q _ => ∃ (b : Addr) (sz lo : Nat) (m : Nat), vs = [.ref b, .int sz, .int lo] ∧ BagD m H b ∧ m + 200 < 1000000 ∧ 1 ≤ sz ∧ sz ≤ 9 ∧ lo ≤ 41 ∧
  ∀ p (gs : List Int) H', BookOk sz gs → gs.length ≤ lo → ExB (At1 b) H H' → SqT K H' p (gs.map V.int) → BagD (m + 200) H' b → Q (.ref p) H'
theorem d_law_plan (F : FnP K "_law_plan" s_law_plan f fd) (g : mg "_law_plan" = some (.ref f)) (B : Bl mg) (C_law_draw : CallD P w K mg base n "_law_draw" ["bag", "sides"] spDraw) : CallD P w K mg base (n + 1) "_law_plan" ["bag", "size", "longest"] (spPlanD K) := by
  refine callD F g sc_law_plan (fun _ _ _ _ _ _ us hl => match us, hl with | [_, _, _], _ => rfl) (fun vs H Q E h => ?_) (fun cdv A outer s H vs Q E _ hr hG h => ?_)
  · obtain ⟨b, sz, lo, m, rfl, _⟩ := h; rfl
  · obtain ⟨b, sz, lo, m, rfl, B0, hm, h1, h9, hlo, q⟩ := h
    refine ⟨_, (pss_cons (ps_if (pt_cmpR op_eq (pv 1) pe_int (nomark _))
      (pss_one (ps_ret (pe_tup pa_nil)))
      pss_nil)
      (pss_cons (ps_set (i := 3) sc_law_plan.nd rfl (Or.inr rfl) (pe_c C_law_draw hr hG (pa_cons (pv 0) (pa_cons pe_int pa_nil))))
      (pss_cons (ps_set (i := 4) sc_law_plan.nd rfl (Or.inl rfl) (pe_c C_law_draw hr hG (pa_cons (pv 0) (pa_cons (pe_op op_add (pv 2) pe_int) pa_nil))))
      (pss_cons (ps_set (i := 5) sc_law_plan.nd rfl (Or.inr rfl) (pe_c C_law_draw hr hG (pa_cons (pv 0) (pa_cons (pe_op op_sub (pv 1) pe_int) pa_nil))))
      (pss_cons (ps_if (pt_cmpR op_eq (pv 3) pe_int (nomark _))
      (pss_one (ps_ret (k_tupOf (K := K) rfl (by rfl) B.tuple (pe_lc (own := [("k", 7)]) (g := gName 7) rfl sc_law_plan.nd (pi_range1 rfl B.range (pa_cons (pv 4) pa_nil)) (blkOk_by (N := N_law_plan) (sc := defScope s_law_plan) (by decide +kernel)) (fun _ _ _ _ _ => (pg_name (i := 7) sc_law_plan.nd rfl (by first | exact Or.inl rfl | exact Or.inr rfl))) (fun _ _ _ _ _ => pts_nil) (fun _ _ _ _ _ => (pe_op op_mod (pe_op op_add (pv 5) (pv 7)) (pe_op op_sub (pv 1) pe_int)))))))
      pss_nil)
      (pss_cons (ps_if (pt_cmpR op_eq (pv 3) pe_int (nomark _))
      (pss_one (ps_ret (k_tupOf (K := K) rfl (by rfl) B.tuple (pe_lc (own := [("k", 7)]) (g := gName 7) rfl sc_law_plan.nd (pi_range1 rfl B.range (pa_cons (pv 4) pa_nil)) (blkOk_by (N := N_law_plan) (sc := defScope s_law_plan) (by decide +kernel)) (fun _ _ _ _ _ => (pg_name (i := 7) sc_law_plan.nd rfl (by first | exact Or.inl rfl | exact Or.inr rfl))) (fun _ _ _ _ _ => pts_nil) (fun _ _ _ _ _ => (pe_op op_mod (pe_op op_sub (pv 5) (pv 7)) (pe_op op_sub (pv 1) pe_int)))))))
      pss_nil)
      (pss_cons (ps_set (i := 6) sc_law_plan.nd rfl (Or.inr rfl) (pe_lc (own := [("k", 7)]) (g := gName 7) rfl sc_law_plan.nd (pi_range1 rfl B.range (pa_cons pe_int pa_nil)) (blkOk_by (N := N_law_plan) (sc := defScope s_law_plan) (by decide +kernel)) (fun _ _ _ _ _ => (pg_name (i := 7) sc_law_plan.nd rfl (by first | exact Or.inl rfl | exact Or.inr rfl))) (fun _ _ _ _ _ => pts_nil) (fun _ _ _ _ _ => (pe_c C_law_draw hr hG (pa_cons (pv 0) (pa_cons (pe_op op_sub (pv 1) pe_int) pa_nil))))))
      (pss_one (ps_ret (k_tupOf (K := K) rfl (by rfl) B.tuple (pe_lc (own := [("k", 7)]) (g := gName 7) rfl sc_law_plan.nd (pi_range1 rfl B.range (pa_cons (pv 4) pa_nil)) (blkOk_by (N := N_law_plan) (sc := defScope s_law_plan) (by decide +kernel)) (fun _ _ _ _ _ => (pg_name (i := 7) sc_law_plan.nd rfl (by first | exact Or.inl rfl | exact Or.inr rfl))) (fun _ _ _ _ _ => pts_nil) (fun _ _ _ _ _ => (pe_ifExp (pt_cmpR op_eq (pv 3) pe_int (nomark _)) (pe_ix (k_ixl (K := K) rfl) (pv 6) (pe_c C_law_draw hr hG (pa_cons (pv 0) (pa_cons pe_int pa_nil))) (fun _ _ => rfl)) (pe_c C_law_draw hr hG (pa_cons (pv 0) (pa_cons (pe_op op_sub (pv 1) pe_int) pa_nil)))))))))))))))), ?_⟩
    have bne := B0.some
    refine ⟨_, rfl, rfl, _, rfl, ?_⟩
    by_cases hs : sz = 1
    · rw [decide_eq_true (show V.int (sz : Int) = V.int 1 by rw [hs]; rfl)]
      refine iteT ⟨Nat.zero_le _, fun p np => ?_⟩
      exact q p [] _ (fun _ h => nomatch h) (Nat.zero_le _) (ex_new np).of (SqT.of upd_same) ((B0.ex (ex_new np)).mono (by omega))
    rw [decide_eq_false (show ¬ V.int (sz : Int) = V.int 1 from fun z => hs (by injection z with z; omega))]
    refine iteF ?_
    refine ⟨_, rfl, b, 4, m, rfl, B0, by omega, by decide, by decide, fun kd H1 k0 k1 x1 B1 => ?_⟩
    refine ⟨_, rfl, _, rfl, _, _, rfl, rfl, b, (lo : Int) + 1, m + 1, rfl, B1, by omega, by omega, by omega, fun ln H2 l0 l1 x2 B2 => ?_⟩
    refine ⟨_, rfl, _, rfl, _, _, rfl, rfl, b, (sz : Int) - 1, m + 1 + 1, rfl, B2, by omega, by omega, by omega, fun fs H3 f0 f1 x3 B3 => ?_⟩
    have y3 := (x1.trans x2).trans x3
    obtain ⟨lN, rfl⟩ : ∃ k : Nat, ln = (k : Int) := ⟨ln.toNat, by omega⟩
    have hlN : lN ≤ lo := by omega
    -- (first + k) % (size - 1), (first - k) % (size - 1)
    have pos : (0 : Int) < (sz : Int) - 1 := by omega
    have rng : ∀ e : Int, 0 ≤ e % ((sz : Int) - 1) ∧ e % ((sz : Int) - 1) + 2 ≤ sz := fun e => ⟨Int.emod_nonneg _ (by omega), by have := Int.emod_lt_of_pos e pos; omega⟩
    refine ⟨_, rfl, rfl, _, rfl, ?_⟩
    by_cases hk1 : kd = 1
    · rw [decide_eq_true (show V.int kd = V.int 1 by rw [hk1])]
      refine iteT ⟨_, rfl, _, rfl, by omega, by omega, fun D nD => ?_⟩
      rw [Int.toNat_natCast]
      refine lc_it walk_range (fun i H4 => ∃ gs : List Int, Ex H3 H4 ∧ H4 D = some (.lst (gs.map V.int)) ∧ gs.length = i ∧ BookOk sz gs) ⟨[], ex_new nD, upd_same, rfl, fun _ h => nomatch h⟩ (fun _ _ _ _ => trivial) ?_ ?_
      · rintro i x H4 H4' hi ⟨gs, x4, e4, hl, hb⟩ ⟨rfl, rfl⟩
        refine ⟨rfl, yes_go ⟨_, rfl, _, rfl, _, _, rfl, rfl, _, rfl, _, _, rfl, rfl, _, _, rfl, rfl, pos, ?_⟩⟩
        refine ⟨_, e4, small1000 (by rw [List.length_map]; omega), gs ++ [(fs + (0 + (i : Int))) % ((sz : Int) - 1)], x4.then (ex_set e4) fun y hy => .inl (hy ▸ nD), by rw [upd_same, List.map_append]; rfl, by rw [List.length_append, hl]; rfl, fun x hx => ?_⟩
        rcases List.mem_append.mp hx with z | z
        · exact hb x z
        · rw [List.mem_singleton.mp z]; exact rng _
      · rintro H4 ⟨gs, x4, e4, hl, hb⟩
        refine ⟨D, _, rfl, .inl ⟨SqL.of e4, fun p H5 x5 np e5 => ?_⟩⟩
        exact q p gs H5 hb (by omega) (y3.trans (x4.trans x5).of) (SqT.of e5) ((B3.ex (x4.trans x5)).mono (by omega))
    rw [decide_eq_false (show ¬ V.int kd = V.int 1 from fun z => hk1 (by injection z))]
    refine iteF ?_
    refine ⟨_, rfl, rfl, _, rfl, ?_⟩
    by_cases hk2 : kd = 2
    · rw [decide_eq_true (show V.int kd = V.int 2 by rw [hk2])]
      refine iteT ⟨_, rfl, _, rfl, by omega, by omega, fun D nD => ?_⟩
      rw [Int.toNat_natCast]
      refine lc_it walk_range (fun i H4 => ∃ gs : List Int, Ex H3 H4 ∧ H4 D = some (.lst (gs.map V.int)) ∧ gs.length = i ∧ BookOk sz gs) ⟨[], ex_new nD, upd_same, rfl, fun _ h => nomatch h⟩ (fun _ _ _ _ => trivial) ?_ ?_
      · rintro i x H4 H4' hi ⟨gs, x4, e4, hl, hb⟩ ⟨rfl, rfl⟩
        refine ⟨rfl, yes_go ⟨_, rfl, _, rfl, _, _, rfl, rfl, _, rfl, _, _, rfl, rfl, _, _, rfl, rfl, pos, ?_⟩⟩
        refine ⟨_, e4, small1000 (by rw [List.length_map]; omega), gs ++ [(fs - (0 + (i : Int))) % ((sz : Int) - 1)], x4.then (ex_set e4) fun y hy => .inl (hy ▸ nD), by rw [upd_same, List.map_append]; rfl, by rw [List.length_append, hl]; rfl, fun x hx => ?_⟩
        rcases List.mem_append.mp hx with z | z
        · exact hb x z
        · rw [List.mem_singleton.mp z]; exact rng _
      · rintro H4 ⟨gs, x4, e4, hl, hb⟩
        refine ⟨D, _, rfl, .inl ⟨SqL.of e4, fun p H5 x5 np e5 => ?_⟩⟩
        exact q p gs H5 hb (by omega) (y3.trans (x4.trans x5).of) (SqT.of e5) ((B3.ex (x4.trans x5)).mono (by omega))
    rw [decide_eq_false (show ¬ V.int kd = V.int 2 from fun z => hk2 (by injection z))]
    refine iteF ?_
    -- few
    refine ⟨_, rfl, by decide, by decide, fun D nD => ?_⟩
    have bD : b ≠ D := fun z => by obtain ⟨_, _, _, e, _⟩ := B3; rw [z, nD] at e; cases e
    refine lc_it walk_range (fun i H4 => ∃ gs : List Int, ExB (At1 b) H3 H4 ∧ H4 D = some (.lst (gs.map V.int)) ∧ gs.length = i ∧ BookOk sz gs ∧ BagD (m + 3 + i) H4 b) ⟨[], (ex_new nD).of, upd_same, rfl, (fun _ h => nomatch h), B3.ex (ex_new nD)⟩ (fun _ _ _ _ => trivial) ?_ ?_
    · rintro i x H4 H4' hi ⟨gs, x4, e4, hl, hb, B4⟩ ⟨rfl, rfl⟩
      have hi2 : i < 2 := hi
      refine ⟨rfl, yes_go ⟨_, rfl, _, rfl, _, _, rfl, rfl, b, (sz : Int) - 1, m + 3 + i, rfl, B4, by omega, by omega, by omega, fun v H5 v0 v1 x5 B5 => ?_⟩⟩
      have e5 := x5.lst e4 (fun z => bD z.symm)
      refine ⟨_, e5, small1000 (by rw [List.length_map]; omega), gs ++ [v], (x4.trans x5).then (ex_set e5) fun y hy => .inl (hy ▸ nD), by rw [upd_same, List.map_append]; rfl, by rw [List.length_append, hl]; rfl, fun x hx => ?_, B5.exB (ex_set e5) bD⟩
      rcases List.mem_append.mp hx with z | z
      · exact hb x z
      · rw [List.mem_singleton.mp z]; omega
    rintro H4 ⟨fw, x4, e4, hl4, hb4, B4⟩
    have hl4 : fw.length = 2 := hl4
    have B4 : BagD (m + 5) H4 b := B4
    have y4 := y3.trans x4
    refine ⟨_, rfl, _, rfl, by omega, by omega, fun D2 nD2 => ?_⟩
    rw [Int.toNat_natCast]
    have bD2 : b ≠ D2 := fun z => by obtain ⟨_, _, _, e, _⟩ := B4; rw [z, nD2] at e; cases e
    have DD2 : D ≠ D2 := fun z => by rw [z, nD2] at e4; cases e4
    refine lc_it walk_range (fun i H5 => ∃ gs : List Int, ExB (At1 b) H4 H5 ∧ H5 D2 = some (.lst (gs.map V.int)) ∧ gs.length = i ∧ BookOk sz gs ∧ BagD (m + 5 + i) H5 b) ⟨[], (ex_new nD2).of, upd_same, rfl, (fun _ h => nomatch h), B4.ex (ex_new nD2)⟩ (fun _ _ _ _ => trivial) ?_ ?_
    · rintro i x H5 H5' hi ⟨gs, x5, e5, hl, hb, B5⟩ ⟨rfl, rfl⟩
      have fin : ∀ (v : Int) H6, 0 ≤ v → v + 2 ≤ sz → ExB (At1 b) H5' H6 → BagD (m + 5 + i + 1) H6 b → ∃ xs, H6 D2 = some (.lst xs) ∧ xs.length < sizeLine ∧ ∃ gs : List Int, ExB (At1 b) H4 (upd H6 D2 (.lst (xs ++ [.int v]))) ∧ (upd H6 D2 (.lst (xs ++ [.int v]))) D2 = some (.lst (gs.map V.int)) ∧ gs.length = i + 1 ∧ BookOk sz gs ∧ BagD (m + 5 + (i + 1)) (upd H6 D2 (.lst (xs ++ [.int v]))) b := fun v H6 v0 v1 x6 B6 => by
        have e6 := x6.lst e5 (fun z => bD2 z.symm)
        refine ⟨_, e6, small1000 (by rw [List.length_map]; omega), gs ++ [v], (x5.trans x6).then (ex_set e6) fun y hy => .inl (hy ▸ nD2), by rw [upd_same, List.map_append]; rfl, by rw [List.length_append, hl]; rfl, fun x hx => ?_, B6.exB (ex_set e6) bD2⟩
        rcases List.mem_append.mp hx with z | z
        · exact hb x z
        · rw [List.mem_singleton.mp z]; omega
      refine ⟨rfl, yes_go ?_⟩
      refine ⟨_, rfl, rfl, _, rfl, ?_⟩
      by_cases hk3 : kd = 3
      · rw [decide_eq_true (show V.int kd = V.int 3 by rw [hk3])]
        refine iteT ⟨_, rfl, _, rfl, b, 2, m + 5 + i, rfl, B5, by omega, by decide, by decide, fun v H6 v0 v1 x6 B6 => ?_⟩
        have hv : v.toNat < fw.length := by omega
        have hfv := hb4 _ (List.getElem_mem hv)
        refine ⟨D, _, _, _, rfl, rfl, SqL.of (x6.lst (x5.lst e4 (fun z => bD z.symm)) (fun z => bD z.symm)), at_of (j := v.toNat) (v := .int fw[v.toNat]) (by omega) (by rw [List.getElem?_map, List.getElem?_eq_getElem hv]; rfl), ?_⟩
        exact fin _ H6 hfv.1 hfv.2 x6 B6
      · rw [decide_eq_false (show ¬ V.int kd = V.int 3 from fun z => hk3 (by injection z))]
        refine iteF ⟨_, rfl, _, rfl, _, _, rfl, rfl, b, (sz : Int) - 1, m + 5 + i, rfl, B5, by omega, by omega, by omega, fun v H6 v0 v1 x6 B6 => ?_⟩
        exact fin v H6 v0 (by omega) x6 B6
    · rintro H5 ⟨gs, x5, e5, hl, hb, B5⟩
      refine ⟨D2, _, rfl, .inl ⟨SqL.of e5, fun p H6 x6 np e6 => ?_⟩⟩
      exact q p gs H6 hb (by omega) ((y4.trans x5).trans x6.of) (SqT.of e6) ((B5.ex x6).mono (by omega))
def spCheckLet (K : PySem.W.Frag) (Pr Pb : Addr) : Sp := fun vs H Q _ => ∃ (a r : Addr) (gs ns : List Int), vs = [.ref a, .ref r] ∧ SqT K H a (gs.map V.int) ∧ SqT K H r (ns.map V.int) ∧ TabG H Pr ∧ TabG H Pb ∧ IsRow ns ∧ BookOk ns.length gs ∧ more ns (farL (row0 ns.length) gs) = [] ∧ ∀ H', Ex H H' → Q .non H'
theorem d_check_let {Pr Pb : Addr} (F : FnP K "check_let" s_check_let f fd) (g : mg "check_let" = some (.ref f)) (C_lets : CallD P w K mg base n "lets" ["book", "row"] (spLets K Pr Pb)) : CallD P w K mg base (n + 1) "check_let" ["book", "row"] (spCheckLet K Pr Pb) := by
  refine callD F g sc_check_let (fun _ _ _ _ _ _ us hl => match us, hl with | [_, _], _ => rfl) (fun vs H Q E h => ?_) (fun cdv A outer s H vs Q E _ hr hG h => ?_)
  · obtain ⟨a, r, gs, ns, rfl, _⟩ := h; rfl
  · obtain ⟨a, r, gs, ns, rfl, hT, hT2, hPr, hPb, hR, hB, hm, q⟩ := h
    refine ⟨_, (pss_one (ps_if (pt_not (pt_val (pe_c C_lets hr hG (pa_cons (pv 0) (pa_cons (pv 1) pa_nil)))))
      (pss_one ps_never)
      pss_nil)), ?_⟩
    refine ⟨_, rfl, _, rfl, a, r, gs, ns, rfl, hT, hT2, hPr, hPb, hR, hB, fun H1 x1 => ?_⟩
    rw [decide_eq_true hm]
    exact ⟨true, rfl, iteF (q H1 x1)⟩
/-- numbers of meetings, rising -/
def Lvs (ks : List Int) (N : Nat) : Prop := ks.Pairwise (· < ·) ∧ (∀ k ∈ ks, 0 ≤ k ∧ k < (N : Int)) ∧ ks.length < 64
def spOfM (K : PySem.W.Frag) (Pm : Addr) : Sp := fun vs H Q _ => ∃ (t b : Addr) (ks gs : List Int), vs = [.ref t, .ref b] ∧ SqT K H t (ks.map V.int) ∧ SqT K H b (gs.map V.int) ∧ gs.length < 1000 ∧ Lvs ks gs.length ∧ TabG H Pm ∧ ∀ H', Ex H H' → Q (.bl true) H'
theorem d_is_of_meetings {c Pm fW : Addr} {fdW : FuncData} (F : FnP K "is_of_meetings" s_is_of_meetings f fd) (g : mg "is_of_meetings" = some (.ref f)) (B : Bl mg) (FW : FnP K "is_whole" s_is_whole fW fdW) (gW : mg "is_whole" = some (.ref fW))
    (TB : TabB base mg c Pm) (hc : ∀ oc od fd osl, K.lookup f = some ⟨oc, od, .func fd, osl⟩ → fd.code = .ref c) : CallD P w K mg base (n + 2) "is_of_meetings" ["thing", "book"] (spOfM K Pm) := by
  refine callD F g sc_is_of_meetings (fun _ _ _ _ _ _ us hl => match us, hl with | [_, _], _ => rfl) (fun vs H Q E h => ?_) (fun cdv A outer s H vs Q E hcd0 hr hG h => ?_)
  · obtain ⟨a, b, ks, gs, rfl, _⟩ := h; rfl
  · obtain ⟨a, b, ks, gs, rfl, hT, hT2, hgl, ⟨hp, hin, hkl⟩, hTab, q⟩ := h
    have hcd : cdv = .ref c := by
      obtain ⟨oc, od, dV, kV, doc, pm, an, cdv', ct, osl, e1, lk, _⟩ := F.ex
      rw [← hcd0 _ _ _ _ lk]; exact hc _ _ _ _ lk
    subst hcd
    refine ⟨_, (pss_cons (ps_if (PW.pt (pw_or (pt_not (pt_val (pe_callB (k_isi (K := K) rfl) (by rfl) B.isinstance (by decide +kernel) (pa_cons (pv 0) (pa_cons (pe_bltn (v := .ty "tuple") (by rfl) B.tuple (by decide +kernel) rfl) pa_nil))))) (pw_or1 (pt_not (pt_val (pe_allT (ok := okKd _) (pb := fun _ v => isW v) hr (by rfl) B.all (by decide +kernel) TB rfl ⟨rfl, rfl, by decide +kernel, rfl, rfl, fun y hy e => (nofree_gen rfl y hy e).elim⟩ (pv 0) (elt_whole FW hr gW B.isinstance B.int B.bool rfl ⟨_, _, _, _, _, _, _, _, _, _, _, ⟨0, 0, 0, 0⟩, rfl⟩ (fun _ _ _ _ _ _ us hl => match us, hl with | [_], _ => rfl) rfl rfl rfl) (fun _ => rfl)))))))
      (pss_one (ps_ret pe_bl))
      pss_nil)
      (pss_one (ps_ret (pe_and (pe_allT (ok := okInN _ 1 gs.length) (pb := inN gs.length) hr (by rfl) B.all (by decide +kernel) TB rfl ⟨rfl, rfl, by decide +kernel, rfl, rfl, fun y hy e => free_one (z := "book") (by decide +kernel) rfl y hy e⟩ (pv 0) (elt_inlen B.len rfl rfl rfl rfl rfl (fun c hc => by cases hc; rfl) rfl) (fun _ => rfl)) (pe_one (pe_cmpR (k_eq (K := K) rfl hr.units) (pe_callTy (k_listOf (K := K) rfl) (by rfl) B.list (by decide +kernel) (pa_cons (pv 0) pa_nil)) (pe_sortSetT (K := K) rfl rfl (by rfl) B.sorted (by decide +kernel) (by rfl) B.set (pv 0)) (nomark _))))))), ?_⟩
    refine ⟨.ref a, rfl, .ref a, .ty "tuple", _, _, true, rfl, .ty _, (Kd.tup hT).ty, kd_tuple (Kd.tup hT), true, rfl, iteF ?_⟩
    refine ⟨.ref a, rfl, a, ks.map V.int, rfl, hT, hTab, fun x hx => by obtain ⟨i, _, rfl⟩ := List.mem_map.mp hx; exact ⟨_, .int i⟩, fun H2 t2 => ?_⟩
    have e2 : (ks.map V.int).all isW = true := by rw [List.all_eq_true]; intro x hx; obtain ⟨i, _, rfl⟩ := List.mem_map.mp hx; rfl
    refine ⟨_, rfl, ?_⟩
    rw [e2]
    refine iteF ?_
    have x1 : Ex H H2 := ex_tab hTab t2
    refine ⟨.ref a, rfl, a, ks.map V.int, rfl, x1.sqt hT, x1.tab hTab, fun x hx => ⟨by obtain ⟨i, _, rfl⟩ := List.mem_map.mp hx; exact ⟨i, rfl⟩, by omega, b, gs.map V.int, rfl, x1.sqt hT2, by rw [List.length_map]⟩, fun H3 t3 => ?_⟩
    have e3 : (ks.map V.int).all (inN gs.length [some (.ref a), some (.ref b)]) = true := by
      rw [List.all_eq_true]; intro x hx; obtain ⟨i, hi, rfl⟩ := List.mem_map.mp hx
      exact decide_eq_true (hin i hi)
    have x3 : Ex H H3 := x1.trans (ex_tab (x1.tab hTab) t3)
    refine ⟨_, rfl, ?_⟩
    show (if (ks.map V.int).all (inN gs.length [some (.ref a), some (.ref b)]) = true then _ else _)
    rw [e3]
    refine iteT ?_
    refine ⟨.ref a, rfl, a, _, rfl, .inr (x3.sqt hT), fun l nl => ?_⟩
    have x4 : Ex H3 (upd H3 l (.lst (ks.map V.int))) := ex_new nl
    have e4 : (upd H3 l (.lst (ks.map V.int))) l = some (.lst (ks.map V.int)) := upd_same
    refine ⟨.ref a, rfl, a, ks, rfl, (x3.trans x4).sqt hT, hkl, hp, fun r H5 x5 nr er => ?_⟩
    have nice : Nice 1 (ks.length * 53 + 3) (.list (ks.map PyData.int)) := nice_list (nice_ints fun i hi => by have := hin i hi; omega) (by rw [List.length_map]; exact Nat.le_refl _)
    refine ⟨_, _, dp_ints (SqL.of (Ex.lst x5 e4)), dp_ints (SqL.of er), nice.shaped (by decide), nice.shaped (by decide), ?_⟩
    rw [nice.refl]
    exact q H5 (x3.trans (x4.trans x5))
def spStill (K : PySem.W.Frag) (Pr Pb : Addr) : Sp := fun vs H Q _ => ∃ (a r t : Addr) (gs ns ks : List Int), vs = [.ref a, .ref r, .ref t] ∧ SqT K H a (gs.map V.int) ∧ SqT K H r (ns.map V.int) ∧ SqT K H t (ks.map V.int) ∧ TabG H Pr ∧ TabG H Pb ∧ IsRow ns ∧ BookOk ns.length gs ∧ gs.length < 1000 ∧ ∀ H', Ex H H' → Q (.bl (decide (more ns (farL (row0 ns.length) (outS gs ks gs.length)) = []))) H'
theorem d_still_lets {Pr Pb : Addr} (F : FnP K "still_lets" s_still_lets f fd) (g : mg "still_lets" = some (.ref f)) (B : Bl mg) (C_lets : CallD P w K mg base n "lets" ["book", "row"] (spLets K Pr Pb)) : CallD P w K mg base (n + 1) "still_lets" ["book", "row", "leaving"] (spStill K Pr Pb) := by
  refine callD F g sc_still_lets (fun _ _ _ _ _ _ us hl => match us, hl with | [_, _, _], _ => rfl) (fun vs H Q E h => ?_) (fun cdv A outer s H vs Q E _ hr hG h => ?_)
  · obtain ⟨a, r, t, gs, ns, ks, rfl, _⟩ := h; rfl
  · obtain ⟨a, r, t, gs, ns, ks, rfl, hT, hT2, hT3, hPr, hPb, hR, hB, hgl, q⟩ := h
    refine ⟨_, (pss_one (ps_ret (pe_c C_lets hr hG (pa_cons (k_tupOf (K := K) rfl (by rfl) B.tuple (pe_lc (own := [("meeting", 3), ("gap", 4)]) (g := gTup K 2 (gCons (gName 3) (gCons (gName 4) (gNil)))) rfl sc_still_lets.nd (pi_enT (K := K) rfl (by rfl) B.enumerate (pa_cons (pv 0) pa_nil)) (blkOk_by (N := N_still_lets) (sc := defScope s_still_lets) (by decide +kernel)) (fun _ _ _ _ _ => (k_tup (K := K) rfl (pg_tup rfl (pgs_cons (pg_name (i := 3) sc_still_lets.nd rfl (by first | exact Or.inl rfl | exact Or.inr rfl)) (pgs_cons (pg_name (i := 4) sc_still_lets.nd rfl (by first | exact Or.inl rfl | exact Or.inr rfl)) pgs_nil))))) (fun _ _ _ _ _ => (pts_one (pt_cmpR (k_notIn (K := K) rfl) (pv 3) (pv 2) (by rfl)))) (fun _ _ _ _ _ => (pv 4)))) (pa_cons (pv 1) pa_nil))))), ?_⟩
    refine ⟨_, rfl, a, _, rfl, hT, fun D nD => ?_⟩
    refine lc_it (walk_enT (xs := gs.map V.int)) (fun i H2 => Ex H H2 ∧ H2 D = some (.lst ((outS gs ks i).map V.int))) ⟨ex_new nD, upd_same⟩ (fun i H2 _ y => y.1.sqt hT) ?_ ?_
    · rintro i x H2 H2' hi ⟨x2, e2⟩ ⟨T, x', y', rfl, nT, rfl, g1, g2⟩
      rw [List.length_map] at hi
      have g1 : x' = .int (i : Int) := (Option.some.inj g1).symm
      have g2 : y' = .int (gs.getD i 0) := by
        have g2 : (gs.map V.int)[i]? = some y' := g2
        rw [row_get hi] at g2; exact (Option.some.inj g2).symm
      subst g1 g2
      have x6 : Ex H2 (upd H2 T (.tup [.int (i : Int), .int (gs.getD i 0)])) := ex_new nT
      have e6 := Ex.lst x6 e2
      have y6 := x2.trans x6
      refine ⟨T, _, rfl, SqT.of upd_same, rfl, _, _, rfl, _, _, rfl, rfl, rfl, ?_⟩
      generalize upd H2 T (.tup [.int (i : Int), .int (gs.getD i 0)]) = H6 at e6 y6 ⊢
      refine ⟨_, rfl, _, rfl, t, _, rfl, .inr (y6.sqt hT3), rfl, flat_ints _, _, rfl, ?_⟩
      have es := outS_succ gs ks i
      rw [if_pos rfl, inV_ints]
      by_cases hin : (i : Int) ∈ ks
      · rw [if_pos hin, List.append_nil] at es
        rw [decide_eq_true hin]
        exact iteF ⟨y6, by rw [es]; exact e6⟩
      · rw [if_neg hin] at es
        rw [decide_eq_false hin]
        refine iteT ⟨_, rfl, _, e6, small1000 (by rw [List.length_map]; have := outS_len gs ks i; omega), y6.then (ex_set e6) fun y hy => .inl (hy ▸ nD), ?_⟩
        rw [upd_same, es, List.map_append]; rfl
    rintro H2 ⟨x2, e2⟩
    rw [List.length_map] at e2
    refine ⟨D, _, rfl, .inl ⟨SqL.of e2, fun p H3 x3 np e3 => ?_⟩⟩
    have y3 := x2.trans x3
    refine ⟨_, rfl, p, r, outS gs ks gs.length, ns, rfl, SqT.of e3, y3.sqt hT2, y3.tab hPr, y3.tab hPb, hR, outS_book hB (Nat.le_refl _), fun H4 x4 => q H4 (y3.trans x4)⟩
def spIsLeft (K : PySem.W.Frag) (Pr Pb Pm : Addr) : Sp := fun vs H Q _ => ∃ (a r t : Addr) (gs ns ks : List Int), vs = [.ref a, .ref r, .ref t] ∧ SqT K H a (gs.map V.int) ∧ SqT K H r (ns.map V.int) ∧ SqT K H t (ks.map V.int) ∧ TabG H Pr ∧ TabG H Pb ∧ TabG H Pm ∧ IsRow ns ∧ BookOk ns.length gs ∧ gs.length < 1000 ∧ Lvs ks gs.length ∧ more ns (farL (row0 ns.length) gs) = [] ∧ ∀ H', Ex H H' → Q (.bl (decide (more ns (farL (row0 ns.length) (outS gs ks gs.length)) = []))) H'
theorem d_is_left {Pr Pb Pm : Addr} (F : FnP K "is_left" s_is_left f fd) (g : mg "is_left" = some (.ref f)) (C_check_let : CallD P w K mg base n "check_let" ["book", "row"] (spCheckLet K Pr Pb)) (C_is_of_meetings : CallD P w K mg base n "is_of_meetings" ["thing", "book"] (spOfM K Pm)) (C_still_lets : CallD P w K mg base n "still_lets" ["book", "row", "leaving"] (spStill K Pr Pb)) : CallD P w K mg base (n + 1) "is_left" ["book", "row", "leaving"] (spIsLeft K Pr Pb Pm) ∧ CallK P w K mg base (n + 1) "is_left" ["book", "row", "leaving"] ["leaving", "row", "book"] gR3 gR3 (spIsLeft K Pr Pb Pm) := by
  refine callDK F g sc_is_left (fun _ _ _ _ _ _ us hl => match us, hl with | [_, _, _], _ => rfl) (fun _ _ _ _ _ _ us ws hl => match us, ws, hl with | [], [_, _, _], _ => rfl) gR3_rel (fun vs H Q E h => ?_) (fun cdv A outer s H vs Q E _ hr hG h => ?_)
  · obtain ⟨a, r, t, gs, ns, ks, rfl, _⟩ := h; rfl
  · obtain ⟨a, r, t, gs, ns, ks, rfl, hT, hT2, hT3, hPr, hPb, hPm, hR, hB, hgl, hL, hlet, q⟩ := h
    refine ⟨_, (pss_cons (ps_expr (pe_c C_check_let hr hG (pa_cons (pv 0) (pa_cons (pv 1) pa_nil))))
      (pss_cons (ps_if (pt_not (pt_val (pe_c C_is_of_meetings hr hG (pa_cons (pv 2) (pa_cons (pv 0) pa_nil)))))
      (pss_one ps_never)
      pss_nil)
      (pss_one (ps_ret (pe_c C_still_lets hr hG (pa_cons (pv 0) (pa_cons (pv 1) (pa_cons (pv 2) pa_nil)))))))), ?_⟩
    refine ⟨_, rfl, _, rfl, a, r, gs, ns, rfl, hT, hT2, hPr, hPb, hR, hB, hlet, fun H1 x1 => ?_⟩
    refine ⟨_, rfl, _, rfl, t, a, ks, gs, rfl, x1.sqt hT3, x1.sqt hT, hgl, hL, x1.tab hPm, fun H2 x2 => ?_⟩
    have y2 := x1.trans x2
    refine ⟨true, rfl, iteF ?_⟩
    exact ⟨_, rfl, _, rfl, _, rfl, a, r, t, gs, ns, ks, rfl, y2.sqt hT, y2.sqt hT2, y2.sqt hT3, y2.tab hPr, y2.tab hPb, hR, hB, hgl, fun H3 x3 => q H3 (y2.trans x3)⟩
theorem filt2 {j u : Int} : ([u].filter fun p => decide (p < j)).length = if u < j then 1 else 0 := by
  by_cases h : u < j <;> simp [h]
theorem sum_trn (ns : List Int) : ∀ n, ((List.range n).map fun k => ((((ns.drop k).filter fun p => decide (p < ns.getD k 0)).length : Nat) : Int)).sum = (trn ns n : Int)
  | 0 => rfl
  | n + 1 => by
    rw [List.range_succ, List.map_append, List.sum_append, sum_trn ns n]
    show (trn ns n : Int) + (((((ns.drop n).filter fun p => decide (p < ns.getD n 0)).length : Nat) : Int) + 0) = ((trn ns n + ((ns.drop n).filter fun p => decide (p < ns.getD n 0)).length : Nat) : Int)
    omega
def spTurns (K : PySem.W.Frag) : Sp := fun vs H Q _ => ∃ (a : Addr) (ns : List Int), vs = [.ref a] ∧ SqT K H a (ns.map V.int) ∧ ns.length ≤ 9 ∧ ∀ H', Ex H H' → Q (.int (pairsN ns : Nat)) H'
theorem d_law_turns (F : FnP K "_law_turns" s_law_turns f fd) (g : mg "_law_turns" = some (.ref f)) (B : Bl mg) : CallD P w K mg base (n + 1) "_law_turns" ["line"] (spTurns K) := by
  refine callD F g sc_law_turns (fun _ _ _ _ _ _ us hl => match us, hl with | [_], _ => rfl) (fun vs H Q E h => ?_) (fun cdv A outer s H vs Q E _ hr hG h => ?_)
  · obtain ⟨a, ns, rfl, _⟩ := h; rfl
  · obtain ⟨a, ns, rfl, hT, h9, q⟩ := h
    refine ⟨_, (pss_one (ps_ret (pe_callB (k_sum (K := K) rfl rfl) (by rfl) B.sum (by decide +kernel) (pa_cons (pe_lc (own := [("k", 1)]) (g := gName 1) rfl sc_law_turns.nd (pi_range1 rfl B.range (pa_cons (pe_callB (k_len (K := K) rfl) (by rfl) B.len PySem.boot_len (pa_cons (pv 0) pa_nil)) pa_nil)) (blkOk_by (N := N_law_turns) (sc := defScope s_law_turns) (by decide +kernel)) (fun _ _ _ _ _ => (pg_name (i := 1) sc_law_turns.nd rfl (by first | exact Or.inl rfl | exact Or.inr rfl))) (fun _ _ _ _ _ => pts_nil) (fun _ _ _ _ _ => (pe_callB (k_len (K := K) rfl) (by rfl) B.len PySem.boot_len (pa_cons (pe_lc (own := [("one", 2)]) (g := gName 2) rfl sc_law_turns.nd (k_piT (K := K) rfl (pe_slice (k_slt (K := K) rfl) (pv 0) (po_some (pv 1)) po_none)) (blkOk_in (N := N_law_turns) (sc := defScope s_law_turns) rfl rfl (by decide +kernel)) (fun _ _ _ _ _ => (pg_name (i := 2) sc_law_turns.nd rfl (by first | exact Or.inl rfl | exact Or.inr rfl))) (fun _ _ _ _ _ => (pts_one (pt_cmpR op_lt (pv 2) (pe_ix (k_ixt (K := K) rfl) (pv 0) (pv 1) (fun _ _ => rfl)) (nomark _)))) (fun _ _ _ _ _ => (pv 2))) pa_nil)))) pa_nil)))), ?_⟩
    refine ⟨_, rfl, a, _, rfl, .inr hT, _, rfl, by rw [List.length_map]; omega, by rw [List.length_map]; omega, fun D nD => ?_⟩
    rw [List.length_map, Int.toNat_natCast]
    refine lc_it walk_range (fun i H2 => Ex H H2 ∧ H2 D = some (.lst (((List.range i).map fun k => ((((ns.drop k).filter fun p => decide (p < ns.getD k 0)).length : Nat) : Int)).map V.int))) ⟨ex_new nD, upd_same⟩ (fun _ _ _ _ => trivial) ?_ ?_
    · rintro i x H2 H2' hi ⟨x2, e2⟩ ⟨rfl, rfl⟩
      have eI : (0 : Int) + (i : Int) = (i : Int) := by omega
      refine ⟨rfl, yes_go ⟨_, rfl, _, rfl, _, rfl, a, _, rfl, x2.sqt hT, fun p H3 x3 hp => ?_⟩⟩
      rw [eI, cutV_from] at hp
      refine ⟨p, rfl, ⟨_, hp⟩, fun D2 nD2 => lc_it (walk_tup (xs := (ns.map V.int).drop i)) (fun k H4 => Ex H3 H4 ∧ ∃ xs : List V, H4 D2 = some (.lst xs) ∧ xs.length = (((ns.drop i).take k).filter fun p => decide (p < ns.getD i 0)).length) ⟨ex_new nD2, [], upd_same, rfl⟩ (fun k H4 _ y => y.1.sqt hp) ?_ ?_⟩
      · rintro k x H4 H4' hk ⟨x4, xs, e4, l4⟩ ⟨rfl, hx⟩
        obtain ⟨u, hu, rfl⟩ : ∃ u, (ns.drop i)[k]? = some u ∧ x = .int u := by
          rw [← List.map_drop, List.getElem?_map] at hx
          cases e : (ns.drop i)[k]? with
          | none => rw [e] at hx; cases hx
          | some u => rw [e] at hx; exact ⟨u, rfl, (Option.some.inj hx).symm⟩
        have et : (ns.drop i).take (k + 1) = (ns.drop i).take k ++ [u] := by rw [List.take_add_one, hu]; rfl
        refine ⟨rfl, _, rfl, _, rfl, _, rfl, a, _, _, _, rfl, rfl, ((x2.trans x3).trans x4).sqt hT, at_of eI (row_get hi), _, _, rfl, rfl, _, rfl, ?_⟩
        by_cases hj : u < ns.getD i 0
        · rw [decide_eq_true hj]
          refine iteT ⟨_, rfl, _, e4, ?_, x4.then (ex_set e4) fun b hb => .inl (hb ▸ nD2), xs ++ [.int u], upd_same, ?_⟩
          · rw [l4]
            refine small1000 (Nat.le_trans (List.length_filter_le _ _) ?_)
            rw [List.length_take, List.length_drop]; omega
          · rw [et, List.filter_append, List.length_append, List.length_append, l4]
            rw [filt2, if_pos hj]; rfl
        · rw [decide_eq_false hj]
          refine iteF ⟨x4, xs, e4, ?_⟩
          rw [et, List.filter_append, List.length_append, l4]
          rw [filt2, if_neg hj]; rfl
      · rintro H4 ⟨x4, xs, e4, l4⟩
        have e3 : ((ns.drop i).take ((ns.map V.int).drop i).length) = ns.drop i := List.take_of_length_le (by rw [List.length_drop, List.length_drop, List.length_map]; exact Nat.le_refl _)
        rw [e3] at l4
        refine ⟨D2, _, rfl, .inl (SqL.of e4), ?_⟩
        have e5 := Ex.lst (x3.trans x4) e2
        refine ⟨_, e5, small1000 (by rw [List.length_map, List.length_map, List.length_range]; omega), (x2.trans (x3.trans x4)).then (ex_set e5) fun z hz => .inl (hz ▸ nD), ?_⟩
        rw [upd_same, List.range_succ, List.map_append, List.map_append, l4]; rfl
    · rintro H2 ⟨x2, e2⟩
      refine ⟨D, _, rfl, SqL.of e2, ?_⟩
      rw [sum_trn, trn_pairs]
      exact q H2 x2
end
end K70
namespace K70
open PySem PySem.Spec PyProof.Rows L2 GxR MM
section
variable {P : Program} {w : World} {K : PySem.W.Frag} {mg : Str → Option Value} {base : Heap} {f : Addr} {fd : FuncData} {n : Nat}
def spMost : Sp := fun vs H Q _ => ∃ i : Int, vs = [.int i] ∧ 1 ≤ i ∧ Q .non H
theorem d_check_most (F : FnP K "check_most" s_check_most f fd) (g : mg "check_most" = some (.ref f)) (C_is_whole : CallD P w K mg base n "is_whole" ["thing"] (spWhole K)) : CallD P w K mg base (n + 1) "check_most" ["most"] spMost := by
  refine callD F g sc_check_most (fun _ _ _ _ _ _ us hl => match us, hl with | [_], _ => rfl) (fun vs H Q E h => ?_) (fun cdv A outer s H vs Q E _ hr hG h => ?_)
  · obtain ⟨i, rfl, _⟩ := h; rfl
  · obtain ⟨i, rfl, h1, q⟩ := h
    refine ⟨_, (pss_one (ps_if (PW.pt (pw_or (pt_not (pt_val (pe_c C_is_whole hr hG (pa_cons (pv 0) pa_nil)))) (pw_or1 (pt_cmpR op_lt (pv 0) pe_int (nomark _)))))
      (pss_one ps_never)
      pss_nil)), ?_⟩
    refine ⟨_, rfl, _, _, rfl, .int i, true, rfl, ?_⟩
    refine iteF ⟨_, rfl, _, _, rfl, rfl, _, rfl, ?_⟩
    rw [decide_eq_false (by omega)]
    exact iteF q
def RowsB (H : Hp) (m : Nat) (gs : List Int) (vs : List V) : Prop := vs.length = gs.length + 1 ∧ ∀ k v, vs[k]? = some v → ∃ t, v = V.ref t ∧ FTup H t ((farL (row0 m) (gs.drop k).reverse).map V.int)
theorem RowsB.ex {B : Addr → Prop} {H H' : Hp} {m : Nat} {gs : List Int} {vs : List V} (h : RowsB H m gs vs) (e : ExB B H H') : RowsB H' m gs vs := ⟨h.1, fun k v hk => let ⟨t, a, b⟩ := h.2 k v hk; ⟨t, a, b.ex e⟩⟩
def spFBehind (K : PySem.W.Frag) : Sp := fun vs H Q _ => ∃ (a : Addr) (gs : List Int) (m : Nat), vs = [.ref a, .int m] ∧ SqT K H a (gs.map V.int) ∧ 1 ≤ m ∧ m ≤ 9 ∧ BookOk m gs ∧ gs.length ≤ 100 ∧ ∀ p vs H', Ex H H' → H' p = some (.lst vs) → RowsB H' m gs vs → Q (.ref p) H'
theorem d_farthest_behind (F : FnP K "farthest_behind" s_farthest_behind f fd) (g : mg "farthest_behind" = some (.ref f)) (B : Bl mg) (C_row_of : CallD P w K mg base n "row_of" ["many"] spRowOfF) (C_farthest_from : CallD P w K mg base n "farthest_from" ["row", "book"] (spFarF K)) : CallD P w K mg base (n + 1) "farthest_behind" ["book", "many"] (spFBehind K) := by
  refine callD F g sc_farthest_behind (fun _ _ _ _ _ _ us hl => match us, hl with | [_, _], _ => rfl) (fun vs H Q E h => ?_) (fun cdv A outer s H vs Q E _ hr hG h => ?_)
  · obtain ⟨a, gs, m, rfl, _⟩ := h; rfl
  · obtain ⟨a, gs, m, rfl, hT, h1, h9, hB, h100, q⟩ := h
    refine ⟨_, (pss_cons (ps_set (i := 2) sc_farthest_behind.nd rfl (Or.inl rfl) (pe_lst (pa_cons (pe_c C_row_of hr hG (pa_cons (pv 1) pa_nil)) pa_nil)))
      (pss_cons (ps_for PassesOwn.never rfl (k_revA (K := K) rfl (RT.pi_revA (by rfl) B.reversed (pv 0))) (pg_name (i := 3) sc_farthest_behind.nd rfl (Or.inl rfl))
      (pss_one (ps_expr (k_bm (K := K) rfl PySem.F.plainAttrs_list PySem.F.slot_list_append PySem.F.type_list_append mt_append (pv 2) (pa_cons (pe_c C_farthest_from hr hG (pa_cons (pe_ix (k_ixl (K := K) rfl) (pv 2) (pe_un un_neg pe_int) (fun _ _ => rfl)) (pa_cons (pe_tup (pa_cons (pv 3) pa_nil)) pa_nil))) pa_nil)))))
      (pss_one (ps_ret (k_revL (K := K) rfl (pv 2)))))), ?_⟩
    have sl : sizeLine = 16777216 := by decide
    refine ⟨_, rfl, m, rfl, h1, h9, fun r0 H1 x1 hr0 => ?_⟩
    refine ⟨by show 1 ≤ sizeLine; decide, fun p np => ?_⟩
    have x2 : Ex H1 (upd H1 p (.lst [.ref r0])) := ex_new np
    have e2 : (upd H1 p (.lst [.ref r0])) p = some (.lst [.ref r0]) := upd_same
    have y2 := x1.trans x2
    have np0 : H p = none := x1.fresh np
    have hr2 := hr0.ex x2
    show tSeq _ _ _ _ _
    generalize upd H1 p (.lst [.ref r0]) = H2 at x2 e2 y2 hr2 ⊢
    refine ⟨_, rfl, a, gs.map V.int, rfl, .inr ⟨y2.sqt hT, ?_⟩⟩
    refine for_it walk_revT (fun i σ H3 => ∃ (v3 : Option V) (vs : List V), σ = [some (.ref a), some (.int m), some (.ref p), v3] ∧ Ex H H3 ∧ H3 p = some (.lst vs) ∧ vs.length = i + 1 ∧ ∀ j v, vs[j]? = some v → ∃ t, v = V.ref t ∧ FTup H3 t ((farL (row0 m) (gs.drop (gs.length - j)).reverse).map V.int)) ⟨none, [.ref r0], rfl, y2, e2, rfl, fun j v hj => ?_⟩ (fun i σ H3 _ ⟨_, _, _, x, _⟩ => x.sqt hT) ?_ ?_
    · cases j with
      | zero =>
        cases hj
        refine ⟨r0, rfl, ?_⟩
        rw [Nat.sub_zero, List.drop_length]
        exact hr2
      | succ j => simp at hj
    · rintro i x σ H3' H3 hi ⟨v3, vs, rfl, x3, e3, l3, R3⟩ ⟨rfl, hx⟩
      rw [List.length_map] at hi hx
      have hk : gs.length - 1 - i < gs.length := by omega
      rw [List.getElem?_map, List.getElem?_eq_getElem hk] at hx
      cases hx
      have gt : vs[i]? = some vs[i] := List.getElem?_eq_getElem (by omega)
      obtain ⟨t, ev, ht⟩ := R3 i _ gt
      rw [ev] at gt
      refine ⟨_, rfl, .inl ⟨rfl, _, SqL.of e3⟩, _, rfl, 1, rfl, p, _, _, _, rfl, rfl, SqL.of e3, (at_neg l3).trans gt, ?_⟩
      refine ⟨_, rfl, by show 1 ≤ sizeLine; decide, fun T nT => ?_⟩
      have x4 : Ex H3 (upd H3 T (.tup [.int gs[gs.length - 1 - i]])) := ex_new nT
      have e4 : (upd H3 T (.tup [.int gs[gs.length - 1 - i]])) T = some (.tup [.int gs[gs.length - 1 - i]]) := upd_same
      have hbr : BookOk m (gs.drop (gs.length - i)).reverse := fun z hz => hB z (List.mem_of_mem_drop (List.mem_reverse.mp hz))
      obtain ⟨fr, fl⟩ := farL_ok hbr (row0_row h1 h9) (row0_len m)
      refine ⟨t, T, _, [gs[gs.length - 1 - i]], m, rfl, ht.ex x4, SqT.of e4, fr, fl, h9, fun z hz => by rw [List.mem_singleton.mp hz]; exact hB _ (List.getElem_mem hk), fun u H5 x5 hu => ?_⟩
      have x35 := x4.trans x5
      have e5 := Ex.lst x35 e3
      refine ⟨p, _, _, rfl, rfl, e5, by rw [l3, sl]; omega, ?_⟩
      have x6 : ExB (fun z => z = p) H5 (upd H5 p (.lst (vs ++ [.ref u]))) := ex_set e5
      refine ⟨_, vs ++ [.ref u], rfl, (x3.trans x35).then x6 fun z hz => .inl (by rw [show z = p from hz]; exact np0), upd_same, by rw [List.length_append, l3]; rfl, fun j v hj => ?_⟩
      rcases Nat.lt_or_ge j vs.length with c | c
      · rw [List.getElem?_append_left c] at hj
        obtain ⟨t', b1, b2⟩ := R3 j v hj
        exact ⟨t', b1, (b2.ex x35).ex x6⟩
      · have hj2 := (List.getElem?_eq_some_iff.mp hj).1
        have ej : j = i + 1 := by rw [List.length_append] at hj2; simp at hj2; omega
        subst ej
        rw [List.getElem?_append_right c, l3, Nat.sub_self] at hj
        cases hj
        refine ⟨u, rfl, ?_⟩
        have ed : gs.drop (gs.length - (i + 1)) = gs[gs.length - 1 - i] :: gs.drop (gs.length - i) := by
          have := List.drop_eq_getElem_cons hk
          rw [show gs.length - (i + 1) = gs.length - 1 - i by omega, this, show gs.length - 1 - i + 1 = gs.length - i by omega]
        rw [ed, List.reverse_cons, farL_app]
        exact hu.ex x6
    · rintro σ H3 ⟨v3, vs, rfl, x3, e3, l3, R3⟩
      rw [List.length_map] at l3
      refine ⟨_, rfl, p, vs, rfl, SqL.of e3, fun p2 n2 => ?_⟩
      have x4 : Ex H3 (upd H3 p2 (.lst vs.reverse)) := ex_new n2
      refine q p2 vs.reverse _ (x3.trans x4) upd_same ⟨by rw [List.length_reverse, l3], fun k v hk => ?_⟩
      have hk2 := (List.getElem?_eq_some_iff.mp hk).1
      rw [List.length_reverse, l3] at hk2
      rw [List.getElem?_reverse (by omega), l3] at hk
      obtain ⟨t, b1, b2⟩ := R3 _ v hk
      rw [show gs.length - (gs.length + 1 - 1 - k) = k by omega] at b2
      exact ⟨t, b1, b2.ex x4⟩
end
end K70
namespace MM
open PySem PySem.Spec PyProof.Rows L2 GxR
/-! ### such a table as a dict of lists of tuples -/
abbrev EA := List ((List Int × List (List Nat)) × Addr × Addr)
def xsA (E : EA) : KXs := E.map fun e => (rk e.1.1, e.2.1, V.ref e.2.2)
def tbA (E : EA) : Tb := E.map (·.1)
/-- leavings, each a tuple -/
abbrev RefL (H : Hp) : List V → List (List Nat) → Prop := Paired fun v L => ∃ t, v = V.ref t ∧ H t = some (.tup ((nI L).map V.int))
theorem RefL.exB {B : Addr → Prop} {H H' : Hp} {vs : List V} {Ls : List (List Nat)} (h : RefL H vs Ls) (e : ExB B H H') : RefL H' vs Ls := L2.Paired.mapP h fun _ _ ⟨t, a, b⟩ => ⟨t, a, e.tup b⟩
theorem RefL.app {H : Hp} : ∀ {vs us : List V} {Ls Ms : List (List Nat)}, RefL H vs Ls → RefL H us Ms → RefL H (vs ++ us) (Ls ++ Ms)
  | _, _, _, _, .nil, h => h
  | _, _, _, _, .cons a r, h => .cons a (RefL.app r h)
theorem RefL.at {H : Hp} : ∀ {vs : List V} {Ls : List (List Nat)} {i : Nat} {v : V}, RefL H vs Ls → vs[i]? = some v → ∃ L t, Ls[i]? = some L ∧ v = V.ref t ∧ H t = some (.tup ((nI L).map V.int))
  | _, _, _, _, .nil, h => nomatch h
  | _, L :: _, 0, _, .cons ⟨t, a, b⟩ _, h => by cases h; exact ⟨L, t, rfl, a, b⟩
  | _, _, i + 1, _, .cons _ r, h => RefL.at r (i := i) h
def LsAt (H : Hp) (E : EA) : Prop := ∀ e ∈ E, ∃ vs, H e.2.2 = some (.lst vs) ∧ RefL H vs e.1.2
theorem LsAt.ex {H H' : Hp} {E : EA} (h : LsAt H E) (e : Ex H H') : LsAt H' E := fun x hx => let ⟨vs, a, b⟩ := h x hx; ⟨vs, Ex.lst e a, b.exB e⟩
theorem LsAt.exB {B : Addr → Prop} {H H' : Hp} {E : EA} (h : LsAt H E) (e : ExB B H H') (hb : ∀ x ∈ E, ¬ B x.2.2) : LsAt H' E := fun x hx => let ⟨vs, a, b⟩ := h x hx; ⟨vs, e.lst a (hb x hx), b.exB e⟩
/-- the dict at D, filled since H4 -/
structure St (P : Program) (w : World) (H4 : Hp) (D : Addr) (acc : EA) (H : Hp) : Prop where
  x : ExB (At1 D) H4 H
  d : DFo P w H D (xsA acc)
  ls : LsAt H acc
  new : ∀ e ∈ acc, H4 e.2.2 = none
  nd : (acc.map (·.2.2)).Nodup
  kd : ((tbA acc).map (·.1)).Nodup
theorem St.ne {P : Program} {w : World} {H4 H : Hp} {D : Addr} {acc : EA} (s : St P w H4 D acc H) {e} (he : e ∈ acc) : e.2.2 ≠ D := fun z => by
  obtain ⟨vs, a, _⟩ := s.ls e he
  rw [z, s.d.1] at a; cases a
theorem St.ex {P : Program} {w : World} {H4 H H' : Hp} {D : Addr} {acc : EA} (s : St P w H4 D acc H) (e : Ex H H') : St P w H4 D acc H' := ⟨s.x.trans e.of, s.d.ex e id, s.ls.ex e, s.new, s.nd, s.kd⟩
def updA (acc : EA) (y : List Int) (Ls : List (List Nat)) : EA := acc.map fun e => if e.1.1 = y then ((e.1.1, e.1.2 ++ Ls), e.2) else e
def setA (acc : EA) (y : List Int) (b z : Addr) : EA := if y ∈ (tbA acc).map (·.1) then acc else acc ++ [((y, []), b, z)]
theorem tbA_keys (acc : EA) : (tbA acc).map (·.1) = acc.map fun e => e.1.1 := by unfold tbA; rw [List.map_map]; rfl
theorem xsA_keys (acc : EA) : (kvX (xsA acc)).map (·.1) = ((tbA acc).map (·.1)).map rk := by
  unfold xsA kvX tbA
  rw [List.map_map, List.map_map, List.map_map, List.map_map]; rfl
theorem tb_set_upd (acc : EA) (y : List Int) (b z : Addr) (Ls : List (List Nat)) : tbA (updA (setA acc y b z) y Ls) = extT (tbA acc) y Ls := by
  unfold setA extT
  split
  · unfold tbA updA
    rw [List.map_map, List.map_map]
    refine List.map_congr_left fun e _ => ?_
    show (if e.1.1 = y then ((e.1.1, e.1.2 ++ Ls), e.2) else e).1 = if e.1.1 = y then (e.1.1, e.1.2 ++ Ls) else e.1
    split <;> rfl
  · rename_i hn
    rw [tbA_keys] at hn
    unfold tbA updA
    rw [List.map_map, List.map_append]
    have e1 : (acc.map ((·.1) ∘ fun e : (List Int × List (List Nat)) × Addr × Addr => if e.1.1 = y then ((e.1.1, e.1.2 ++ Ls), e.2) else e)) = acc.map (·.1) := List.map_congr_left fun e he => by
      show (if e.1.1 = y then ((e.1.1, e.1.2 ++ Ls), e.2) else e).1 = e.1
      rw [if_neg fun z => hn (List.mem_map.mpr ⟨e, he, z⟩)]
    rw [e1]
    congr 1
    show [(if y = y then ((y, [] ++ Ls), b, z) else ((y, []), b, z)).1] = [(y, Ls)]
    rw [if_pos rfl]; rfl
theorem val_A {acc : EA} (hn : ((tbA acc).map (·.1)).Nodup) {e : (List Int × List (List Nat)) × Addr × Addr} (he : e ∈ acc) : valV (kvX (xsA acc)) (rk e.1.1) = some (.ref e.2.2) := by
  obtain ⟨i, hi⟩ := List.getElem?_of_mem he
  refine val_of_nodup (i := i) ?_ ?_
  · rw [xsA_keys]
    rw [List.nodup_iff_pairwise_ne, List.pairwise_map]
    exact (List.nodup_iff_pairwise_ne.mp hn).imp fun {a b} h z => h (rk_inj z)
  · unfold kvX xsA
    rw [List.map_map, List.getElem?_map, hi]; rfl
theorem val_none {acc : EA} {y : List Int} (h : valV (kvX (xsA acc)) (rk y) = none) : y ∉ (tbA acc).map (·.1) := fun z => by
  have : rk y ∈ (kvX (xsA acc)).map (·.1) := by rw [xsA_keys]; exact List.mem_map.mpr ⟨y, z, rfl⟩
  have := valV_mem.mpr this
  rw [h] at this; cases this
/-- the key is there, or put in with an empty list -/
theorem St.set_old {P : Program} {w : World} {H4 H : Hp} {D : Addr} {acc : EA} (s : St P w H4 D acc H) {y : List Int} {v : V} (b z : Addr) (h : valV (kvX (xsA acc)) (rk y) = some v) : setA acc y b z = acc ∧ ∃ e ∈ acc, e.1.1 = y ∧ v = .ref e.2.2 := by
  have hin : y ∈ (tbA acc).map (·.1) := Classical.byContradiction fun hn => by
    have hm : rk y ∈ (kvX (xsA acc)).map (·.1) := valV_mem.mp (by rw [h]; rfl)
    rw [xsA_keys] at hm
    obtain ⟨y', hy', e⟩ := List.mem_map.mp hm
    exact hn (rk_inj e ▸ hy')
  refine ⟨if_pos hin, ?_⟩
  rw [tbA_keys] at hin
  obtain ⟨e, he, rfl⟩ := List.mem_map.mp hin
  have := val_A s.kd he
  rw [h] at this
  exact ⟨e, he, rfl, Option.some.inj this⟩
theorem St.set_new {P : Program} {w : World} {H4 H H' : Hp} {D : Addr} {acc : EA} (s : St P w H4 D acc H) {y : List Int} {b z : Addr} (h : valV (kvX (xsA acc)) (rk y) = none) (hz : H z = some (.lst [])) (nz : H4 z = none) (hne : ∀ e ∈ acc, e.2.2 ≠ z) (hD : H4 D ≠ none) (x : ExB (fun c => c = D) H H') (d : DFo P w H' D (putX (xsA acc) (rk y) b (.ref z))) :
    St P w H4 D (setA acc y b z) H' ∧ ∃ e ∈ setA acc y b z, e.1.1 = y ∧ V.ref z = .ref e.2.2 := by
  have hn := val_none h
  have es : setA acc y b z = acc ++ [((y, []), b, z)] := if_neg hn
  have zD : z ≠ D := fun q => hD (by rw [← q]; exact nz)
  have ep : putX (xsA acc) (rk y) b (.ref z) = xsA (acc ++ [((y, []), b, z)]) := by
    unfold putX
    have hany : ((kvX (xsA acc)).any fun kv => decide (kv.1 = rk y)) = false := by
      rw [List.any_eq_false]
      intro p hp q
      have hm : rk y ∈ (kvX (xsA acc)).map (·.1) := List.mem_map.mpr ⟨p, hp, of_decide_eq_true q⟩
      have := valV_mem.mpr hm
      rw [h] at this; cases this
    rw [if_neg (by rw [hany]; decide)]
    unfold xsA
    rw [List.map_append]; rfl
  rw [es]
  rw [ep] at d
  refine ⟨⟨s.x.trans (x.mono fun c q => q), d, fun e he => ?_, fun e he => ?_, ?_, ?_⟩, ((y, []), b, z), List.mem_append_right _ List.mem_cons_self, rfl, rfl⟩
  · rcases List.mem_append.mp he with q | q
    · obtain ⟨vs, a1, a2⟩ := s.ls e q
      exact ⟨vs, x.lst a1 (s.ne q), a2.exB x⟩
    · rw [List.mem_singleton.mp q]
      exact ⟨[], x.lst hz zD, .nil⟩
  · rcases List.mem_append.mp he with q | q
    · exact s.new e q
    · rw [List.mem_singleton.mp q]; exact nz
  · rw [List.map_append, List.nodup_append]
    refine ⟨s.nd, by simp, fun a ha c hc q => ?_⟩
    obtain ⟨e, he, rfl⟩ := List.mem_map.mp ha
    have : c = z := by simpa using hc
    exact hne e he (q.trans this)
  · rw [tbA_keys, List.map_append, List.nodup_append]
    have kd := s.kd
    rw [tbA_keys] at kd hn
    refine ⟨kd, by simp, fun a ha c hc q => hn ?_⟩
    have : c = y := by simpa using hc
    rw [← this, ← q]; exact ha
theorem St.ext {P : Program} {w : World} {H4 H : Hp} {D : Addr} {acc : EA} (s : St P w H4 D acc H) {y : List Int} {Ls : List (List Nat)} {ws vs : List V} {e : (List Int × List (List Nat)) × Addr × Addr} (he : e ∈ acc) (hy : e.1.1 = y) (hv : H e.2.2 = some (.lst vs)) (hw : RefL H ws Ls) :
    St P w H4 D (updA acc y Ls) (upd H e.2.2 (.lst (vs ++ ws))) := by
  have x : ExB (fun z => z = e.2.2) H (upd H e.2.2 (.lst (vs ++ ws))) := ex_set hv
  have kd := s.kd
  rw [tbA_keys] at kd
  have uniq : ∀ e' ∈ acc, e'.1.1 = y → e' = e := fun e' he' h' => by
    obtain ⟨i, hi⟩ := List.getElem?_of_mem he
    obtain ⟨j, hj⟩ := List.getElem?_of_mem he'
    have hil := (List.getElem?_eq_some_iff.mp hi).1
    have hjl := (List.getElem?_eq_some_iff.mp hj).1
    have := nd_ix kd (i := i) (j := j) (x := y) (by rw [List.getElem?_map, hi, ← hy]; rfl) (by rw [List.getElem?_map, hj, ← h']; rfl)
    rw [this, hj] at hi
    exact Option.some.inj hi
  have ukeys : (updA acc y Ls).map (fun e => e.1.1) = acc.map fun e => e.1.1 := by
    unfold updA
    rw [List.map_map]
    refine List.map_congr_left fun e' _ => ?_
    show (if e'.1.1 = y then ((e'.1.1, e'.1.2 ++ Ls), e'.2) else e').1.1 = e'.1.1
    split <;> rfl
  have uadr : (updA acc y Ls).map (·.2.2) = acc.map (·.2.2) := by
    unfold updA
    rw [List.map_map]
    refine List.map_congr_left fun e' _ => ?_
    show (if e'.1.1 = y then ((e'.1.1, e'.1.2 ++ Ls), e'.2) else e').2.2 = e'.2.2
    split <;> rfl
  have uxs : xsA (updA acc y Ls) = xsA acc := by
    unfold xsA updA
    rw [List.map_map]
    refine List.map_congr_left fun e' _ => ?_
    show (rk (if e'.1.1 = y then ((e'.1.1, e'.1.2 ++ Ls), e'.2) else e').1.1, (if e'.1.1 = y then ((e'.1.1, e'.1.2 ++ Ls), e'.2) else e').2.1, V.ref (if e'.1.1 = y then ((e'.1.1, e'.1.2 ++ Ls), e'.2) else e').2.2) = _
    split <;> rfl
  refine ⟨s.x.then x fun z hz => .inl (by rw [show z = e.2.2 from hz]; exact s.new e he), by rw [uxs]; exact s.d.ex x fun z => s.ne he z.symm, fun e' he' => ?_, fun e' he' => ?_, by rw [uadr]; exact s.nd, by rw [tbA_keys, ukeys]; exact kd⟩
  · obtain ⟨e0, h0, rfl⟩ := List.mem_map.mp he'
    by_cases c : e0.1.1 = y
    · rw [if_pos c]
      have := uniq e0 h0 c
      subst this
      obtain ⟨vs', a1, a2⟩ := s.ls e0 h0
      rw [hv] at a1
      cases a1
      exact ⟨vs ++ ws, upd_same, (a2.exB x).app (hw.exB x)⟩
    · rw [if_neg c]
      obtain ⟨vs', a1, a2⟩ := s.ls e0 h0
      have hne : e0.2.2 ≠ e.2.2 := fun z => by
        obtain ⟨i, hi⟩ := List.getElem?_of_mem he
        obtain ⟨j, hj⟩ := List.getElem?_of_mem h0
        have := nd_ix s.nd (i := i) (j := j) (x := e.2.2) (by rw [List.getElem?_map, hi]; rfl) (by rw [List.getElem?_map, hj, ← z]; rfl)
        rw [this, hj] at hi
        exact c (by rw [Option.some.inj hi]; exact hy)
      exact ⟨vs', x.lst a1 hne, a2.exB x⟩
  · obtain ⟨e0, h0, rfl⟩ := List.mem_map.mp he'
    split
    · exact s.new e0 h0
    · exact s.new e0 h0
end MM
namespace MM
open PySem PySem.Spec PyProof.Rows L2 GxR
theorem extT_len (acc : Tb) (y : List Int) (Ls : List (List Nat)) : (extT acc y Ls).length ≤ acc.length + 1 := by
  unfold extT
  split
  · rw [List.length_map]; omega
  · rw [List.length_append]; simp
theorem stepT_len (g k : Nat) (beh : List Int) (acc : Tb) (e : List Int × List (List Nat)) : (stepT g k beh acc e).length ≤ acc.length + 2 := by
  unfold stepT
  dsimp only
  have a := extT_len acc (swL e.1 g) e.2
  split <;> split
  · have := extT_len acc e.1 (e.2.map (· ++ [k])); omega
  · have := extT_len (extT acc (swL e.1 g) e.2) e.1 (e.2.map (· ++ [k])); omega
  · omega
  · omega
theorem foldT_len {g k : Nat} {beh : List Int} : ∀ {T acc : Tb}, (T.foldl (stepT g k beh) acc).length ≤ acc.length + 2 * T.length
  | [], _ => Nat.le_refl _
  | e :: T, acc => by
    have a := foldT_len (g := g) (k := k) (beh := beh) (T := T) (acc := stepT g k beh acc e)
    have b := stepT_len g k beh acc e
    show (T.foldl (stepT g k beh) (stepT g k beh acc e)).length ≤ _
    rw [List.length_cons]; omega
theorem extT_tot {acc : Tb} {y : List Int} {Ls : List (List Nat)} (h : (acc.map (·.1)).Nodup) : (flatT (extT acc y Ls)).length = (flatT acc).length + Ls.length := by
  rw [(extT_flat h).length_eq, List.length_append, List.length_map]
theorem stepT_tot {g k : Nat} {beh : List Int} {acc : Tb} {e : List Int × List (List Nat)} (h : (acc.map (·.1)).Nodup) : (flatT (stepT g k beh acc e)).length ≤ (flatT acc).length + 2 * e.2.length := by
  unfold stepT
  dsimp only
  have a := extT_tot (y := swL e.1 g) (Ls := e.2) h
  split <;> split
  · rw [extT_tot h, List.length_map]; omega
  · rw [extT_tot (extT_nd h), List.length_map, a]; omega
  · omega
  · omega
theorem foldT_tot {g k : Nat} {beh : List Int} : ∀ {T acc : Tb}, (acc.map (·.1)).Nodup → (flatT (T.foldl (stepT g k beh) acc)).length ≤ (flatT acc).length + 2 * (flatT T).length
  | [], _, _ => Nat.le_refl _
  | e :: T, acc, h => by
    have a := foldT_tot (g := g) (k := k) (beh := beh) (T := T) (stepT_nd (g := g) (k := k) (beh := beh) (e := e) h)
    have b := stepT_tot (g := g) (k := k) (beh := beh) (e := e) h
    show (flatT (T.foldl (stepT g k beh) (stepT g k beh acc e))).length ≤ _
    rw [flat_cons, List.length_append, List.length_map]; omega
theorem mem_tot : ∀ {T : Tb} {e : List Int × List (List Nat)}, e ∈ T → e.2.length ≤ (flatT T).length
  | e' :: T, e, h => by
    rw [flat_cons, List.length_append, List.length_map]
    rcases List.mem_cons.mp h with rfl | h
    · omega
    · have := mem_tot h; omega
theorem take_tot : ∀ (T : Tb) (j : Nat), (flatT (T.take j)).length ≤ (flatT T).length
  | [], j => by rw [List.take_nil]; exact Nat.le_refl _
  | e :: T, 0 => Nat.zero_le _
  | e :: T, j + 1 => by
    have := take_tot T j
    rw [List.take_succ_cons, flat_cons, flat_cons, List.length_append, List.length_append]; omega
theorem set_len {acc : EA} {y : List Int} {b z : Addr} {e : (List Int × List (List Nat)) × Addr × Addr} (h : e ∈ setA acc y b z) : e.1.2.length ≤ (flatT (tbA acc)).length := by
  have key : ∀ {e}, e ∈ acc → e.1.2.length ≤ (flatT (tbA acc)).length := fun {e} he => mem_tot (List.mem_map.mpr ⟨e, he, rfl⟩)
  unfold setA at h
  split at h
  · exact key h
  · rcases List.mem_append.mp h with h | h
    · exact key h
    · rw [List.mem_singleton.mp h]; exact Nat.zero_le _
theorem xsA_len (acc : EA) : (kvX (xsA acc)).length = (tbA acc).length := by unfold kvX xsA tbA; rw [List.length_map, List.length_map, List.length_map]
end MM
namespace K70
open PySem PySem.Spec PyProof.Rows L2 GxR MM
section
variable {P : Program} {w : World} {K : PySem.W.Frag} {mg : Str → Option Value} {base : Heap} {f : Addr} {fd : FuncData} {n : Nat}
theorem laterH {R : Hp → Prop} {G : Prop} {T : Hp → Prop} (k : (∀ H, R H → T H) → G) (rest : ∀ H, R H → T H) : G := k rest
theorem laterVH {R : V → Hp → Prop} {G : Prop} {T : V → Hp → Prop} (k : (∀ v H, R v H → T v H) → G) (rest : ∀ v H, R v H → T v H) : G := k rest
theorem ite_yes {c A B : Prop} [Decidable c] (h : c) (a : A) : if c then A else B := by rw [if_pos h]; exact a
theorem ite_no {c A B : Prop} [Decidable c] (h : ¬ c) (b : B) : if c then A else B := by rw [if_neg h]; exact b
def spWith (K : PySem.W.Frag) (P : Program) (w : World) (Pt : Addr) : Sp := fun vs H Q _ => ∃ (d q : Addr) (k g m : Nat) (beh : List Int) (E0 : EA), vs = [.ref d, .int k, .int g, .ref q] ∧ DFo P w H d (xsA E0) ∧ LsAt H E0 ∧ ((tbA E0).map (·.1)).Nodup ∧ (∀ e ∈ tbA E0, (IsRow e.1 ∧ e.1.length = m) ∧ ∀ L ∈ e.2, L.length ≤ 1000) ∧ SqT K H q (beh.map V.int) ∧ IsRow beh ∧ beh.length = m ∧ g + 1 < m ∧ m ≤ 9 ∧ (flatT (tbA E0)).length ≤ 1000000 ∧ E0.length ≤ 1000000 ∧ TabG H Pt ∧
  ∀ p E H', Ex H H' → H p = none → DFo P w H' p (xsA E) → LsAt H' E → (∀ e ∈ E, H e.2.2 = none) → tbA E = withM g k beh (tbA E0) → Q (.ref p) H'
theorem d_with_meeting {Pt : Addr} (F : FnP K "with_meeting" s_with_meeting f fd) (g : mg "with_meeting" = some (.ref f)) (C_lesser_ahead : CallD P w K mg base n "lesser_ahead" ["row", "gap"] (spLesser K)) (C_swapped : CallD P w K mg base n "swapped" ["row", "gap"] spSwF) (C_below : CallD P w K mg base n "below" ["row", "other"] (spBelow K Pt)) : CallD P w K mg base (n + 1) "with_meeting" ["found", "meeting", "gap", "behind"] (spWith K P w Pt) := by
  refine callD F g sc_with_meeting (fun _ _ _ _ _ _ us hl => match us, hl with | [_, _, _, _], _ => rfl) (fun vs H Q E h => ?_) (fun cdv A outer s H vs Q E _ hr hG h => ?_)
  · obtain ⟨d, q, k, g, m, beh, E0, rfl, _⟩ := h; rfl
  · obtain ⟨d, q, k, g, m, beh, E0, rfl, ⟨hd, hkF⟩, hL, hnd, hrow, hq, hbr, hbl, hg, h9, htot, hE, hPt, Qn⟩ := h
    refine ⟨_, (pss_cons (ps_set (i := 4) sc_with_meeting.nd rfl (Or.inl rfl) (pe_dnewF (P := P) (w := w) rfl rfl))
      (pss_cons (ps_lock (ps_for PassesOwn.never rfl (pi_keysF (P := P) (w := w) rfl rfl (pv 0)) (pg_name (i := 5) sc_with_meeting.nd rfl (Or.inl rfl))
      (pss_cons (ps_set (i := 6) sc_with_meeting.nd rfl (Or.inl rfl) (pe_not (pe_c C_lesser_ahead hr hG (pa_cons (pv 5) (pa_cons (pv 2) pa_nil)))))
      (C8.pss_cut (ps_if (pt_val (pv 6))
      (pss_one (ps_expr (k_bm (K := K) rfl PySem.F.plainAttrs_list PySem.F.slot_list_extend PySem.F.type_list_extend mt_extend (pe_dsetdF (P := P) (w := w) rfl rfl (hu_of hr) (pv 4) (pe_c C_swapped hr hG (pa_cons (pv 5) (pa_cons (pv 2) pa_nil))) (pe_lst pa_nil) ⟨rfl, rfl, rfl, rfl⟩) (pa_cons (pe_dgetFx (K := K) (P := P) (w := w) rfl rfl rfl (hu_of hr) (pv 0) (pv 5) (fun _ _ => rfl)) pa_nil))))
      pss_nil)
      (pss_one (ps_if (PW.pt (pw_or (pt_not (pt_val (pv 6))) (pw_or1 (pt_val (pe_c C_below hr hG (pa_cons (pv 5) (pa_cons (pv 3) pa_nil)))))))
      (pss_one (ps_expr (k_bm (K := K) rfl PySem.F.plainAttrs_list PySem.F.slot_list_extend PySem.F.type_list_extend mt_extend (pe_dsetdF (P := P) (w := w) rfl rfl (hu_of hr) (pv 4) (pv 5) (pe_lst pa_nil) ⟨rfl, rfl, rfl, rfl⟩) (pa_cons (pe_lc (own := [("leaving", 7)]) (g := gName 7) rfl sc_with_meeting.nd (k_piL (K := K) rfl (pe_dgetFx (K := K) (P := P) (w := w) rfl rfl rfl (hu_of hr) (pv 0) (pv 5) (fun _ _ => rfl))) (blkOk_by (N := N_with_meeting) (sc := defScope s_with_meeting) (by decide +kernel)) (fun _ _ _ _ _ => (pg_name (i := 7) sc_with_meeting.nd rfl (by first | exact Or.inl rfl | exact Or.inr rfl))) (fun _ _ _ _ _ => pts_nil) (fun _ _ _ _ _ => (pe_op k_catU (pv 7) (pe_tup (pa_cons (pv 1) pa_nil))))) pa_nil))))
      pss_nil))))))
      (pss_one (ps_ret (pv 4))))), ?_⟩
    have sl : sizeLine = 16777216 := by decide
    refine fun D H1 nD x1 D1 => ?_
    have hDd : D ≠ d := fun z => by rw [z, hd] at nD; cases nD
    have hd1 : H1 d = some (.ext (DTp P w d (xsA E0))) := x1.keep _ _ hd (fun _ z => nomatch z) id
    refine ⟨d, _, hd1, trivial, fun od => ?_⟩
    have eL : (upd H1 d (.frz od (.ext (DTp P w d (xsA E0))))) d = some (.frz od (.ext (DTp P w d (xsA E0)))) := upd_same
    have xl := ex_setX (o := .frz od (.ext (DTp P w d (xsA E0)))) hd1
    have k4 := (hkF.ex x1).ex xl
    have D4 : DFo P w (upd H1 d (.frz od (.ext (DTp P w d (xsA E0))))) D (xsA []) := D1.ex xl hDd
    have hL4 : LsAt (upd H1 d (.frz od (.ext (DTp P w d (xsA E0))))) E0 := (hL.ex x1).exB xl fun e he z => by
      obtain ⟨vs, a, _⟩ := hL.ex x1 e he
      rw [show e.2.2 = d from z, hd1] at a; cases a
    have fr4 : ∀ c, (upd H1 d (.frz od (.ext (DTp P w d (xsA E0))))) c = none → H c = none := fun c hc => by
      have ne : c ≠ d := fun z => by rw [z, eL] at hc; cases hc
      rw [upd_ne ne] at hc
      exact x1.fresh hc
    have hq4 : SqT K (upd H1 d (.frz od (.ext (DTp P w d (xsA E0))))) q (beh.map V.int) := xl.sqt (x1.sqt hq)
    have hPt4 : TabG (upd H1 d (.frz od (.ext (DTp P w d (xsA E0))))) Pt := xl.tab (x1.tab hPt)
    generalize hH4 : upd H1 d (.frz od (.ext (DTp P w d (xsA E0)))) = H4 at eL D4 k4 hL4 fr4 hq4 hPt4
    have D4ne : H4 D ≠ none := by rw [D4.1]; exact fun z => nomatch z
    refine ⟨_, rfl, d, od, xsA E0, rfl, eL, ?_⟩
    have S0 : St P w H4 D [] H4 := ⟨ExB.refl, D4, (fun _ z => nomatch z), (fun _ z => nomatch z), List.nodup_nil, List.nodup_nil⟩
    refine for_it walk_keysF (fun j σ Hb => ∃ (acc : EA) (v5 v6 v7 : Option V), σ = [some (.ref d), some (.int k), some (.int g), some (.ref q), some (.ref D), v5, v6, v7] ∧ St P w H4 D acc Hb ∧ tbA acc = ((tbA E0).take j).foldl (stepT g k beh) []) ⟨[], _, _, _, rfl, S0, rfl⟩ (fun j σ Hb _ ⟨_, _, _, _, _, y, _⟩ => y.x.frzT eL) ?_ ?_
    · rintro j x σ Hb Hc hj ⟨acc, v5, v6, v7, rfl, S1, eT⟩ ⟨rfl, kk, b0, v, eks, rfl⟩
      have eks2 := eks
      unfold xsA at eks2
      rw [List.getElem?_map] at eks2
      obtain ⟨e, ej, ee⟩ := Option.map_eq_some_iff.mp eks2
      cases ee
      have hb0 : FTup Hc e.2.1 (e.1.1.map V.int) := by
        have := (k4.ex S1.x) _ (List.mem_of_getElem? eks)
        rw [rk_kV] at this; exact this
      have heT : e.1 ∈ tbA E0 := List.mem_map.mpr ⟨e, List.mem_of_getElem? ej, rfl⟩
      obtain ⟨⟨hR, hl⟩, hLs⟩ := hrow _ heT
      have hge : g + 1 < e.1.1.length := by omega
      have enx : ((tbA E0).take (j + 1)).foldl (stepT g k beh) [] = stepT g k beh (tbA acc) e.1 := by
        have : (tbA E0)[j]? = some e.1 := by unfold tbA; rw [List.getElem?_map, ej]; rfl
        rw [List.take_add_one, this, List.foldl_append, ← eT]; rfl
      obtain ⟨vs0, l0, r0⟩ := hL4 e (List.mem_of_getElem? ej)
      have p0D : e.2.2 ≠ D := fun z => by rw [z, D4.1] at l0; cases l0
      have jle : j < E0.length := (List.getElem?_eq_some_iff.mp ej).1
      have szT : (tbA acc).length ≤ 2000000 := by
        rw [eT]
        refine Nat.le_trans foldT_len ?_
        rw [List.length_take]; simp; unfold tbA; rw [List.length_map]; omega
      have totT : (flatT (tbA acc)).length ≤ 2000000 := by
        rw [eT]
        refine Nat.le_trans (foldT_tot List.nodup_nil) ?_
        have := take_tot (tbA E0) j
        show 0 + _ ≤ _
        omega
      have vle : vs0.length ≤ 1000000 := by
        have h1 := mem_tot heT
        have h2 : vs0.length = e.1.2.length := r0.length
        omega
      -- turns
      refine ⟨_, rfl, _, rfl, e.2.1, e.1.1, g, rfl, hb0.sqt, hge, ?_⟩
      refine ⟨_, rfl, ?_⟩
      refine ⟨fun σ Ha => ∃ (acc1 : EA) (t : Bool), (t = true ↔ ¬ e.1.1.getD g 0 < e.1.1.getD (g + 1) 0) ∧ σ = [some (.ref d), some (.int k), some (.int g), some (.ref q), some (.ref D), some (.ref e.2.1), some (.bl t), v7] ∧ St P w H4 D acc1 Ha ∧ tbA acc1 = if e.1.1.getD g 0 < e.1.1.getD (g + 1) 0 then tbA acc else extT (tbA acc) (swL e.1.1 g) e.1.2, ?_, ?_⟩
      · refine ⟨_, rfl, _, rfl, ?_⟩
        by_cases hc : e.1.1.getD g 0 < e.1.1.getD (g + 1) 0
        · rw [decide_eq_true hc, if_pos hc]
          refine iteF ?_
          exact ⟨acc, _, ⟨fun z => absurd z (by decide), fun z => absurd hc z⟩, rfl, S1, rfl⟩
        · rw [decide_eq_false hc, if_neg hc]
          refine iteT ?_
          apply laterVH (R := fun v H7 => ∃ (b' z : Addr), St P w H4 D (setA acc (swL e.1.1 g) b' z) H7 ∧ ∃ e' ∈ setA acc (swL e.1.1 g) b' z, e'.1.1 = swL e.1.1 g ∧ v = .ref e'.2.2)
          · intro rest
            refine ⟨_, rfl, D, xsA acc, rfl, S1.d.rd, _, rfl, _, rfl, e.2.1, e.1.1, g, rfl, hb0, hge, by omega, fun u H5 x5 hu => ?_⟩
            have S5 := S1.ex x5
            refine ⟨Nat.zero_le _, fun z nz => ?_⟩
            have x6 : Ex H5 (upd H5 z (.lst [])) := ex_new nz
            have e6 : (upd H5 z (.lst [])) z = some (.lst []) := upd_same
            have S6 := S5.ex x6
            have hu6 := hu.ex x6
            have nz4 : H4 z = none := S5.x.fresh nz
            have hne : ∀ e ∈ acc, e.2.2 ≠ z := fun e he q => by
              obtain ⟨vs, a, _⟩ := S5.ls e he
              rw [q, nz] at a; cases a
            show ∃ v, _
            generalize upd H5 z (.lst []) = H6 at e6 S6 hu6 ⊢
            refine ⟨xsA acc, rk (swL e.1.1 g), u, S6.d, rfl, by rw [rk_kV]; exact hu6, by rw [xsA_len, sl]; omega, fun v hv => ?_, fun hn H7 x7 D7 => ?_⟩
            · obtain ⟨es, e', he', hy', ev⟩ := S6.set_old u z hv
              exact rest v H6 ⟨u, z, by rw [es]; exact S6, e', by rw [es]; exact he', hy', ev⟩
            · obtain ⟨S7, e', he', hy', ev⟩ := S6.set_new hn e6 nz4 hne D4ne x7 D7
              exact rest _ H7 ⟨u, z, S7, e', he', hy', ev⟩
          rintro v H7 ⟨b', z, S7, e', he', hy', rfl⟩
          obtain ⟨vs7, lv, rv⟩ := S7.ls e' he'
          have hfz := S7.x.frzT eL
          have hb7 : FTup H7 e.2.1 (e.1.1.map V.int) := by
            have := (k4.ex S7.x) _ (List.mem_of_getElem? eks)
            rw [rk_kV] at this; exact this
          have v7le : vs7.length ≤ 2000000 := by
            have h1 := set_len he'
            have h2 : vs7.length = e'.1.2.length := rv.length
            omega
          refine ⟨.inl ⟨rfl, _, SqL.of lv⟩, ?_⟩
          refine ⟨_, rfl, _, rfl, d, xsA E0, e.2.1, rk e.1.1, .ref e.2.2, rfl, rfl, ⟨.inr ⟨od, hfz⟩, k4.ex S7.x⟩, by rw [rk_kV]; exact hb7.sqt, val_A hnd (List.mem_of_getElem? ej), ?_⟩
          refine ⟨e'.2.2, e.2.2, vs7, vs0, rfl, rfl, lv, S7.x.lst l0 p0D, by rw [sl]; omega, ?_⟩
          refine ⟨updA (setA acc (swL e.1.1 g) b' z) (swL e.1.1 g) e.1.2, _, ⟨fun _ => hc, fun _ => rfl⟩, rfl, S7.ext he' hy' lv (r0.exB S7.x), tb_set_upd _ _ _ _ _⟩
      rintro σ Ha ⟨acc1, t, ht, rfl, S2, eT2⟩
      have eStep : stepT g k beh (tbA acc) e.1 = if e.1.1.getD g 0 < e.1.1.getD (g + 1) 0 ∨ more e.1.1 beh = [] then extT (tbA acc1) e.1.1 (e.1.2.map (· ++ [k])) else tbA acc1 := by
        rw [eT2]; rfl
      have hba : FTup Ha e.2.1 (e.1.1.map V.int) := by
        have := (k4.ex S2.x) _ (List.mem_of_getElem? eks)
        rw [rk_kV] at this; exact this
      have htf : e.1.1.getD g 0 < e.1.1.getD (g + 1) 0 → (!t) = true := fun hc => by rw [Bool.eq_false_iff.mpr fun z => ht.mp z hc]; rfl
      have htt : ¬ e.1.1.getD g 0 < e.1.1.getD (g + 1) 0 → ¬ (!t) = true := fun hc => by rw [ht.mpr hc]; decide
      apply laterH (R := fun Hx => St P w H4 D acc1 Hx ∧ (e.1.1.getD g 0 < e.1.1.getD (g + 1) 0 ∨ more e.1.1 beh = []))
      · intro rest
        refine ⟨_, rfl, _, rfl, ?_⟩
        by_cases hc : e.1.1.getD g 0 < e.1.1.getD (g + 1) 0
        · refine ite_yes (htf hc) ?_
          refine iteT ?_
          generalize hh : Ha = Hn
          exact rest Hn ⟨hh ▸ S2, .inl hc⟩
        · refine ite_no (htt hc) ?_
          refine ⟨_, rfl, _, rfl, e.2.1, q, e.1.1, beh, rfl, hba.sqt, S2.x.sqt hq4, S2.x.tab hPt4, hR, hbr, by omega, fun H8 x8 => ⟨_, rfl, ?_⟩⟩
          by_cases hm : more e.1.1 beh = []
          · rw [decide_eq_true hm]
            exact iteT (rest H8 ⟨S2.ex x8, .inr hm⟩)
          · rw [decide_eq_false hm]
            refine iteF ?_
            rw [if_neg (fun z => z.elim hc hm)] at eStep
            exact ⟨acc1, _, _, _, rfl, S2.ex x8, by rw [enx, eStep]⟩
      rintro Hx ⟨S3, hcnd⟩
      rw [if_pos hcnd] at eStep
      have szT1 : (tbA acc1).length ≤ 2000001 := by
        rw [eT2]
        split
        · omega
        · exact Nat.le_trans (extT_len _ _ _) (by omega)
      have totT1 : (flatT (tbA acc1)).length ≤ 3000000 := by
        rw [eT2]
        split
        · omega
        · rw [extT_tot S1.kd]
          have := mem_tot heT
          omega
      apply laterVH (R := fun v H7 => ∃ (b' z : Addr), St P w H4 D (setA acc1 e.1.1 b' z) H7 ∧ ∃ e' ∈ setA acc1 e.1.1 b' z, e'.1.1 = e.1.1 ∧ v = .ref e'.2.2)
      · intro rest
        refine ⟨_, rfl, D, xsA acc1, rfl, S3.d.rd, _, rfl, Nat.zero_le _, fun z nz => ?_⟩
        have x6 : Ex Hx (upd Hx z (.lst [])) := ex_new nz
        have e6 : (upd Hx z (.lst [])) z = some (.lst []) := upd_same
        have S6 := S3.ex x6
        have hu6 : FTup (upd Hx z (.lst [])) e.2.1 (e.1.1.map V.int) := by
          have := (k4.ex S6.x) _ (List.mem_of_getElem? eks)
          rw [rk_kV] at this; exact this
        have nz4 : H4 z = none := S3.x.fresh nz
        have hne : ∀ e ∈ acc1, e.2.2 ≠ z := fun e he q => by
          obtain ⟨vs, a, _⟩ := S3.ls e he
          rw [q, nz] at a; cases a
        show ∃ v, _
        generalize upd Hx z (.lst []) = H6 at e6 S6 hu6 ⊢
        refine ⟨xsA acc1, rk e.1.1, e.2.1, S6.d, rfl, by rw [rk_kV]; exact hu6, by rw [xsA_len, sl]; omega, fun v hv => ?_, fun hn H7 x7 D7 => ?_⟩
        · obtain ⟨es, e', he', hy', ev⟩ := S6.set_old e.2.1 z hv
          exact rest v H6 ⟨e.2.1, z, by rw [es]; exact S6, e', by rw [es]; exact he', hy', ev⟩
        · obtain ⟨S7, e', he', hy', ev⟩ := S6.set_new hn e6 nz4 hne D4ne x7 D7
          exact rest _ H7 ⟨e.2.1, z, S7, e', he', hy', ev⟩
      rintro v H7 ⟨b', z, S7, e', he', hy', rfl⟩
      obtain ⟨vs7, lv, rv⟩ := S7.ls e' he'
      have hfz := S7.x.frzT eL
      have hb7 : FTup H7 e.2.1 (e.1.1.map V.int) := by
        have := (k4.ex S7.x) _ (List.mem_of_getElem? eks)
        rw [rk_kV] at this; exact this
      have v7le : vs7.length ≤ 3000000 := by
        have h1 := set_len he'
        have h2 : vs7.length = e'.1.2.length := rv.length
        omega
      have l07 := S7.x.lst l0 p0D
      have r07 := r0.exB S7.x
      refine ⟨.inl ⟨rfl, _, SqL.of lv⟩, ?_⟩
      refine ⟨_, rfl, _, rfl, d, xsA E0, e.2.1, rk e.1.1, .ref e.2.2, rfl, rfl, ⟨.inr ⟨od, hfz⟩, k4.ex S7.x⟩, by rw [rk_kV]; exact hb7.sqt, val_A hnd (List.mem_of_getElem? ej), e.2.2, rfl, ⟨_, SqL.of l07⟩, fun C nC => ?_⟩
      refine lc_it (walk_list (xs := vs0)) (fun i H8 => Ex H7 H8 ∧ ∃ ws, H8 C = some (.lst ws) ∧ RefL H8 ws ((e.1.2.take i).map (· ++ [k])) ∧ ws.length = i) ⟨ex_new nC, [], upd_same, .nil, rfl⟩ (fun i H8 _ y => SqL.of (Ex.lst y.1 l07)) ?_ ?_
      · rintro i x H8' H8 hi ⟨x8, ws, e8, r8, l8⟩ ⟨rfl, hx⟩
        obtain ⟨L, tt, eLL, rfl, ht0⟩ := (r07.exB x8).at hx
        refine ⟨rfl, yes_go ⟨_, rfl, _, rfl, by show 1 ≤ sizeLine; decide, fun T nT => ?_⟩⟩
        have x9 : Ex H8 (upd H8 T (.tup [.int (k : Int)])) := ex_new nT
        have e9 : (upd H8 T (.tup [.int (k : Int)])) T = some (.tup [.int (k : Int)]) := upd_same
        have hLl := hLs L (List.mem_of_getElem? eLL)
        refine ⟨tt, T, _, _, rfl, rfl, x9.tup ht0, e9, by rw [List.length_map, List.length_map, sl]; simp; omega, fun p10 H10 x10 h10 => ?_⟩
        have x810 := x9.trans x10
        have e10 := Ex.lst x810 e8
        have xs2 : ExB (fun z => z = C) H10 (upd H10 C (.lst (ws ++ [.ref p10]))) := ex_set e10
        refine ⟨ws, e10, by rw [l8, sl]; omega, (x8.trans x810).then xs2 fun z hz => .inl (by rw [show z = C from hz]; exact nC), ws ++ [.ref p10], upd_same, ?_, by rw [List.length_append, l8]; rfl⟩
        rw [List.take_add_one, eLL, List.map_append]
        refine ((r8.exB x810).exB xs2).app (.cons ⟨p10, rfl, ?_⟩ .nil)
        rw [show (nI (L ++ [k])).map V.int = (nI L).map V.int ++ [V.int (k : Int)] by unfold nI; rw [List.map_append, List.map_append]; rfl]
        exact xs2.tup h10
      rintro H8 ⟨x8, ws, e8, r8, l8⟩
      have S8 := S7.ex x8
      rw [show vs0.length = e.1.2.length from r0.length, List.take_length] at r8
      refine ⟨e'.2.2, C, vs7, ws, rfl, rfl, Ex.lst x8 lv, e8, by rw [l8, sl]; omega, ?_⟩
      exact ⟨updA (setA acc1 e.1.1 b' z) e.1.1 (e.1.2.map (· ++ [k])), _, _, _, rfl, S8.ext he' hy' (Ex.lst x8 lv) r8, by rw [tb_set_upd, enx, eStep]⟩
    · rintro σ Hb ⟨acc, v5, v6, v7, rfl, S1, eT⟩
      refine ⟨S1.x.frzT eL, _, rfl, ?_⟩
      have hle : (xsA E0).length = (tbA E0).length := by unfold xsA tbA; rw [List.length_map, List.length_map]
      rw [hle, List.take_length] at eT
      have hfz := S1.x.frzT eL
      subst hH4
      have x5 := ex_lockX hd1 S1.x
      have ned : ∀ {c : Addr} {ys : List V}, Hb c = some (.lst ys) → c ≠ d := fun {c ys} z e => by rw [e, hfz] at z; cases z
      refine Qn D acc _ (x1.then x5 fun z hz => .inl (by rw [show z = D from hz]; exact nD)) nD ⟨by rw [upd_ne hDd]; exact S1.d.1, fun p hp => ?_⟩ (fun e he => ?_) (fun e he => fr4 _ (S1.new e he)) eT
      · obtain ⟨ob, c1, c2, c3⟩ := S1.d.2 p hp
        exact ⟨ob, c1, c2, by rw [upd_ne (fun z => by rw [z, hfz] at c3; cases c3)]; exact c3⟩
      · obtain ⟨vs, a, b⟩ := S1.ls e he
        refine ⟨vs, by rw [upd_ne (ned a)]; exact a, L2.Paired.mapP b fun v L ⟨t, c1, c2⟩ => ⟨t, c1, ?_⟩⟩
        rw [upd_ne (fun z => by rw [z, hfz] at c2; cases c2)]; exact c2
end
end K70
namespace MM
open PySem PySem.Spec PyProof.Rows L2 GxR
theorem unu_ge : ∀ {k : Nat} {c : List Bool}, ∀ z ∈ unu k c, k ≤ z ∧ z < k + c.length
  | _, [], z, h => nomatch h
  | k, true :: c, z, h => by
    have := unu_ge (k := k + 1) (c := c) z h
    rw [List.length_cons]; omega
  | k, false :: c, z, h => by
    rcases List.mem_cons.mp (show z ∈ k :: unu (k + 1) c from h) with rfl | h
    · rw [List.length_cons]; omega
    · have := unu_ge (k := k + 1) (c := c) z h
      rw [List.length_cons]; omega
theorem unu_len : ∀ (k : Nat) (c : List Bool), (unu k c).length + c.count true = c.length
  | _, [] => rfl
  | k, true :: c => by
    have := unu_len (k + 1) c
    show (unu (k + 1) c).length + _ = _
    rw [List.count_cons_self, List.length_cons]; omega
  | k, false :: c => by
    have := unu_len (k + 1) c
    show (k :: unu (k + 1) c).length + _ = _
    rw [List.count_cons_of_ne (by decide), List.length_cons, List.length_cons]; omega
theorem unu_sorted : ∀ (k : Nat) (c : List Bool), (unu k c).Pairwise (· < ·)
  | _, [] => .nil
  | k, true :: c => unu_sorted (k + 1) c
  | k, false :: c => List.pairwise_cons.mpr ⟨fun z hz => by have := (unu_ge z hz).1; omega, unu_sorted (k + 1) c⟩
theorem unu_inj : ∀ {k : Nat} {c d : List Bool}, c.length = d.length → unu k c = unu k d → c = d
  | _, [], [], _, _ => rfl
  | _, [], _ :: _, h, _ => nomatch h
  | _, _ :: _, [], h, _ => nomatch h
  | k, true :: c, true :: d, h, e => by rw [unu_inj (k := k + 1) (Nat.succ.inj h) e]
  | k, false :: c, false :: d, h, e => by rw [unu_inj (k := k + 1) (Nat.succ.inj h) (List.cons.inj (show k :: unu (k + 1) c = k :: unu (k + 1) d from e)).2]
  | k, true :: c, false :: d, h, e => by
    have : k ∈ unu (k + 1) c := by rw [show unu (k + 1) c = k :: unu (k + 1) d from e]; exact List.mem_cons_self
    have := (unu_ge k this).1; omega
  | k, false :: c, true :: d, h, e => by
    have : k ∈ unu (k + 1) d := by rw [← show k :: unu (k + 1) c = unu (k + 1) d from e]; exact List.mem_cons_self
    have := (unu_ge k this).1; omega
theorem bL_blen {m : Nat} : ∀ {gs y : List Int}, ∀ c ∈ bL m gs y, c.length = gs.length
  | [], y, c, h => by
    unfold bL at h
    split at h
    · rw [List.mem_singleton.mp h]; rfl
    · exact nomatch h
  | g :: gs, y, c, h => by
    rcases List.mem_append.mp (show c ∈ _ ++ _ from h) with h | h
    · split at h
      · obtain ⟨d, hd, rfl⟩ := List.mem_map.mp h
        rw [List.length_cons, List.length_cons, bL_blen d hd]
      · exact nomatch h
    · obtain ⟨d, hd, rfl⟩ := List.mem_map.mp h
      rw [List.length_cons, List.length_cons, bL_blen d hd]
theorem nodup_cons_map {α : Type} (b : α) {l : List (List α)} (h : l.Nodup) : (l.map (b :: ·)).Nodup := by
  rw [List.nodup_iff_pairwise_ne, List.pairwise_map]
  exact (List.nodup_iff_pairwise_ne.mp h).imp fun n e => n (List.cons.inj e).2
theorem bL_nodup {m : Nat} : ∀ (gs y : List Int), (bL m gs y).Nodup
  | [], y => by
    unfold bL
    split
    · simp
    · exact List.nodup_nil
  | g :: gs, y => by
    show (_ ++ _ : List (List Bool)).Nodup
    rw [List.nodup_append]
    refine ⟨?_, nodup_cons_map _ (bL_nodup gs y), fun a ha b hb e => ?_⟩
    · split
      · exact nodup_cons_map _ (bL_nodup gs _)
      · exact List.nodup_nil
    · obtain ⟨d, _, rfl⟩ := List.mem_map.mp hb
      split at ha
      · obtain ⟨d', _, rfl⟩ := List.mem_map.mp ha
        exact absurd (List.cons.inj e).1 (by decide)
      · exact nomatch ha
theorem gLf_nodup {m k : Nat} {gs y : List Int} : (gLf m gs k y).Nodup := by
  unfold gLf
  have : ∀ l : List (List Bool), l.Nodup → (∀ c ∈ l, c.length = gs.length) → (l.map (unu k)).Nodup := by
    intro l hn hl
    induction l with
    | nil => exact List.nodup_nil
    | cons a l ih =>
      rw [List.nodup_cons] at hn
      rw [List.map_cons, List.nodup_cons]
      refine ⟨fun z => ?_, ih hn.2 fun c hc => hl c (List.mem_cons_of_mem _ hc)⟩
      obtain ⟨b, hb, e⟩ := List.mem_map.mp z
      have := unu_inj (by rw [hl a List.mem_cons_self, hl b (List.mem_cons_of_mem _ hb)]) e
      rw [this] at hb
      exact hn.1 hb
  exact this _ (bL_nodup gs y) fun c hc => bL_blen c hc
theorem gLf_len {m k : Nat} {gs y : List Int} (hb : BookOk m gs) (hr : IsRow y) (hl : y.length = m) : ∀ L ∈ gLf m gs k y, L.length + pairsN y = gs.length := fun L hL => by
  obtain ⟨c, hc, rfl⟩ := List.mem_map.mp (show L ∈ (bL m gs y).map (unu k) from hL)
  obtain ⟨a, _, b⟩ := (mem_bL hb hr hl).mp hc
  have := unu_len k c
  omega
theorem TbOk.len_le {m : Nat} {gs : List Int} {k : Nat} {T : Tb} (h : TbOk m gs k T) : T.length ≤ (flatT T).length := by
  have hr := h.row
  clear h
  induction T with
  | nil => exact Nat.zero_le _
  | cons e T ih =>
    rw [flat_cons, List.length_append, List.length_map, List.length_cons]
    have a := List.length_pos_iff.mpr (hr e List.mem_cons_self).2.2.2.1
    have b := ih fun e' he => hr e' (List.mem_cons_of_mem _ he)
    omega
theorem alone {l : List (List Nat)} (hn : l.Nodup) (h : ∀ L ∈ l, L = []) : l = [] ∨ l = [[]] := by
  match l, hn, h with
  | [], _, _ => exact .inl rfl
  | [a], _, h => exact .inr (by rw [h a List.mem_cons_self])
  | a :: b :: l, hn, h =>
    rw [List.nodup_cons] at hn
    rw [h a List.mem_cons_self, ← h b (List.mem_cons_of_mem _ List.mem_cons_self)] at hn
    exact absurd List.mem_cons_self hn.1
end MM
namespace K70
open PySem PySem.Spec PyProof.Rows L2 GxR MM
section
variable {P : Program} {w : World} {K : PySem.W.Frag} {mg : Str → Option Value} {base : Heap} {f : Addr} {fd : FuncData} {n : Nat}
def spAllG (K : PySem.W.Frag) (Pp Pt : Addr) : Sp := fun vs H Q _ => ∃ (a r : Addr) (most : Nat) (gs : List Int) (m : Nat) (fa fb : Nat → Nat), vs = [.ref a, .ref r, .int most] ∧ SqT K H a (gs.map V.int) ∧ FTup H r ((ofF m fa).map V.int) ∧ IsInv m fa fb ∧ 1 ≤ m ∧ m ≤ 9 ∧ BookOk m gs ∧ gs.length ≤ 100 ∧ dnL gs (ofF m fb) = row0 m ∧ (gLf m gs 0 (ofF m fb)).length ≤ most ∧ most ≤ 1000 ∧ TabG H Pt ∧ TabG H Pp ∧
  ∀ p vs Ls H', Ex H H' → H p = none → H' p = some (.lst vs) → RefL H' vs Ls → Ls.Perm (gLf m gs 0 (ofF m fb)) → Ls.Pairwise (· < ·) → Q (.ref p) H'
theorem d_all_greatest {Pp Pt : Addr} (F : FnP K "all_greatest" s_all_greatest f fd) (g : mg "all_greatest" = some (.ref f)) (B : Bl mg) (C_farthest_behind : CallD P w K mg base n "farthest_behind" ["book", "many"] (spFBehind K)) (C_places_of : CallD P w K mg base n "places_of" ["row"] (spPlaces Pp)) (C_with_meeting : CallD P w K mg base n "with_meeting" ["found", "meeting", "gap", "behind"] (spWith K P w Pt)) (C_row_of : CallD P w K mg base n "row_of" ["many"] spRowOfF) : CallD P w K mg base (n + 1) "all_greatest" ["book", "row", "most"] (spAllG K Pp Pt) := by
  refine callD F g sc_all_greatest (fun _ _ _ _ _ _ us hl => match us, hl with | [_, _, _], _ => rfl) (fun vs H Q E h => ?_) (fun cdv A outer s H vs Q E _ hr hG h => ?_)
  · obtain ⟨a, r, most, gs, m, fa, fb, rfl, _⟩ := h; rfl
  · obtain ⟨a, r, most, gs, m, fa, fb, rfl, hT, hF, hI, h1, h9, hB, h100, hdn, hmost, hm1000, hPt, hPp, q⟩ := h
    refine ⟨_, (pss_cons (ps_set (i := 3) sc_all_greatest.nd rfl (Or.inl rfl) (pe_c C_farthest_behind hr hG (pa_cons (pv 0) (pa_cons (pe_callB (k_len (K := K) rfl) (by rfl) B.len PySem.boot_len (pa_cons (pv 1) pa_nil)) pa_nil))))
      (pss_cons (ps_set (i := 4) sc_all_greatest.nd rfl (Or.inl rfl) (pe_disp1F (P := P) (w := w) rfl rfl (hu_of hr) (pe_c C_places_of hr hG (pa_cons (pv 1) pa_nil)) (pe_lst (pa_cons (pe_tup pa_nil) pa_nil))))
      (pss_cons (ps_for PassesOwn.never rfl (pi_enT (K := K) rfl (by rfl) B.enumerate (pa_cons (pv 0) pa_nil)) (k_tup (K := K) rfl (pg_tup rfl (pgs_cons (pg_name (i := 5) sc_all_greatest.nd rfl (Or.inl rfl)) (pgs_cons (pg_name (i := 6) sc_all_greatest.nd rfl (Or.inl rfl)) pgs_nil))))
      (pss_cons (ps_set (i := 4) sc_all_greatest.nd rfl (Or.inl rfl) (pe_c C_with_meeting hr hG (pa_cons (pv 4) (pa_cons (pv 5) (pa_cons (pv 6) (pa_cons (pe_ix (k_ixl (K := K) rfl) (pv 3) (pe_op op_add (pv 5) pe_int) (fun _ _ => rfl)) pa_nil))))))
      (pss_one (ps_if (pt_cmpR op_gt (pe_callB (k_sum (K := K) rfl rfl) (by rfl) B.sum (by decide +kernel) (pa_cons (pe_lock (pe_lc (own := [("leavings", 7)]) (g := gName 7) rfl sc_all_greatest.nd (pi_valuesF (P := P) (w := w) rfl rfl (pv 4)) (blkOk_by (N := N_all_greatest) (sc := defScope s_all_greatest) (by decide +kernel)) (fun _ _ _ _ _ => (pg_name (i := 7) sc_all_greatest.nd rfl (by first | exact Or.inl rfl | exact Or.inr rfl))) (fun _ _ _ _ _ => pts_nil) (fun _ _ _ _ _ => (pe_callB (k_len (K := K) rfl) (by rfl) B.len PySem.boot_len (pa_cons (pv 7) pa_nil))))) pa_nil)) (pv 2) (nomark _))
      (pss_one ps_never)
      pss_nil))))
      (pss_one (ps_ret (pe_callB (k_sortD1 (K := K) rfl hr.units) (by rfl) B.sorted (by decide +kernel) (pa_cons (pe_dgetFx (K := K) (P := P) (w := w) rfl rfl rfl (hu_of hr) (pv 4) (pe_c C_row_of hr hG (pa_cons (pe_callB (k_len (K := K) rfl) (by rfl) B.len PySem.boot_len (pa_cons (pv 1) pa_nil)) pa_nil)) (fun _ _ => rfl)) pa_nil))))))), ?_⟩
    have sl : sizeLine = 16777216 := by decide
    have hRb : IsRow (ofF m fb) := row_ofF h1 h9 hI.symm
    have hlb := ofF_len m fb
    refine ⟨_, rfl, _, rfl, r, _, rfl, .inr hF.sqt, ?_⟩
    rw [show ((ofF m fa).map V.int).length = m by rw [List.length_map, ofF_len]]
    refine ⟨a, gs, m, rfl, hT, h1, h9, hB, h100, fun bp bs H1 x1 e1 R1 => ?_⟩
    refine fun d H2 nd x2 D2 => ?_
    refine ⟨_, rfl, r, m, fa, fb, rfl, (hF.ex x1).ex x2, hI, h9, (x1.trans x2).tab hPp, fun u H3 x3 hu => ?_⟩
    refine ⟨Nat.zero_le _, fun t0 nt => ?_⟩
    have x4 : Ex H3 (upd H3 t0 (.tup [])) := ex_new nt
    have e4 : (upd H3 t0 (.tup [])) t0 = some (.tup []) := upd_same
    generalize upd H3 t0 (.tup []) = H4 at x4 e4 ⊢
    refine ⟨by show 1 ≤ sizeLine; decide, fun z nz => ?_⟩
    have x5 : Ex H4 (upd H4 z (.lst [.ref t0])) := ex_new nz
    have e5 : (upd H4 z (.lst [.ref t0])) z = some (.lst [.ref t0]) := upd_same
    generalize upd H4 z (.lst [.ref t0]) = H5 at x5 e5 ⊢
    have x25 := (x3.trans x4).trans x5
    refine ⟨D2.ex x25 id, u, rk (ofF m fb), rfl, by rw [rk_kV]; exact hu.ex (x4.trans x5), fun H6 x6 D6 => ?_⟩
    have x16 : Ex H1 H6 := ((x2.trans x25).then x6 fun c hc => .inl (by rw [show c = d from hc]; exact nd))
    have ezd : z ≠ d := fun q => by rw [q] at nz; exact absurd (((D2.ex (x3.trans x4) id).1).symm.trans nz) (fun h => nomatch h)
    have e6 := x6.lst e5 ezd
    have et6 := x6.tup (x5.tup e4)
    refine ⟨_, rfl, a, gs.map V.int, rfl, (x1.trans x16).sqt hT, ?_⟩
    refine for_it (walk_enT (xs := gs.map V.int)) (fun i σ Hi => ∃ (d : Addr) (E : EA) (v5 v6 v7 : Option V), σ = [some (.ref a), some (.ref r), some (.int most), some (.ref bp), some (.ref d), v5, v6, v7] ∧ Ex H1 Hi ∧ DFo P w Hi d (xsA E) ∧ LsAt Hi E ∧ TbOk m gs i (tbA E) ∧ (compT m (gs.drop i) i (flatT (tbA E))).Perm (gLf m gs 0 (ofF m fb))) ?_ (fun i σ Hi _ ⟨_, _, _, _, _, _, x, _⟩ => (x1.trans x).sqt hT) ?_ ?_
    · refine ⟨d, [((ofF m fb, [[]]), u, z)], none, none, none, rfl, x16, D6, fun e he => ?_, ⟨by simp [tbA], fun e he => ?_⟩, ?_⟩
      · rw [List.mem_singleton.mp he]
        exact ⟨_, e6, .cons ⟨t0, rfl, et6⟩ .nil⟩
      · obtain rfl := List.mem_singleton.mp (show e ∈ [(ofF m fb, [([] : List Nat)])] from he)
        refine ⟨hRb, hlb, hdn, List.cons_ne_nil _ _, fun L hL => ?_⟩
        rw [List.mem_singleton.mp hL]
        exact ⟨Nat.le_refl _, fun z hz => nomatch hz⟩
      · show ((gLf m gs 0 (ofF m fb)).map ([] ++ ·) ++ []).Perm _
        rw [List.append_nil, show (fun x : List Nat => [] ++ x) = id from rfl, List.map_id]
    · rintro i x σ H7 H7' hi ⟨d, E, v5, v6, v7, rfl, x7, D7, L7, T7, C7⟩ ⟨T, x', y', rfl, nT, rfl, g1, g2⟩
      rw [List.length_map] at hi
      have g1 : x' = .int (i : Int) := (Option.some.inj g1).symm
      obtain ⟨gp, eg, hg⟩ := book_at hB hi
      have egp : gapN gs i = gp := by unfold gapN; rw [eg, Int.toNat_natCast]
      have g2 : y' = .int (gp : Int) := by
        have g2 : (gs.map V.int)[i]? = some y' := g2
        rw [row_get hi, eg] at g2; exact (Option.some.inj g2).symm
      subst g1 g2
      have x8 : Ex H7 (upd H7 T (.tup [.int (i : Int), .int (gp : Int)])) := ex_new nT
      have e8 : (upd H7 T (.tup [.int (i : Int), .int (gp : Int)])) T = some (.tup [.int (i : Int), .int (gp : Int)]) := upd_same
      have y8 := x7.trans x8
      have D8 := D7.ex x8 id
      have L8 := L7.ex x8
      generalize upd H7 T (.tup [.int (i : Int), .int (gp : Int)]) = H8 at x8 e8 y8 D8 L8 ⊢
      refine ⟨T, _, rfl, SqT.of e8, rfl, _, _, rfl, _, _, rfl, rfl, ?_⟩
      have x18 : Ex H1 H8 := y8
      have eb8 := Ex.lst x18 e1
      obtain ⟨tb, etb, htb⟩ := (R1.ex x18).2 (i + 1) _ (List.getElem?_eq_getElem (by rw [R1.1]; omega))
      have gB : bs[i + 1]? = some (.ref tb) := by rw [← etb]; exact List.getElem?_eq_getElem _
      obtain ⟨fr, fl⟩ := farL_ok (book_rev (fun z hz => hB z (List.mem_of_mem_drop hz) : BookOk m (gs.drop (i + 1)))) (row0_row h1 h9) (row0_len m)
      have hbeh : ∀ y, IsRow y → y.length = m → (more y (farL (row0 m) (gs.drop (i + 1)).reverse) = [] ↔ dnL (gs.drop (i + 1)) y = row0 m) := fun y hy hl => dn_more h1 h9 (fun z hz => hB z (List.mem_of_mem_drop hz)) hy hl
      have tot : (flatT (tbA E)).length ≤ 1000 := by
        have := comp_le h1 h9 hB T7
        rw [← flat_len, C7.length_eq] at this
        omega
      have lenE : E.length ≤ 1000 := by
        have := T7.len_le
        unfold tbA at this tot
        rw [List.length_map] at this
        omega
      refine ⟨_, rfl, _, rfl, _, rfl, _, rfl, _, rfl, _, _, rfl, rfl, bp, _, _, _, rfl, rfl, SqL.of eb8, at_of (j := i + 1) (by omega) gB, ?_⟩
      refine ⟨d, tb, i, gp, m, farL (row0 m) (gs.drop (i + 1)).reverse, E, rfl, D8, L8, T7.nd, fun e he => ?_, htb.sqt, fr, fl, hg, h9, by omega, by omega, (x1.trans x18).tab hPt, fun d2 E2 H9 x9 nd2 D9 L9 _ eE2 => ?_⟩
      · obtain ⟨a1, a2, _, _, a3⟩ := T7.row e he
        exact ⟨⟨a1, a2⟩, fun L hL => by have := (a3 L hL).1; omega⟩
      have T9 : TbOk m gs (i + 1) (tbA E2) := by rw [eE2, ← egp]; exact withM_ok h1 h9 hB hi T7 hbeh
      have C9 : (compT m (gs.drop (i + 1)) (i + 1) (flatT (tbA E2))).Perm (gLf m gs 0 (ofF m fb)) := by rw [eE2, ← egp]; exact (withM_comp h1 h9 hB hi T7 hbeh).trans C7
      have sum9 : (((tbA E2).map fun e => e.2.length).sum) ≤ most := by
        have := comp_le h1 h9 hB T9
        rw [C9.length_eq] at this
        omega
      have lenE2 : E2.length ≤ 1000 := by
        have := T9.len_le
        rw [flat_len] at this
        unfold tbA at this sum9
        rw [List.length_map] at this
        omega
      have lsz : ∀ e ∈ tbA E2, e.2.length ≤ 1000 := fun e he => by
        have := mem_tot he
        rw [flat_len] at this; omega
      refine ⟨d2, _, D9.1, trivial, fun od => ?_⟩
      have eL : (upd H9 d2 (.frz od (.ext (DTp P w d2 (xsA E2))))) d2 = some (.frz od (.ext (DTp P w d2 (xsA E2)))) := upd_same
      have xl := ex_setX (o := .frz od (.ext (DTp P w d2 (xsA E2)))) D9.1
      have LL : LsAt (upd H9 d2 (.frz od (.ext (DTp P w d2 (xsA E2))))) E2 := L9.exB xl fun e he z => by
        obtain ⟨vs, a, _⟩ := L9 e he
        rw [show e.2.2 = d2 from z, D9.1] at a; cases a
      generalize hHL : upd H9 d2 (.frz od (.ext (DTp P w d2 (xsA E2)))) = HL at eL xl LL
      refine ⟨_, rfl, d2, od, xsA E2, rfl, eL, fun C nC => ?_⟩
      refine lc_it (walk_valsF (P := P) (w := w) (d := d2) (o := od) (xs := xsA E2)) (fun j H' => Ex HL H' ∧ H' C = some (.lst ((((tbA E2).take j).map fun e => (e.2.length : Int)).map V.int))) ⟨ex_new nC, upd_same⟩ (fun j H' _ y => y.1.frzT eL) ?_ ?_
      · rintro j x H10 H10' hj ⟨x10, e10⟩ ⟨rfl, kk, b0, eks⟩
        unfold xsA at eks hj
        rw [List.length_map] at hj
        rw [List.getElem?_map] at eks
        obtain ⟨e, ej, ee⟩ := Option.map_eq_some_iff.mp eks
        cases ee
        obtain ⟨vs, l1, l2⟩ := (LL.ex x10) e (List.mem_of_getElem? ej)
        have ejT : (tbA E2)[j]? = some e.1 := by unfold tbA; rw [List.getElem?_map, ej]; rfl
        have vl : vs.length = e.1.2.length := l2.length
        refine ⟨rfl, yes_go ⟨_, rfl, _, _, rfl, .inl (SqL.of l1), ?_⟩⟩
        refine ⟨_, e10, by rw [List.length_map, List.length_map, List.length_take, sl]; unfold tbA; rw [List.length_map]; omega, x10.then (ex_set e10) fun z hz => .inl (by rw [show z = C from hz]; exact nC), ?_⟩
        rw [upd_same, List.take_add_one, ejT, List.map_append, List.map_append, vl]
        rfl
      rintro H10 ⟨x10, e10⟩
      have fz := x10.frzT eL
      subst hHL
      have x11 : Ex H9 (upd H10 d2 (.ext (DTp P w d2 (xsA E2)))) := ex_lockX D9.1 x10
      have Cd : C ≠ d2 := fun z => by rw [z, eL] at nC; cases nC
      have e11 : (upd H10 d2 (.ext (DTp P w d2 (xsA E2)))) C = _ := (upd_ne Cd).trans e10
      have y11 := (x18.trans x9).trans x11
      have elen : (xsA E2).length = (tbA E2).length := by unfold xsA tbA; rw [List.length_map, List.length_map]
      rw [elen, List.take_length] at e11
      refine ⟨fz, C, _, rfl, SqL.of e11, ?_⟩
      have esum : ((tbA E2).map fun e => (e.2.length : Int)).sum = (((tbA E2).map fun e => e.2.length).sum : Nat) := by
        generalize tbA E2 = l
        induction l with
        | nil => rfl
        | cons a l ih => rw [List.map_cons, List.map_cons, List.sum_cons, List.sum_cons, ih, Int.natCast_add]
      refine ⟨_, rfl, _, _, rfl, rfl, _, rfl, ?_⟩
      rw [esum, decide_eq_false (by omega)]
      exact iteF ⟨d2, E2, _, _, _, rfl, y11, D9.ex x11 id, L9.ex x11, T9, C9⟩
    · rintro σ H7 ⟨d, E, v5, v6, v7, rfl, x7, D7, L7, T7, C7⟩
      rw [List.length_map] at T7 C7
      rw [List.drop_length] at C7
      have hne : compT m [] gs.length (flatT (tbA E)) ≠ [] := fun z => by
        rw [z] at C7
        exact (gLf_ne (k := 0) h1 h9 hB hRb hlb).mpr hdn (List.Perm.nil_eq C7).symm
      obtain ⟨Ls, eT, eC⟩ := last_T T7 hne
      rw [eC] at C7
      obtain ⟨e, rfl⟩ : ∃ e, E = [e] := by
        have hl : E.length = 1 := by have := congrArg List.length eT; unfold tbA at this; rwa [List.length_map] at this
        exact List.length_eq_one_iff.mp hl
      have ee : e.1 = (row0 m, Ls) := (List.cons.inj eT).1
      refine ⟨_, rfl, _, rfl, r, _, rfl, .inr (((hF.ex x1).ex x7).sqt), m, by rw [List.length_map, ofF_len]; rfl, h1, h9, fun p H8 x8 hp => ?_⟩
      have hv := val_A T7.nd (List.mem_cons_self (a := e) (l := []))
      rw [ee] at hv
      refine ⟨d, _, p, rk (row0 m), _, rfl, rfl, (D7.ex x8 id).rd, by rw [rk_kV]; exact hp.sqt, hv, ?_⟩
      obtain ⟨ys, e9, r9⟩ := (L7.ex x8) e List.mem_cons_self
      rw [ee] at r9
      have hnd : Ls.Nodup := C7.symm.nodup gLf_nodup
      have hlen : ∀ L ∈ Ls, L.length + pairsN (ofF m fb) = gs.length := fun L hL => gLf_len hB hRb hlb L (C7.mem_iff.mp hL)
      have hNe : Ls ≠ [] := fun z => hne (eC.trans z)
      have yl : ys.length = Ls.length := r9.length
      have fstz : (ys.zip Ls).map (·.1) = ys := List.map_fst_zip (by omega)
      have sndz : (ys.zip Ls).map (·.2) = Ls := List.map_snd_zip (by omega)
      have memb := pair_zip r9
      obtain ⟨S, hp, hs, eS⟩ := sort_words (ys.zip Ls) (by rw [sndz]; exact hnd)
      have sh : ∀ {Q' : V → Hp → Prop}, (∀ p, H8 p = none → Q' (.ref p) (upd H8 p (.lst (S.map (·.1))))) → rSortD1 K [.ref e.2.2] H8 Q' := by
        intro Q' qq
        rcases Nat.eq_zero_or_pos (gs.length - pairsN (ofF m fb)) with z | z
        · rcases alone hnd (fun L hL => List.eq_nil_of_length_eq_zero (by have := hlen L hL; omega)) with z | z
          · exact absurd z hNe
          · rw [z] at r9 eS hp
            cases r9 with
            | @cons v _ _ _ hv t =>
              cases t
              refine .inr ⟨e.2.2, v, pw [], rfl, SqL.of e9, ?_, pw_alike _ _, (fun h => nomatch h), pw_depth _, ?_⟩
              · obtain ⟨u, rfl, su⟩ := hv
                exact dp_row (SqT.of su)
              · have : S = [(v, [])] := List.perm_singleton.mp hp
                rw [this] at qq
                exact qq
        · refine .inl ⟨e.2.2, (ys.zip Ls).map fun p => (p.1, pw p.2), rfl, ?_, ?_, ?_, ?_, ?_, fun p np => ?_⟩
          · rw [List.map_map]
            show SqL K H8 e.2.2 ((ys.zip Ls).map (·.1))
            rw [fstz]; exact SqL.of e9
          · intro b hb
            obtain ⟨p, hp, rfl⟩ := List.mem_map.mp hb
            obtain ⟨u, e1, su⟩ := memb p hp
            show Dp K H8 p.1 (pw p.2)
            rw [e1]
            exact dp_row (SqT.of su)
          · intro x hx y hy
            obtain ⟨b, hb, rfl⟩ := List.mem_map.mp hx
            obtain ⟨p, _, rfl⟩ := List.mem_map.mp hb
            obtain ⟨b2, hb2, rfl⟩ := List.mem_map.mp hy
            obtain ⟨p2, _, rfl⟩ := List.mem_map.mp hb2
            exact pw_alike _ _
          · refine .inl fun x hx => ?_
            obtain ⟨b, hb, rfl⟩ := List.mem_map.mp hx
            obtain ⟨p, hp, rfl⟩ := List.mem_map.mp hb
            have hw : p.2 ∈ Ls := by rw [← sndz]; exact List.mem_map.mpr ⟨p, hp, rfl⟩
            have := hlen _ hw
            cases h : p.2 with
            | nil => rw [h] at this; exact absurd this (by show ¬ 0 + _ = _; omega)
            | cons g w => exact ⟨_, _, rfl⟩
          · intro b hb
            obtain ⟨p, _, rfl⟩ := List.mem_map.mp hb
            exact pw_depth _
          · rw [eS]; exact qq p np
      refine sh fun p np => ?_
      have xp : Ex H8 (upd H8 p (.lst (S.map (·.1)))) := ex_new np
      have x18 := (x1.trans x7).trans x8
      refine q p _ (S.map (·.2)) _ (x18.trans xp) (x18.fresh np) upd_same ?_ (((hp.map (·.2)).trans (by rw [sndz])).trans C7) hs
      refine pair_of fun c hc => ?_
      obtain ⟨u, e1, su⟩ := memb c (hp.mem_iff.mp hc)
      exact ⟨u, e1, xp.tup su⟩
end
end K70
namespace K70
open PySem PySem.Spec PyProof.Rows L2 GxR MM
section
variable {P : Program} {w : World} {K : PySem.W.Frag} {mg : Str → Option Value} {base : Heap} {f : Addr} {fd : FuncData} {n : Nat}
def spGreatest (K : PySem.W.Frag) (Pp Pr Pb : Addr) : Sp := fun vs H Q _ => ∃ (a r : Addr) (gs : List Int) (m : Nat) (fa fb : Nat → Nat), vs = [.ref a, .ref r, .int 1000] ∧ SqT K H a (gs.map V.int) ∧ FTup H r ((ofF m fa).map V.int) ∧ IsInv m fa fb ∧ 1 ≤ m ∧ m ≤ 9 ∧ BookOk m gs ∧ gs.length ≤ 100 ∧ more (ofF m fa) (farL (row0 m) gs) = [] ∧ dnL gs (ofF m fb) = row0 m ∧ (gLf m gs 0 (ofF m fb)).length ≤ 1000 ∧ TabG H Pr ∧ TabG H Pb ∧ TabG H Pp ∧
  ∀ p vs Ls H', Ex H H' → H p = none → H' p = some (.lst vs) → RefL H' vs Ls → Ls.Perm (gLf m gs 0 (ofF m fb)) → Ls.Pairwise (· < ·) → Q (.ref p) H'
theorem d_greatest_left {Pp Pr Pb : Addr} (F : FunD K "greatest_left" "greatest_left" (defArgs s_greatest_left) (defBody s_greatest_left) (defScope s_greatest_left) [] [("most", .int 1000)] f fd) (g : mg "greatest_left" = some (.ref f)) (C_check_let : CallD P w K mg base n "check_let" ["book", "row"] (spCheckLet K Pr Pb)) (C_check_most : CallD P w K mg base n "check_most" ["most"] spMost) (C_all_greatest : CallD P w K mg base n "all_greatest" ["book", "row", "most"] (spAllG K Pp Pr)) : CallDk P w K mg base (n + 1) "greatest_left" ["book", "row", "most"] [.int 1000] (spGreatest K Pp Pr Pb) := by
  refine callDk F g sc_greatest_left 2 (by decide) rfl (fun D doc pm an cdv ct us ks l1 l2 => ?_) (fun vs H Q E h => ?_) (fun cdv A outer s H vs Q E _ hr hG h => ?_)
  · match us, ks, l1, l2 with
    | [u1, u2], [k1], _, _ =>
      refine ⟨_, _, _, _, _, _, rfl, rfl, ?_⟩
      rfl
  · obtain ⟨a, r, gs, m, fa, fb, rfl, _⟩ := h; rfl
  · obtain ⟨a, r, gs, m, fa, fb, rfl, hT, hF, hI, h1, h9, hB, h100, hm, hdn, hlen, hPr, hPb, hPp, q⟩ := h
    refine ⟨_, (pss_cons (ps_expr (pe_c C_check_let hr hG (pa_cons (pv 0) (pa_cons (pv 1) pa_nil))))
      (pss_cons (ps_expr (pe_c C_check_most hr hG (pa_cons (pv 2) pa_nil)))
      (pss_one (ps_ret (pe_c C_all_greatest hr hG (pa_cons (pv 0) (pa_cons (pv 1) (pa_cons (pv 2) pa_nil)))))))), ?_⟩
    refine ⟨_, rfl, _, rfl, a, r, gs, ofF m fa, rfl, hT, hF.sqt, hPr, hPb, row_ofF h1 h9 hI, by rw [ofF_len]; exact hB, by rw [ofF_len]; exact hm, fun H1 x1 => ?_⟩
    refine ⟨_, rfl, 1000, rfl, by decide, ?_⟩
    refine ⟨_, rfl, _, rfl, _, rfl, a, r, 1000, gs, m, fa, fb, rfl, x1.sqt hT, hF.ex x1, hI, h1, h9, hB, h100, hdn, hlen, Nat.le_refl _, x1.tab hPr, x1.tab hPp, fun p vs Ls H2 x2 np e2 r2 pm ps => ?_⟩
    exact q p vs Ls H2 (x1.trans x2) (x1.fresh np) e2 r2 pm ps
end
end K70
namespace MM
open PySem PySem.Calls PySem.Spec PyProof.Rows L2 GxR
/-! ### `in` a dict whose keys are rows with no dict of their own -/
def tDInX (K : PySem.W.Frag) (P : Program) (w : World) (ty td : TE) : TE := fun σ H Q => ty σ H fun y H1 => td σ H1 fun x H2 => ∃ d xs b k, x = .ref d ∧ y = .ref b ∧ DFr P w H2 d xs ∧ SqT K H2 b (k.map kV) ∧ Q (.bl (valV (kvX xs) k).isSome) H2
theorem pc_dinX {X : Cx} {K : PySem.W.Frag} {P : Program} {w : World} {o i : Expr} {td ty : TE} (hK : X.K = K) (hP : X.prog = P) (hw : X.w = w) (hu : X.A.units + 1 < cLine) (hi : PE X i ty) (ho : PE X o td) : PC X .In i o (tDInX K P w ty td) := by
  subst hK hP hw
  refine ⟨fun pins s σ H Q I h => ?_⟩
  refine thn (hi.run pins s σ H _ I h) fun iv s1 ⟨y, H1, I1, ry, q1⟩ => thn (ho.run pins s1 σ H1 _ I1 q1) fun u s2 ⟨x, H2, I2, rx, d, xs, b, k, ex, ey, D, hk, q2⟩ => ?_
  subst ex ey
  obtain rfl : u = Value.ref d := rx
  obtain rfl : iv = Value.ref b := ry
  obtain ⟨hz, hd, ys, rel, dd⟩ := df_full I2 D
  refine wpAny_in_heap (tupleKind_room_in1 hu) (key_ofS I2 hk) hd dd ?_
  have q := (rel.val k).isSome_eq
  rw [Option.isSome_map] at q
  rw [← q]
  exact ⟨.bl _, H2, I2.tok _, rfl, q2⟩
end MM
namespace K70
open PySem PySem.Spec PyProof.Rows L2 GxR MM
section
variable {P : Program} {w : World} {K : PySem.W.Frag} {mg : Str → Option Value} {base : Heap} {f : Addr} {fd : FuncData} {n : Nat}
def BehindF (P : Program) (w : World) (H : Hp) (m : Nat) (r gs : List Int) (ds : List Addr) : Prop := ds.length = gs.length + 1 ∧ ∀ k d, ds[k]? = some d → ∃ xs, DFo P w H d xs ∧ DW m (wN r (gs.drop k).reverse) (kvX xs)
theorem BehindF.ex {P : Program} {w : World} {H H' : Hp} {m : Nat} {r gs : List Int} {ds : List Addr} (h : BehindF P w H m r gs ds) (e : Ex H H') : BehindF P w H' m r gs ds := ⟨h.1, fun k d hk => let ⟨kvs, a, b⟩ := h.2 k d hk; ⟨kvs, a.ex e id, b⟩⟩
def spBehind (K : PySem.W.Frag) (P : Program) (w : World) : Sp := fun vs H Q _ => ∃ (b r : Addr) (gs rr : List Int) (m : Nat), vs = [.ref b, .ref r] ∧ SqT K H b (gs.map V.int) ∧ FTup H r (rr.map V.int) ∧ IsRow rr ∧ rr.length = m ∧ m ≤ 6 ∧ BookOk m gs ∧ gs.length ≤ 100 ∧
  ∀ p ds H', Ex H H' → H p = none → (∀ d ∈ ds, H d = none) → H' p = some (.lst (ds.map V.ref)) → BehindF P w H' m rr gs ds → Q (.ref p) H'
theorem d_ways_behind (F : FnP K "ways_behind" s_ways_behind f fd) (g : mg "ways_behind" = some (.ref f)) (C_ways_from : CallD P w K mg base n "ways_from" ["row", "book"] (spWays K P w)) : CallD P w K mg base (n + 1) "ways_behind" ["book", "row"] (spBehind K P w) := by
  refine callD F g sc_ways_behind (fun _ _ _ _ _ _ us hl => match us, hl with | [_, _], _ => rfl) (fun vs H Q E h => ?_) (fun cdv A outer s H vs Q E _ hr hG h => ?_)
  · obtain ⟨b, r, gs, rr, m, rfl, _⟩ := h; rfl
  · obtain ⟨b, r, gs, rr, m, rfl, hT, hr0, hR, hl, h6, hB, h100, q⟩ := h
    refine ⟨_, (pss_one (ps_ret (k_revL (K := K) rfl (pe_c C_ways_from hr hG (pa_cons (pv 1) (pa_cons (k_revT (K := K) rfl (pv 0)) pa_nil)))))), ?_⟩
    refine ⟨_, rfl, _, rfl, b, _, rfl, hT, fun t nt => ?_⟩
    have x1 : Ex H (upd H t (.tup (gs.map V.int).reverse)) := ex_new nt
    refine ⟨r, t, rr, gs.reverse, m, rfl, hr0.ex x1, by rw [List.map_reverse]; exact SqT.of upd_same, hR, hl, h6, book_revI hB, by rw [List.length_reverse]; exact h100, fun p ds H2 x2 np nds ep W => ?_⟩
    rw [List.length_reverse] at W
    refine ⟨p, _, rfl, SqL.of ep, fun p2 np2 => ?_⟩
    have x3 : Ex H2 (upd H2 p2 (.lst (ds.map V.ref).reverse)) := ex_new np2
    have y2 := x1.trans x2
    refine q p2 ds.reverse _ (y2.trans x3) (y2.fresh np2) (fun d hd => x1.fresh (nds d (List.mem_reverse.mp hd))) (by rw [upd_same, List.map_reverse]) ⟨by rw [List.length_reverse]; exact W.1, fun k d hk => ?_⟩
    have hk2 : k < ds.length := by have := (List.getElem?_eq_some_iff.mp hk).1; rwa [List.length_reverse] at this
    rw [List.getElem?_reverse hk2, W.1] at hk
    obtain ⟨kvs, a1, a2⟩ := W.2 _ d hk
    refine ⟨kvs, a1.ex x3 id, ?_⟩
    have e : gs.reverse.take (gs.length + 1 - 1 - k) = (gs.drop k).reverse := by
      rw [List.take_reverse]
      congr 2
      rw [W.1] at hk2
      omega
    rw [e] at a2; exact a2
def spNth (K : PySem.W.Frag) (Pr Pb : Addr) : Sp := fun vs H Q _ => ∃ (a r : Addr) (gs ns : List Int) (i : Nat), vs = [.ref a, .ref r, .int i] ∧ SqT K H a (gs.map V.int) ∧ FTup H r (ns.map V.int) ∧ TabG H Pr ∧ TabG H Pb ∧ IsRow ns ∧ ns.length ≤ 6 ∧ BookOk ns.length gs ∧ gs.length ≤ 100 ∧ i < (goL ns gs (row0 ns.length)).length ∧
  ∀ bs p H', (goL ns gs (row0 ns.length))[i]? = some bs → Ex H H' → SqT K H' p (bs.map V.bl) → Q (.ref p) H'
theorem d_nth {Pr Pb : Addr} (F : FnP K "nth" s_nth f fd) (g : mg "nth" = some (.ref f)) (B : Bl mg) (C_check_book_and_row : CallD P w K mg base n "check_book_and_row" ["book", "row"] (spBookRow K Pr Pb)) (C_check_number : CallD P w K mg base n "check_number" ["number"] spNum) (C_check_few : CallD P w K mg base n "check_few" ["many"] spFew) (C_ways_behind : CallD P w K mg base n "ways_behind" ["book", "row"] (spBehind K P w)) (C_row_of : CallD P w K mg base n "row_of" ["many"] spRowOfF) (C_swapped : CallD P w K mg base n "swapped" ["row", "gap"] spSwF) : CallD P w K mg base (n + 1) "nth" ["book", "row", "number"] (spNth K Pr Pb) := by
  refine callD F g sc_nth (fun _ _ _ _ _ _ us hl => match us, hl with | [_, _, _], _ => rfl) (fun vs H Q E h => ?_) (fun cdv A outer s H vs Q E _ hr hG h => ?_)
  · obtain ⟨a, r, gs, ns, i, rfl, _⟩ := h; rfl
  · obtain ⟨a, r, gs, ns, i, rfl, hT, hU, hPr, hPb, hR, h6, hB, h100, hi, q⟩ := h
    refine ⟨_, (pss_cons (ps_expr (pe_c C_check_book_and_row hr hG (pa_cons (pv 0) (pa_cons (pv 1) pa_nil))))
      (pss_cons (ps_expr (pe_c C_check_number hr hG (pa_cons (pv 2) pa_nil)))
      (pss_cons (ps_expr (pe_c C_check_few hr hG (pa_cons (pe_callB (k_len (K := K) rfl) (by rfl) B.len PySem.boot_len (pa_cons (pv 1) pa_nil)) pa_nil)))
      (pss_cons (ps_set (i := 3) sc_nth.nd rfl (Or.inl rfl) (pe_c C_ways_behind hr hG (pa_cons (pv 0) (pa_cons (pv 1) pa_nil))))
      (pss_cons (ps_set (i := 4) sc_nth.nd rfl (Or.inl rfl) (pe_c C_row_of hr hG (pa_cons (pe_callB (k_len (K := K) rfl) (by rfl) B.len PySem.boot_len (pa_cons (pv 1) pa_nil)) pa_nil)))
      (pss_cons (ps_if (pt_cmpR op_ge (pv 2) (pe_dget2F (K := K) (P := P) (w := w) rfl rfl rfl (hu_of hr) (pe_ix (k_ixl (K := K) rfl) (pv 3) pe_int (fun _ _ => rfl)) (pv 4) pe_int ⟨rfl, rfl, rfl, rfl⟩) (nomark _))
      (pss_one ps_never)
      pss_nil)
      (pss_cons (ps_set (i := 5) sc_nth.nd rfl (Or.inl rfl) (pe_lst pa_nil))
      (pss_cons (ps_for PassesOwn.never rfl (pi_enT (K := K) rfl (by rfl) B.enumerate (pa_cons (pv 0) pa_nil)) (k_tup (K := K) rfl (pg_tup rfl (pgs_cons (pg_name (i := 6) sc_nth.nd rfl (Or.inl rfl)) (pgs_cons (pg_name (i := 7) sc_nth.nd rfl (Or.inl rfl)) pgs_nil))))
      (pss_cons (ps_set (i := 8) sc_nth.nd rfl (Or.inl rfl) (pe_dget2F (K := K) (P := P) (w := w) rfl rfl rfl (hu_of hr) (pe_ix (k_ixl (K := K) rfl) (pv 3) (pe_op op_add (pv 6) pe_int) (fun _ _ => rfl)) (pv 4) pe_int ⟨rfl, rfl, rfl, rfl⟩))
      (pss_cons (ps_set (i := 9) sc_nth.nd rfl (Or.inl rfl) (pe_cmpR op_ge (pv 2) (pv 8) (nomark _)))
      (C8.pss_cut (ps_if (pt_val (pv 9))
      (pss_cons (ps_set (i := 2) sc_nth.nd rfl (Or.inl rfl) (pe_op op_sub (pv 2) (pv 8)))
      (pss_one (ps_set (i := 4) sc_nth.nd rfl (Or.inl rfl) (pe_c C_swapped hr hG (pa_cons (pv 4) (pa_cons (pv 7) pa_nil))))))
      pss_nil)
      (pss_one (ps_expr (k_bm (K := K) rfl PySem.F.plainAttrs_list PySem.F.slot_list_append PySem.F.type_list_append mt_append (pv 5) (pa_cons (pv 9) pa_nil))))))))
      (pss_one (ps_ret (k_tupOf (K := K) rfl (by rfl) B.tuple (pv 5)))))))))))), ?_⟩
    have sl : sizeLine = 16777216 := by decide
    have h1 := hR.1
    have h9 := hR.2.1
    refine ⟨_, rfl, _, rfl, a, r, gs, ns, rfl, hT, hU.sqt, hPr, hPb, hR, hB, fun H1 x1 => ?_⟩
    refine ⟨_, rfl, i, rfl, by omega, ?_⟩
    refine ⟨_, rfl, r, _, rfl, .inr ((hU.ex x1).sqt), (ns.length : Int), by rw [List.length_map]; rfl, by omega, ?_⟩
    refine ⟨_, rfl, _, rfl, a, r, gs, ns, ns.length, rfl, x1.sqt hT, hU.ex x1, hR, rfl, h6, hB, h100, fun p ds H2 x2 np nd e2 W2 => ?_⟩
    have y2 := x1.trans x2
    refine ⟨_, rfl, r, _, rfl, .inr ((hU.ex y2).sqt), ns.length, by rw [List.length_map]; rfl, h1, h9, fun t H3 x3 et => ?_⟩
    have y3 := y2.trans x3
    have e3 := Ex.lst x3 e2
    have W3 := W2.ex x3
    have r0 := row0_row h1 h9
    have l0 := row0_len ns.length
    -- the dict at k
    have dk : ∀ (H' : Hp), Ex H3 H' → ∀ k, k ≤ gs.length → ∃ d xs, (ds.map V.ref)[k]? = some (.ref d) ∧ DFo P w H' d xs ∧ DW ns.length (wN ns (gs.drop k).reverse) (kvX xs) := fun H' e k hk => by
      have hlt : k < ds.length := by rw [W3.1]; omega
      obtain ⟨kvs, e1, e2⟩ := W3.2 k _ (List.getElem?_eq_getElem hlt)
      exact ⟨ds[k], kvs, by rw [List.getElem?_map, List.getElem?_eq_getElem hlt]; rfl, e1.ex e id, e2⟩
    obtain ⟨d0, kv0, g0, f0, D0⟩ := dk H3 ExB.refl 0 (Nat.zero_le _)
    refine ⟨_, rfl, _, rfl, p, _, _, _, rfl, rfl, SqL.of e3, at_of (j := 0) rfl g0, ?_⟩
    refine ⟨d0, kv0, rfl, f0.rd, _, rfl, t, rk (row0 ns.length), rfl, f0.rd, by rw [rk_kV]; exact et.sqt, ?_⟩
    rw [D0.get r0 l0, List.drop_zero, ← goL_len]
    refine ⟨_, _, rfl, rfl, _, rfl, ?_⟩
    rw [decide_eq_false (by omega)]
    refine iteF ⟨Nat.zero_le _, fun D nD => ?_⟩
    have x4 : Ex H3 (upd H3 D (.lst [])) := ex_new nD
    have eD : (upd H3 D (.lst [])) D = some (.lst (([] : List Bool).map V.bl)) := upd_same
    have et4 := et.ex x4
    show tSeq _ _ _ _ _
    generalize upd H3 D (.lst []) = H4 at x4 eD et4 ⊢
    refine ⟨_, rfl, a, _, rfl, (y3.trans x4).sqt hT, for_it (walk_enT (xs := gs.map V.int)) (fun k σ H6 => ∃ (ht : Addr) (hx : List Int) (i2 : Nat) (bs : List Bool) (v6 v7 v8 v9 : Option V), σ = [some (.ref a), some (.ref r), some (.int (i2 : Nat)), some (.ref p), some (.ref ht), some (.ref D), v6, v7, v8, v9] ∧ Ex H3 H6 ∧ FTup H6 ht (hx.map V.int) ∧ IsRow hx ∧ hx.length = ns.length ∧ H6 D = some (.lst (bs.map V.bl)) ∧ bs.length = k ∧ i2 < (goL ns (gs.drop k) hx).length ∧
      (goL ns gs (row0 ns.length))[i]? = ((goL ns (gs.drop k) hx)[i2]?).map (bs ++ ·)) ⟨t, row0 ns.length, i, [], none, none, none, none, rfl, x4, et4, r0, l0, eD, rfl, hi, by simp⟩ (fun k σ H6 _ ⟨_, _, _, _, _, _, _, _, _, x, _⟩ => (y3.trans x).sqt hT) ?_ ?_⟩
    · rintro k x σ H6 H6' hk ⟨ht, hx, i2, bs, v6, v7, v8, v9, rfl, x6, eh, hRx, hlx, eD6, hbl, hi2, hgo⟩ ⟨T, x', y', rfl, nT, rfl, ex1, ex2⟩
      rw [List.length_map] at hk
      cases ex1
      have ex2' : (gs.map V.int)[k]? = some y' := ex2
      rw [row_get hk] at ex2'
      cases ex2'
      obtain ⟨gp, eg, hg⟩ := book_at hB hk
      have ed : gs.drop k = gs.getD k 0 :: gs.drop (k + 1) := by
        have := List.drop_eq_getElem_cons hk
        rw [this, List.getD_eq_getElem?_getD, List.getElem?_eq_getElem hk]; rfl
      rw [ed] at hgo hi2
      have x7 : Ex H6 (upd H6 T (.tup [.int (k : Nat), .int (gs.getD k 0)])) := ex_new nT
      have eT : (upd H6 T (.tup [.int (k : Nat), .int (gs.getD k 0)])) T = some (.tup [.int (k : Nat), .int (gs.getD k 0)]) := upd_same
      have x67 := x6.trans x7
      have eh7 := eh.ex x7
      have eD7 := Ex.lst x7 eD6
      generalize upd H6 T (.tup [.int (k : Nat), .int (gs.getD k 0)]) = H7 at x7 eT x67 eh7 eD7 ⊢
      refine ⟨T, _, rfl, SqT.of eT, rfl, _, _, rfl, _, _, rfl, rfl, ?_⟩
      obtain ⟨d, kv, gd, fd1, Dd⟩ := dk H7 x67 (k + 1) (by omega)
      refine ⟨_, rfl, _, rfl, _, _, rfl, rfl, p, _, _, _, rfl, rfl, SqL.of (Ex.lst x67 e3), at_of (j := k + 1) (by omega) gd, ?_⟩
      refine ⟨d, kv, rfl, fd1.rd, _, rfl, ht, rk hx, rfl, fd1.rd, by rw [rk_kV]; exact eh7.sqt, ?_⟩
      rw [Dd.get hRx hlx, ← goL_len]
      refine ⟨_, rfl, _, rfl, _, _, rfl, rfl, ?_⟩
      refine ⟨fun σ H8 => ∃ (ht2 : Addr) (hx2 : List Int) (i3 : Nat) (bb : Bool) (v6 v7 v8 : Option V), σ = [some (.ref a), some (.ref r), some (.int (i3 : Nat)), some (.ref p), some (.ref ht2), some (.ref D), v6, v7, v8, some (.bl bb)] ∧ Ex H3 H8 ∧ FTup H8 ht2 (hx2.map V.int) ∧ IsRow hx2 ∧ hx2.length = ns.length ∧ H8 D = some (.lst (bs.map V.bl)) ∧ i3 < (goL ns (gs.drop (k + 1)) hx2).length ∧
        (goL ns (gs.getD k 0 :: gs.drop (k + 1)) hx)[i2]? = ((goL ns (gs.drop (k + 1)) hx2)[i3]?).map (bb :: ·), ?_, ?_⟩
      · refine ⟨_, rfl, _, rfl, ?_⟩
        by_cases hc : (goL ns (gs.drop (k + 1)) hx).length ≤ i2
        · have hc' : (((goL ns (gs.drop (k + 1)) hx).length : Nat) : Int) ≤ (i2 : Int) := by omega
          rw [decide_eq_true hc']
          refine iteT ⟨_, rfl, _, rfl, _, _, rfl, rfl, ?_⟩
          refine ⟨_, rfl, _, rfl, ht, hx, gp, by rw [eg]; rfl, eh7, by omega, by omega, fun u H8 x8 e8 => ?_⟩
          have ech := goL_change (rr := ns) (gs := gs.drop (k + 1)) (x := hx) (g := gs.getD k 0) hc
          have egp : (gs.getD k 0).toNat = gp := by rw [eg, Int.toNat_natCast]
          rw [egp] at ech
          have hlen : i2 - (goL ns (gs.drop (k + 1)) hx).length < (goL ns (gs.drop (k + 1)) (swL hx gp)).length := by
            have h2 : i2 < (List.map (false :: ·) (goL ns (gs.drop (k + 1)) hx) ++ List.map (true :: ·) (goL ns (gs.drop (k + 1)) (swL hx (gs.getD k 0).toNat))).length := hi2
            rw [List.length_append, List.length_map, List.length_map, egp] at h2
            omega
          refine ⟨u, swL hx gp, i2 - (goL ns (gs.drop (k + 1)) hx).length, true, some (.int (k : Nat)), some (.int (gs.getD k 0)), some (.int ((goL ns (gs.drop (k + 1)) hx).length : Nat)), ?_, x67.trans x8, e8, sw_row (by omega) hRx, by rw [sw_len (by omega)]; exact hlx, Ex.lst x8 eD7, hlen, ech⟩
          show [some (V.ref a), some (V.ref r), some (V.int ((i2 : Int) - (((goL ns (gs.drop (k + 1)) hx).length : Nat) : Int))), some (V.ref p), some (V.ref u), some (V.ref D), some (V.int (k : Nat)), some (V.int (gs.getD k 0)), some (V.int ((goL ns (gs.drop (k + 1)) hx).length : Nat)), some (V.bl (decide ((((goL ns (gs.drop (k + 1)) hx).length : Nat) : Int) ≤ (i2 : Int))))] = _
          rw [decide_eq_true hc', show ((i2 - (goL ns (gs.drop (k + 1)) hx).length : Nat) : Int) = (i2 : Int) - (((goL ns (gs.drop (k + 1)) hx).length : Nat) : Int) by omega]
        · have hc' : ¬ (((goL ns (gs.drop (k + 1)) hx).length : Nat) : Int) ≤ (i2 : Int) := by omega
          rw [decide_eq_false hc']
          exact iteF ⟨ht, hx, i2, false, some (.int (k : Nat)), some (.int (gs.getD k 0)), some (.int ((goL ns (gs.drop (k + 1)) hx).length : Nat)), by
            show [some (V.ref a), some (V.ref r), some (V.int (i2 : Nat)), some (V.ref p), some (V.ref ht), some (V.ref D), some (V.int (k : Nat)), some (V.int (gs.getD k 0)), some (V.int ((goL ns (gs.drop (k + 1)) hx).length : Nat)), some (V.bl (decide ((((goL ns (gs.drop (k + 1)) hx).length : Nat) : Int) ≤ (i2 : Int))))] = _
            rw [decide_eq_false hc'], x67, eh7, hRx, hlx, eD7, by omega, goL_stay (by omega)⟩
      · rintro σ H8 ⟨ht2, hx2, i3, bb, v6, v7, v8, rfl, x8, e8, hR2, hl2, eD8, hi3, hgo2⟩
        refine ⟨_, rfl, .inl ⟨rfl, _, SqL.of eD8⟩, _, rfl, D, _, _, rfl, rfl, eD8, by rw [List.length_map, hbl, sl]; omega, ?_⟩
        refine ⟨ht2, hx2, i3, bs ++ [bb], _, _, _, _, rfl, x8.then (ex_set eD8) fun y hy => .inl (hy ▸ nD), e8.ex (ex_set eD8), hR2, hl2, by rw [upd_same, List.map_append]; rfl, by rw [List.length_append, hbl]; rfl, hi3, ?_⟩
        rw [hgo, hgo2, Option.map_map]
        congr 1
        funext z
        simp
    · rintro σ H6 ⟨ht, hx, i2, bs, v6, v7, v8, v9, rfl, x6, eh, hRx, hlx, eD6, hbl, hi2, hgo⟩
      rw [List.length_map, List.drop_length] at hgo hi2
      rw [goL_one hi2] at hgo
      refine ⟨_, rfl, D, _, rfl, .inl ⟨SqL.of eD6, fun z H7 x7 nz e7 => q bs z H7 (by rw [hgo]; simp) ((y3.trans x6).trans x7) (SqT.of e7)⟩⟩
end
end K70
namespace K70
open PySem PySem.Spec PyProof.Rows L2 GxR MM
section
variable {P : Program} {w : World} {K : PySem.W.Frag} {mg : Str → Option Value} {base : Heap} {f : Addr} {fd : FuncData} {n : Nat}
theorem key_ix {m : Nat} {fw : List Int → Nat} {kvs : List (List Key × V)} (h : DW m fw kvs) {y : List Int} (hr : IsRow y) (hl : y.length = m) (hf : 0 < fw y) : ∃ j, j < kvs.length ∧ (kvs[j]?).map (·.1) = some (rk y) := by
  obtain ⟨p, hp, e⟩ := List.mem_map.mp ((h.key hr hl).mpr hf)
  obtain ⟨j, hj, ej⟩ := List.getElem_of_mem hp
  exact ⟨j, hj, by rw [List.getElem?_eq_getElem hj, ej]; exact congrArg some e⟩
/-- what musts tells -/
def MustsV (H0 H : Hp) (m : Nat) (gs ns : List Int) (v : V) : Prop := (wN (row0 m) gs ns = 0 ∧ v = .non) ∨ (0 < wN (row0 m) gs ns ∧ ∃ p al ne : Addr, v = .ref p ∧ H0 al = none ∧ H0 ne = none ∧ H p = some (.tup [.ref al, .ref ne]) ∧ H al = some (.lst ((selN (fun k => decide (stayN m gs ns k = 0)) gs.length).map V.int)) ∧ H ne = some (.lst ((selN (fun k => decide (chgN m gs ns k = 0)) gs.length).map V.int)))
theorem MustsV.ex {B : Addr → Prop} {H0 H H' : Hp} {m : Nat} {gs ns : List Int} {v : V} (h : MustsV H0 H m gs ns v) (e : ExB B H H') (hb : ∀ a, B a → H0 a ≠ none) : MustsV H0 H' m gs ns v := by
  rcases h with h | ⟨h, p, al, ne, e1, n1, n2, e2, e3, e4⟩
  · exact .inl h
  · exact .inr ⟨h, p, al, ne, e1, n1, n2, e.tup e2, e.lst e3 (fun z => hb _ z n1), e.lst e4 (fun z => hb _ z n2)⟩
def spMusts (K : PySem.W.Frag) (Pr Pb Pm : Addr) : Sp := fun vs H Q _ => ∃ (a r : Addr) (gs ns : List Int), vs = [.ref a, .ref r] ∧ SqT K H a (gs.map V.int) ∧ FTup H r (ns.map V.int) ∧ TabG H Pr ∧ TabG H Pb ∧ TabG H Pm ∧ IsRow ns ∧ ns.length ≤ 6 ∧ BookOk ns.length gs ∧ gs.length ≤ 100 ∧
  ∀ v H', Ex H H' → MustsV H H' ns.length gs ns v → Q v H'
theorem d_musts {c Pr Pb Pm : Addr} (F : FnP K "musts" s_musts f fd) (g : mg "musts" = some (.ref f)) (B : Bl mg) (C_check_asked : CallD P w K mg base (n + 1) "check_asked" ["book", "row"] (spAsked K Pr Pb)) (C_ways_ahead : CallD P w K mg base (n + 1) "ways_ahead" ["book", "many"] (spAhead K P w)) (C_ways_behind : CallD P w K mg base (n + 1) "ways_behind" ["book", "row"] (spBehind K P w)) (C_swapped : CallD P w K mg base n "swapped" ["row", "gap"] spSwF)
    (TB : TabB base mg c Pm) (hc : ∀ oc od fd osl, K.lookup f = some ⟨oc, od, .func fd, osl⟩ → fd.code = .ref c) : CallD P w K mg base (n + 2) "musts" ["book", "row"] (spMusts K Pr Pb Pm) := by
  refine callD F g sc_musts (fun _ _ _ _ _ _ us hl => match us, hl with | [_, _], _ => rfl) (fun vs H Q E h => ?_) (fun cdv A outer s H vs Q E hcd0 hr hG h => ?_)
  · obtain ⟨a, r, gs, ns, rfl, _⟩ := h; rfl
  · obtain ⟨a, r, gs, ns, rfl, hT, hr0, hPr, hPb, hPm, hR, h6, hB, h100, q⟩ := h
    have hcd : cdv = .ref c := by
      obtain ⟨oc, od, dV, kV, doc, pm, an, cdv', ct, osl, e1, lk, _⟩ := F.ex
      rw [← hcd0 _ _ _ _ lk]; exact hc _ _ _ _ lk
    subst hcd
    refine ⟨_, (pss_cons (ps_expr (pe_c C_check_asked hr hG (pa_cons (pv 0) (pa_cons (pv 1) pa_nil))))
      (pss_cons (ps_set (i := 2) sc_musts.nd rfl (Or.inl rfl) (pe_c C_ways_ahead hr hG (pa_cons (pv 0) (pa_cons (pe_callB (k_len (K := K) rfl) (by rfl) B.len PySem.boot_len (pa_cons (pv 1) pa_nil)) pa_nil))))
      (pss_cons (ps_if (pt_cmp (pc_dnotinF (K := K) (P := P) (w := w) rfl rfl rfl (hu_of hr) (pv 1) (pe_ix (k_ixl (K := K) rfl) (pv 2) (pe_un un_neg pe_int) (fun _ _ => rfl))))
      (pss_one (ps_ret pe_non))
      pss_nil)
      (pss_cons (ps_set (i := 3) sc_musts.nd rfl (Or.inl rfl) (pe_c C_ways_behind hr hG (pa_cons (pv 0) (pa_cons (pv 1) pa_nil))))
      (pss_cons (ps_set (i := 4) sc_musts.nd rfl (Or.inl rfl) (pe_lst pa_nil))
      (pss_cons (ps_set (i := 5) sc_musts.nd rfl (Or.inl rfl) (pe_lst pa_nil))
      (pss_cons (ps_for PassesOwn.never rfl (pi_enT (K := K) rfl (by rfl) B.enumerate (pa_cons (pv 0) pa_nil)) (k_tup (K := K) rfl (pg_tup rfl (pgs_cons (pg_name (i := 6) sc_musts.nd rfl (Or.inl rfl)) (pgs_cons (pg_name (i := 9) sc_musts.nd rfl (Or.inr rfl)) pgs_nil))))
      (pss_cons (ps_set (i := 7) sc_musts.nd rfl (Or.inl rfl) (pe_ix (k_ixl (K := K) rfl) (pv 2) (pv 6) (fun _ _ => rfl)))
      (pss_cons (ps_set (i := 8) sc_musts.nd rfl (Or.inr rfl) (pe_ix (k_ixl (K := K) rfl) (pv 3) (pe_op op_add (pv 6) pe_int) (fun _ _ => rfl)))
      (pss_cons (ps_if (pt_not (pt_val (pe_lock (pe_anyG (caps := [("after", 8)]) hr hG (by rfl) B.any (by decide +kernel) TB rfl (genk_by (N := N_musts) (sc := defScope s_musts) (by decide +kernel)) (pi_keysF (P := P) (w := w) rfl rfl (pv 7)) rfl (fun _ _ _ _ _ _ hr hG => (pe_cmp (pc_dinX (K := K) (P := P) (w := w) rfl rfl rfl (hu_of hr) (pv 0) (pv 1)))) (fun _ => rfl)))))
      (pss_one (ps_expr (k_bm (K := K) rfl PySem.F.plainAttrs_list PySem.F.slot_list_append PySem.F.type_list_append mt_append (pv 4) (pa_cons (pv 6) pa_nil))))
      pss_nil)
      (pss_one (ps_if (pt_not (pt_val (pe_lock (pe_anyG (caps := [("after", 8), ("gap", 9)]) hr hG (by rfl) B.any (by decide +kernel) TB rfl (genk_by (N := N_musts) (sc := defScope s_musts) (by decide +kernel)) (pi_keysF (P := P) (w := w) rfl rfl (pv 7)) rfl (fun _ _ _ _ _ _ hr hG => (pe_cmp (pc_dinX (K := K) (P := P) (w := w) rfl rfl rfl (hu_of hr) (pe_c C_swapped hr hG (pa_cons (pv 0) (pa_cons (pv 2) pa_nil))) (pv 1)))) (fun _ => rfl)))))
      (pss_one (ps_expr (k_bm (K := K) rfl PySem.F.plainAttrs_list PySem.F.slot_list_append PySem.F.type_list_append mt_append (pv 5) (pa_cons (pv 6) pa_nil))))
      pss_nil))))))
      (pss_one (ps_ret (pe_tup (pa_cons (pv 4) (pa_cons (pv 5) pa_nil)))))))))))), ?_⟩
    have sl : sizeLine = 16777216 := by decide
    generalize hm : ns.length = m at hB q h6
    have h1 : 1 ≤ m := by have := hR.1; omega
    have h9 : m ≤ 9 := by omega
    refine ⟨_, rfl, _, rfl, a, r, gs, ns, rfl, hT, hr0.sqt, hPr, hPb, hR, by omega, by rw [hm]; exact hB, fun H1 x1 => ?_⟩
    refine ⟨_, rfl, _, rfl, r, _, rfl, .inr ((hr0.ex x1).sqt), a, gs, m, by rw [List.length_map, hm]; rfl, x1.sqt hT, h1, h6, hB, h100, fun pA ds H2 x2 eA WA => ?_⟩
    have y2 := x1.trans x2
    have hil : gs.length < ds.length := by rw [WA.1]; omega
    have gt : (ds.map V.ref)[gs.length]? = some (.ref ds[gs.length]) := by rw [List.getElem?_map, List.getElem?_eq_getElem hil]; rfl
    obtain ⟨kvl, edl, hWl⟩ := WA.2 gs.length _ (List.getElem?_eq_getElem hil)
    rw [List.take_length] at hWl
    -- row not in ahead[-1]
    refine ⟨_, rfl, _, rfl, 1, rfl, pA, _, _, _, rfl, rfl, SqL.of eA, (at_neg (by rw [List.length_map, WA.1])).trans gt, ?_⟩
    refine ⟨_, _, r, rk ns, rfl, rfl, edl.rd, by rw [rk_kV]; exact (hr0.ex y2).sqt, _, rfl, ?_⟩
    rw [hWl.has hR hm]
    by_cases hw : 0 < wN (row0 m) gs ns
    · rw [decide_eq_true hw]
      refine iteF ?_
      refine ⟨_, rfl, _, rfl, a, r, gs, ns, m, rfl, y2.sqt hT, hr0.ex y2, hR, hm, h6, hB, h100, fun pB es H3 x3 npB nes eB WB => ?_⟩
      have y3 := y2.trans x3
      have eA3 := Ex.lst x3 eA
      have WA3 := WA.ex x3
      have dne : ∀ d ∈ ds, H2 d ≠ none := fun d hd z => by
        obtain ⟨k, hk, e⟩ := List.getElem_of_mem hd
        obtain ⟨kv, e2, _⟩ := WA.2 k d (by rw [List.getElem?_eq_getElem hk, e])
        rw [e2.1] at z; cases z
      refine ⟨Nat.zero_le _, fun al nal => ?_⟩
      have x4 : Ex H3 (upd H3 al (.lst [])) := ex_new nal
      have e4 : (upd H3 al (.lst [])) al = some (.lst []) := upd_same
      have y4 := y3.trans x4
      have eA4 := Ex.lst x4 eA3
      have eB4 := Ex.lst x4 eB
      have WA4 := WA3.ex x4
      have WB4 := WB.ex x4
      have nalH : H al = none := y3.fresh nal
      show tSeq _ _ _ _ _
      generalize upd H3 al (.lst []) = H4 at e4 y4 eA4 eB4 WA4 WB4 ⊢
      refine ⟨Nat.zero_le _, fun ne nne => ?_⟩
      have x5 : Ex H4 (upd H4 ne (.lst [])) := ex_new nne
      have e5 : (upd H4 ne (.lst [])) ne = some (.lst []) := upd_same
      have alne : al ≠ ne := fun z => by rw [z, nne] at e4; cases e4
      have e4' := Ex.lst x5 e4
      have y5 := y4.trans x5
      have eA5 := Ex.lst x5 eA4
      have eB5 := Ex.lst x5 eB4
      have WA5 := WA4.ex x5
      have WB5 := WB4.ex x5
      have nneH : H ne = none := y4.fresh nne
      have pAal : pA ≠ al := fun z => by rw [z, nal] at eA3; cases eA3
      have pBal : pB ≠ al := fun z => by rw [z, nal] at eB; cases eB
      have pAne : pA ≠ ne := fun z => by rw [z, nne] at eA4; cases eA4
      have pBne : pB ≠ ne := fun z => by rw [z, nne] at eB4; cases eB4
      show tSeq _ _ _ _ _
      generalize upd H4 ne (.lst []) = H5 at e5 e4' y5 eA5 eB5 WA5 WB5 ⊢
      refine ⟨_, rfl, a, _, rfl, y5.sqt hT, for_it (walk_enT (xs := gs.map V.int)) (fun i σ H6 => ∃ v6 v7 v8 v9 : Option V, σ = [some (.ref a), some (.ref r), some (.ref pA), some (.ref pB), some (.ref al), some (.ref ne), v6, v7, v8, v9] ∧ Ex H H6 ∧ H6 pA = some (.lst (ds.map V.ref)) ∧ H6 pB = some (.lst (es.map V.ref)) ∧ WaysF P w H6 m (row0 m) gs (gs.length + 1) ds ∧ BehindF P w H6 m ns gs es ∧ H6 al = some (.lst ((selN (fun k => decide (stayN m gs ns k = 0)) i).map V.int)) ∧ H6 ne = some (.lst ((selN (fun k => decide (chgN m gs ns k = 0)) i).map V.int))) ⟨none, none, none, none, rfl, y5, eA5, eB5, WA5, WB5, e4', e5⟩ (fun i σ H6 _ ⟨_, _, _, _, _, x, _⟩ => x.sqt hT) ?_ ?_⟩
      · rintro i x σ H6 H6' hi ⟨v6, v7, v8, v9, rfl, x6, eA6, eB6, WA6, WB6, eal6, ene6⟩ ⟨T, x', y', rfl, nT, rfl, g1, g2⟩
        rw [List.length_map] at hi
        have g1 : x' = .int (i : Int) := (Option.some.inj g1).symm
        obtain ⟨gp, eg, hg⟩ := book_at hB hi
        have egp : gapN gs i = gp := by unfold gapN; rw [eg, Int.toNat_natCast]
        have g2 : y' = .int (gp : Int) := by
          have g2 : (gs.map V.int)[i]? = some y' := g2
          rw [row_get hi, eg] at g2; exact (Option.some.inj g2).symm
        subst g1 g2
        have x7 : Ex H6 (upd H6 T (.tup [.int (i : Int), .int (gp : Int)])) := ex_new nT
        have y7 := x6.trans x7
        have eA7 := Ex.lst x7 eA6
        have eB7 := Ex.lst x7 eB6
        have WA7 := WA6.ex x7
        have WB7 := WB6.ex x7
        have eal7 := Ex.lst x7 eal6
        have ene7 := Ex.lst x7 ene6
        refine ⟨T, _, rfl, SqT.of upd_same, rfl, _, _, rfl, _, _, rfl, rfl, ?_⟩
        show tSeq _ _ _ _ _
        generalize upd H6 T (.tup [.int (i : Int), .int (gp : Int)]) = H7 at y7 eA7 eB7 WA7 WB7 eal7 ene7 ⊢
        have hiA : i < ds.length := by rw [WA7.1]; omega
        have hiB : i + 1 < es.length := by rw [WB7.1]; omega
        have gA : (ds.map V.ref)[i]? = some (.ref ds[i]) := by rw [List.getElem?_map, List.getElem?_eq_getElem hiA]; rfl
        have gB : (es.map V.ref)[i + 1]? = some (.ref es[i + 1]) := by rw [List.getElem?_map, List.getElem?_eq_getElem hiB]; rfl
        obtain ⟨kA, edA, hWA⟩ := WA7.2 i _ (List.getElem?_eq_getElem hiA)
        obtain ⟨kB, edB, hWB⟩ := WB7.2 (i + 1) _ (List.getElem?_eq_getElem hiB)
        have nEq : es[i + 1] ≠ ds[i] := fun z => by
          have := nes _ (List.getElem_mem hiB)
          exact dne _ (List.getElem_mem hiA) (by rw [← z]; exact this)
        refine ⟨_, rfl, _, rfl, pA, _, _, _, rfl, rfl, SqL.of eA7, at_of rfl gA, ?_⟩
        refine ⟨_, rfl, _, rfl, _, _, rfl, rfl, pB, _, _, _, rfl, rfl, SqL.of eB7, at_of (j := i + 1) (by omega) gB, ?_⟩
        generalize hD : ds[i] = D at edA nEq
        generalize hE : es[i + 1] = E' at edB nEq
        -- not any(here in after for here in rows)
        refine ⟨D, _, edA.1, trivial, fun od => ?_⟩
        have xl := ex_setX (o := .frz od (.ext (DTp P w D kA))) edA.1
        have eL : (upd H7 D (.frz od (.ext (DTp P w D kA)))) D = some (.frz od (.ext (DTp P w D kA))) := upd_same
        have edB' : DFo P w (upd H7 D (.frz od (.ext (DTp P w D kA)))) E' kB := edB.ex xl nEq
        have kfA : KeysF (upd H7 D (.frz od (.ext (DTp P w D kA)))) kA := edA.2.ex xl
        have tbm : TabG (upd H7 D (.frz od (.ext (DTp P w D kA)))) Pm := by
          exact xl.tab (y7.tab hPm)
        refine ⟨_, rfl, D, od, kA, rfl, eL, ?_⟩
        refine gy_told walk_keysF tbm (fun j Hb => Ex (upd H7 D (.frz od (.ext (DTp P w D kA)))) Hb ∧ ∀ j' y, j' < j → ((kvX kA)[j']?).map (·.1) = some (rk y) → ¬ 0 < wN ns (gs.drop (i + 1)).reverse y) (fun Hb => Ex (upd H7 D (.frz od (.ext (DTp P w D kA)))) Hb) (∃ y, IsRow y ∧ y.length = m ∧ 0 < wN (row0 m) (gs.take i) y ∧ 0 < wN ns (gs.drop (i + 1)).reverse y) (fun H8 x8 => ⟨x8, fun j' y h => absurd h (Nat.not_lt_zero _)⟩) (fun j Hb _ y => y.1.frzT eL) ?_ ?_ ?_
        · rintro j x Hb Hc hj ⟨xb, hb⟩ ⟨rfl, k, q0, v, ek0, rfl⟩
          have ek : (kvX kA)[j]? = some (k, v) := by unfold kvX; rw [List.getElem?_map, ek0]; rfl
          have eq0 : FTup Hc q0 (k.map kV) := (kfA.ex xb) _ (List.mem_of_getElem? ek0)
          obtain ⟨y, rfl, hRy, hly, hfy, _⟩ := hWA.at ek
          refine ⟨_, rfl, _, rfl, _, _, q0, rk y, rfl, rfl, (edB'.ex xb id).rd, eq0.sqt, ?_⟩
          rw [hWB.has hRy hly]
          refine ⟨_, rfl, fun z => ⟨⟨y, hRy, hly, hfy, of_decide_eq_true z⟩, xb⟩, fun z => ⟨xb, fun j' y' hj' hk' => ?_⟩⟩
          rcases Nat.lt_or_ge j' j with c | c
          · exact hb j' y' c hk'
          · have : j' = j := by omega
            subst this
            rw [ek] at hk'
            rw [← rk_inj (Option.some.inj hk')]
            exact fun p => z (decide_eq_true p)
        · rintro Hb ⟨xb, hb⟩
          refine ⟨?_, xb⟩
          rintro ⟨y, hRy, hly, hfy, hby⟩
          obtain ⟨j, hj, ej⟩ := key_ix hWA hRy hly hfy
          exact hb j y (by unfold kvX at hj; rwa [List.length_map] at hj) ej hby
        intro b H9 x9 hb
        rw [← stay_iff h1 h9 hB hm] at hb
        refine ⟨x9.frzT eL, _, rfl, ?_⟩
        have x10 : Ex H7 (upd H9 D (.ext (DTp P w D kA))) := ex_lockX edA.1 x9
        have y10 := y7.trans x10
        have eA10 := Ex.lst x10 eA7
        have eB10 := Ex.lst x10 eB7
        have WA10 := WA7.ex x10
        have WB10 := WB7.ex x10
        have eal10 := Ex.lst x10 eal7
        have ene10 := Ex.lst x10 ene7
        have edA10 := edA.ex x10 id
        have edB10 := edB.ex x10 id
        generalize upd H9 D (.ext (DTp P w D kA)) = H10 at y10 eA10 eB10 WA10 WB10 eal10 ene10 edA10 edB10
        apply later (R := fun H11 => ExB (fun z => z = al) H10 H11 ∧ H11 al = some (.lst ((selN (fun k => decide (stayN m gs ns k = 0)) (i + 1)).map V.int)))
        · intro rest
          cases b with
          | false =>
            have z : stayN m gs ns i = 0 := Nat.eq_zero_of_not_pos fun z => Bool.false_ne_true (hb.mpr z)
            refine iteT ⟨_, rfl, .inl ⟨rfl, _, SqL.of eal10⟩, _, rfl, al, _, _, rfl, rfl, eal10, ?_, ?_⟩
            · rw [List.length_map]; have := selN_len (fun k => decide (stayN m gs ns k = 0)) i; omega
            · have xU : ExB (fun z => z = al) H10 (upd H10 al (.lst ((selN (fun k => decide (stayN m gs ns k = 0)) i).map V.int ++ [.int (i : Int)]))) := ex_set eal10
              have eU : (upd H10 al (.lst ((selN (fun k => decide (stayN m gs ns k = 0)) i).map V.int ++ [.int (i : Int)]))) al = some (.lst ((selN (fun k => decide (stayN m gs ns k = 0)) (i + 1)).map V.int)) := by
                rw [upd_same, selN_succ, if_pos (decide_eq_true z), List.map_append]; rfl
              generalize upd H10 al _ = U at xU eU ⊢
              exact rest U ⟨xU, eU⟩
          | true =>
            have z : stayN m gs ns i ≠ 0 := fun z => by have := hb.mp rfl; omega
            refine iteF (rest H10 ⟨ExB.refl, ?_⟩)
            rw [selN_succ, if_neg (by rw [decide_eq_false z]; exact Bool.false_ne_true)]; exact eal10
        rintro H11 ⟨x11, eal11⟩
        have y11 : Ex H H11 := y10.then x11 fun z hz => .inl (by rw [hz]; exact nalH)
        have nA := fun z => pAal (z : pA = al)
        have eA11 := x11.lst eA10 nA
        have eB11 := x11.lst eB10 (fun z => pBal z)
        have ene11 := x11.lst ene10 (fun z => alne (z : ne = al).symm)
        have alD : ∀ {d kv}, DFo P w H10 d kv → d ≠ al := fun {d kv} e z => by have := e.1; rw [z, eal10] at this; cases this
        have WA11 : WaysF P w H11 m (row0 m) gs (gs.length + 1) ds := ⟨WA10.1, fun k d hk => let ⟨kv, a1, a2⟩ := WA10.2 k d hk; ⟨kv, a1.ex x11 (alD a1), a2⟩⟩
        have WB11 : BehindF P w H11 m ns gs es := ⟨WB10.1, fun k d hk => let ⟨kv, a1, a2⟩ := WB10.2 k d hk; ⟨kv, a1.ex x11 (alD a1), a2⟩⟩
        have edA11 := edA10.ex x11 (alD edA10)
        have edB11 := edB10.ex x11 (alD edB10)
        -- not any(swapped(here, gap) in after for here in rows)
        refine ⟨D, _, edA11.1, trivial, fun od2 => ?_⟩
        have xl2 := ex_setX (o := .frz od2 (.ext (DTp P w D kA))) edA11.1
        have eL2 : (upd H11 D (.frz od2 (.ext (DTp P w D kA)))) D = some (.frz od2 (.ext (DTp P w D kA))) := upd_same
        have edB2 : DFo P w (upd H11 D (.frz od2 (.ext (DTp P w D kA)))) E' kB := edB11.ex xl2 nEq
        have kfA2 : KeysF (upd H11 D (.frz od2 (.ext (DTp P w D kA)))) kA := edA11.2.ex xl2
        have tbm2 : TabG (upd H11 D (.frz od2 (.ext (DTp P w D kA)))) Pm := by
          exact xl2.tab (y11.tab hPm)
        refine ⟨_, rfl, D, od2, kA, rfl, eL2, ?_⟩
        refine gy_told walk_keysF tbm2 (fun j Hb => Ex (upd H11 D (.frz od2 (.ext (DTp P w D kA)))) Hb ∧ ∀ j' y, j' < j → ((kvX kA)[j']?).map (·.1) = some (rk y) → ¬ 0 < wN ns (gs.drop (i + 1)).reverse (swL y (gapN gs i))) (fun Hb => Ex (upd H11 D (.frz od2 (.ext (DTp P w D kA)))) Hb) (∃ y, IsRow y ∧ y.length = m ∧ 0 < wN (row0 m) (gs.take i) y ∧ 0 < wN ns (gs.drop (i + 1)).reverse (swL y (gapN gs i))) (fun H12 x12 => ⟨x12, fun j' y h => absurd h (Nat.not_lt_zero _)⟩) (fun j Hb _ y => y.1.frzT eL2) ?_ ?_ ?_
        · rintro j x Hb Hc hj ⟨xb, hb⟩ ⟨rfl, k, q0, v, ek0, rfl⟩
          have ek : (kvX kA)[j]? = some (k, v) := by unfold kvX; rw [List.getElem?_map, ek0]; rfl
          have eq0 : FTup Hc q0 (k.map kV) := (kfA2.ex xb) _ (List.mem_of_getElem? ek0)
          obtain ⟨y, rfl, hRy, hly, hfy, _⟩ := hWA.at ek
          rw [rk_kV] at eq0
          refine ⟨_, rfl, _, rfl, q0, y, gp, rfl, eq0, by omega, by omega, fun u H13 x13 e13 => ?_⟩
          have hRs := sw_row (g := gp) (by omega) hRy
          have hls : (swL y gp).length = m := by rw [sw_len (by omega)]; exact hly
          refine ⟨_, rfl, _, _, _, rk (swL y gp), rfl, rfl, ((edB2.ex xb id).ex x13 id).rd, by rw [rk_kV]; exact e13.sqt, ?_⟩
          rw [hWB.has hRs hls]
          refine ⟨_, rfl, fun z => ⟨⟨y, hRy, hly, hfy, by rw [egp]; exact of_decide_eq_true z⟩, xb.trans x13⟩, fun z => ⟨xb.trans x13, fun j' y' hj' hk' => ?_⟩⟩
          rcases Nat.lt_or_ge j' j with c | c
          · exact hb j' y' c hk'
          · have : j' = j := by omega
            subst this
            rw [ek] at hk'
            rw [← rk_inj (Option.some.inj hk'), egp]
            exact fun p => z (decide_eq_true p)
        · rintro Hb ⟨xb, hb⟩
          refine ⟨?_, xb⟩
          rintro ⟨y, hRy, hly, hfy, hby⟩
          obtain ⟨j, hj, ej⟩ := key_ix hWA hRy hly hfy
          exact hb j y (by unfold kvX at hj; rwa [List.length_map] at hj) ej hby
        intro b2 H14 x14 hb2
        rw [← chg_iff h1 h9 hB hm (by omega)] at hb2
        refine ⟨x14.frzT eL2, _, rfl, ?_⟩
        have x15 : Ex H11 (upd H14 D (.ext (DTp P w D kA))) := ex_lockX edA11.1 x14
        have y15 := y11.trans x15
        have eA15 := Ex.lst x15 eA11
        have eB15 := Ex.lst x15 eB11
        have WA15 := WA11.ex x15
        have WB15 := WB11.ex x15
        have eal15 := Ex.lst x15 eal11
        have ene15 := Ex.lst x15 ene11
        generalize upd H14 D (.ext (DTp P w D kA)) = H15 at y15 eA15 eB15 WA15 WB15 eal15 ene15
        have neD : ∀ {d kv}, DFo P w H15 d kv → d ≠ ne := fun {d kv} e z => by have := e.1; rw [z, ene15] at this; cases this
        cases b2 with
        | false =>
          have z : chgN m gs ns i = 0 := Nat.eq_zero_of_not_pos fun z => Bool.false_ne_true (hb2.mpr z)
          refine iteT ⟨_, rfl, .inl ⟨rfl, _, SqL.of ene15⟩, _, rfl, ne, _, _, rfl, rfl, ene15, ?_, ?_⟩
          · rw [List.length_map]; have := selN_len (fun k => decide (chgN m gs ns k = 0)) i; omega
          · have xU : ExB (fun z => z = ne) H15 (upd H15 ne (.lst ((selN (fun k => decide (chgN m gs ns k = 0)) i).map V.int ++ [.int (i : Int)]))) := ex_set ene15
            exact ⟨_, _, _, _, rfl, y15.then xU fun z hz => .inl (by rw [hz]; exact nneH), xU.lst eA15 (fun z => pAne z), xU.lst eB15 (fun z => pBne z), ⟨WA15.1, fun k d hk => let ⟨kv, a1, a2⟩ := WA15.2 k d hk; ⟨kv, a1.ex xU (neD a1), a2⟩⟩, ⟨WB15.1, fun k d hk => let ⟨kv, a1, a2⟩ := WB15.2 k d hk; ⟨kv, a1.ex xU (neD a1), a2⟩⟩, xU.lst eal15 (fun z => alne z), by rw [upd_same, selN_succ (fun k => decide (chgN m gs ns k = 0)), if_pos (decide_eq_true z), List.map_append]; rfl⟩
        | true =>
          have z : chgN m gs ns i ≠ 0 := fun z => by have := hb2.mp rfl; omega
          exact iteF ⟨_, _, _, _, rfl, y15, eA15, eB15, WA15, WB15, eal15, by rw [selN_succ (fun k => decide (chgN m gs ns k = 0)), if_neg (by rw [decide_eq_false z]; exact Bool.false_ne_true)]; exact ene15⟩
      · rintro σ H6 ⟨v6, v7, v8, v9, rfl, x6, eA6, eB6, WA6, WB6, eal6, ene6⟩
        rw [List.length_map] at eal6 ene6
        refine ⟨_, rfl, _, rfl, by show 2 ≤ sizeLine; decide, fun p np => ?_⟩
        have x7 : Ex H6 (upd H6 p (.tup [.ref al, .ref ne])) := ex_new np
        exact q (.ref p) _ (x6.trans x7) (.inr ⟨hw, p, al, ne, rfl, nalH, nneH, upd_same, Ex.lst x7 eal6, Ex.lst x7 ene6⟩)
    · rw [decide_eq_false hw]
      exact iteT (q .non H2 y2 (.inl ⟨by omega, rfl⟩))
end
end K70
namespace K70
open PySem PySem.Spec PyProof.Rows L2 GxR MM
section
variable {P : Program} {w : World} {K : PySem.W.Frag} {mg : Str → Option Value} {base : Heap} {f : Addr} {fd : FuncData} {n : Nat}
def unN (told : List Nat) (n : Nat) : List Nat := (List.range n).filter fun k => !decide (k ∈ told)
theorem unN_succ (told : List Nat) (n : Nat) : unN told (n + 1) = unN told n ++ if n ∈ told then [] else [n] := by
  unfold unN
  rw [List.range_succ, List.filter_append]
  by_cases h : n ∈ told
  · rw [if_pos h, List.filter_cons_of_neg (by rw [decide_eq_true h]; decide)]; rfl
  · rw [if_neg h, List.filter_cons_of_pos (by rw [decide_eq_false h]; rfl)]; rfl
theorem unN_len (told : List Nat) (n : Nat) : (unN told n).length ≤ n := by
  unfold unN; exact Nat.le_trans (List.length_filter_le _ _) (by rw [List.length_range]; exact Nat.le_refl _)
theorem mem_cast {k : Nat} {told : List Nat} : ((k : Int) ∈ told.map fun (k : Nat) => (k : Int)) ↔ k ∈ told := by
  rw [List.mem_map]
  exact ⟨fun ⟨x, hx, e⟩ => by have : x = k := by omega
                              exact this ▸ hx, fun h => ⟨k, h, rfl⟩⟩
def spUnused (K : PySem.W.Frag) : Sp := fun vs H Q _ => ∃ (a l : Addr) (gs : List Int) (told : List Nat), vs = [.ref a, .ref l] ∧ SqT K H a (gs.map V.int) ∧ SqL K H l ((told.map fun (k : Nat) => (k : Int)).map V.int) ∧ gs.length < 1000 ∧ ∀ p H', Ex H H' → H' p = some (.tup ((nI (unN told gs.length)).map V.int)) → Q (.ref p) H'
theorem d_law_unused (F : FnP K "_law_unused" s_law_unused f fd) (g : mg "_law_unused" = some (.ref f)) (B : Bl mg) : CallD P w K mg base (n + 1) "_law_unused" ["plan", "used"] (spUnused K) := by
  refine callD F g sc_law_unused (fun _ _ _ _ _ _ us hl => match us, hl with | [_, _], _ => rfl) (fun vs H Q E h => ?_) (fun cdv A outer s H vs Q E _ hr hG h => ?_)
  · obtain ⟨a, l, gs, told, rfl, _⟩ := h; rfl
  · obtain ⟨a, l, gs, told, rfl, hT, hL, hgl, q⟩ := h
    refine ⟨_, (pss_one (ps_ret (k_tupOf (K := K) rfl (by rfl) B.tuple (pe_lc (own := [("k", 2)]) (g := gName 2) rfl sc_law_unused.nd (pi_range1 rfl B.range (pa_cons (pe_callB (k_len (K := K) rfl) (by rfl) B.len PySem.boot_len (pa_cons (pv 0) pa_nil)) pa_nil)) (blkOk_by (N := N_law_unused) (sc := defScope s_law_unused) (by decide +kernel)) (fun _ _ _ _ _ => (pg_name (i := 2) sc_law_unused.nd rfl (by first | exact Or.inl rfl | exact Or.inr rfl))) (fun _ _ _ _ _ => (pts_one (pt_cmpR (k_notIn (K := K) rfl) (pv 2) (pv 1) (by rfl)))) (fun _ _ _ _ _ => (pv 2)))))), ?_⟩
    refine ⟨_, rfl, a, _, rfl, .inr hT, _, by rw [List.length_map], by omega, by omega, fun D nD => ?_⟩
    rw [Int.toNat_natCast]
    refine lc_it walk_range (fun i H2 => Ex H H2 ∧ H2 D = some (.lst ((nI (unN told i)).map V.int))) ⟨ex_new nD, upd_same⟩ (fun _ _ _ _ => trivial) ?_ ?_
    · rintro i x H2' H2 hi ⟨x2, e2⟩ ⟨rfl, ex⟩
      have ex : x = V.int (i : Int) := ex.trans (congrArg V.int (Int.zero_add _))
      subst ex
      refine ⟨rfl, ?_⟩
      refine ⟨_, rfl, _, rfl, l, _, rfl, .inl (x2.sql hL), rfl, flat_ints _, _, rfl, ?_⟩
      have es := unN_succ told i
      have hil : i < 1000 := by omega
      have el : (nI (unN told i)).length = (unN told i).length := by unfold nI; rw [List.length_map]
      rw [if_pos rfl, inV_ints]
      by_cases hin : i ∈ told
      · rw [if_pos hin, List.append_nil] at es
        rw [decide_eq_true (mem_cast.mpr hin)]
        exact iteF ⟨x2, by rw [es]; exact e2⟩
      · rw [if_neg hin] at es
        rw [decide_eq_false (fun z => hin (mem_cast.mp z))]
        refine iteT ⟨_, rfl, _, e2, small1000 (by rw [List.length_map, el]; have := unN_len told i; omega), x2.then (ex_set e2) fun y hy => .inl (hy ▸ nD), ?_⟩
        rw [upd_same, es]
        unfold nI
        rw [List.map_append, List.map_append]; rfl
    rintro H2 ⟨x2, e2⟩
    refine ⟨D, _, rfl, .inl ⟨SqL.of e2, fun p H3 x3 np e3 => ?_⟩⟩
    exact q p H3 (x2.trans x3) e3
/-- the row that comes where the two change at some meetings alone -/
def ledT (gs : List Int) (x : List Int) (told : List Nat) : List Int := told.foldl (fun y k => swL y (gapN gs k)) x
theorem ledT_ok {m : Nat} {gs : List Int} (hB : BookOk m gs) : ∀ (told : List Nat) {x : List Int}, (∀ k ∈ told, k < gs.length) → IsRow x → x.length = m → IsRow (ledT gs x told) ∧ (ledT gs x told).length = m
  | [], _, _, hr, hl => ⟨hr, hl⟩
  | k :: told, x, ht, hr, hl => by
    have hg := gap_lt hB (ht k List.mem_cons_self)
    exact ledT_ok hB told (x := swL x (gapN gs k)) (fun z hz => ht z (List.mem_cons_of_mem _ hz)) (sw_row (by omega) hr) (by rw [sw_len (by omega)]; exact hl)
theorem ledT_snoc (gs x : List Int) (told : List Nat) (k : Nat) : ledT gs x (told ++ [k]) = swL (ledT gs x told) (gapN gs k) := by
  unfold ledT
  rw [List.foldl_append]; rfl
theorem ledT_word {m : Nat} {gs : List Int} (hB : BookOk m gs) : ∀ (told u : List Nat), (∀ k ∈ told, k < gs.length) → ledT gs (ofF m (Pw u)) told = ofF m (Pw (u ++ told.map (gapN gs)))
  | [], u, _ => by rw [List.map_nil, List.append_nil]; rfl
  | k :: told, u, h => by
    have ih := ledT_word hB told (u ++ [gapN gs k]) fun z hz => h z (List.mem_cons_of_mem _ hz)
    rw [List.append_assoc] at ih
    refine Eq.trans ?_ ih
    show ledT gs (swL (ofF m (Pw u)) (gapN gs k)) told = _
    rw [sw_ofF (gap_lt hB (h k List.mem_cons_self))]
    congr 1
    exact ofF_congr fun j _ => (Pw_app u [gapN gs k] j).symm
theorem nat_gap (gs : List Int) : (List.range gs.length).map (gapN gs) = nat gs := by
  unfold nat
  refine List.ext_getElem? fun i => ?_
  rw [List.getElem?_map, List.getElem?_map]
  rcases Nat.lt_or_ge i gs.length with c | c
  · rw [List.getElem?_range c, List.getElem?_eq_getElem c]
    show some (gapN gs i) = some _
    unfold gapN
    rw [List.getD_eq_getElem?_getD, List.getElem?_eq_getElem c]; rfl
  · rw [List.getElem?_eq_none (by rw [List.length_range]; exact c), List.getElem?_eq_none c]; rfl
theorem led_come {m : Nat} {gs : List Int} {told : List Nat} (h1 : 1 ≤ m) (h9 : m ≤ 9) (hB : BookOk m gs) (h : told.Sublist (List.range gs.length)) : Come m gs gs.length (ledT gs (row0 m) told) := by
  have e : ledT gs (row0 m) told = ofF m (Pw (told.map (gapN gs))) := by
    have := ledT_word hB told [] fun k hk => List.mem_range.mp (h.subset hk)
    rw [List.nil_append] at this
    exact this
  rw [e]
  refine (come_word h1 h9 hB gs.length (Nat.le_refl _)).mpr ⟨told.map (gapN gs), ?_, rfl⟩
  rw [List.take_length, ← nat_gap]
  exact h.map _
def spLed (K : PySem.W.Frag) : Sp := fun vs H Q _ => ∃ (a l : Addr) (gs : List Int) (told : List Nat) (m : Nat), vs = [.ref a, .int m, .ref l] ∧ SqT K H a (gs.map V.int) ∧ SqL K H l (told.map fun (k : Nat) => V.int (k : Int)) ∧ BookOk m gs ∧ (∀ k ∈ told, k < gs.length) ∧ 1 ≤ m ∧ m ≤ 9 ∧ ∀ p H', Ex H H' → FTup H' p ((ledT gs (row0 m) told).map V.int) → Q (.ref p) H'
theorem d_law_led (F : FnP K "_law_led" s_law_led f fd) (g : mg "_law_led" = some (.ref f)) (B : Bl mg) (C_law_swap : CallD P w K mg base n "_law_swap" ["line", "spot"] spSwapF) : CallD P w K mg base (n + 1) "_law_led" ["plan", "size", "used"] (spLed K) := by
  refine callD F g sc_law_led (fun _ _ _ _ _ _ us hl => match us, hl with | [_, _, _], _ => rfl) (fun vs H Q E h => ?_) (fun cdv A outer s H vs Q E _ hr hG h => ?_)
  · obtain ⟨a, l, gs, told, m, rfl, _⟩ := h; rfl
  · obtain ⟨a, l, gs, told, m, rfl, hT, hL, hB, ht, h1, h9, q⟩ := h
    refine ⟨_, (pss_cons (ps_set (i := 3) sc_law_led.nd rfl (Or.inl rfl) (pe_tupRgF rfl (by rfl) B.tuple (prg_1 (by rfl) B.range (pv 1))))
      (pss_cons (ps_for PassesOwn.never rfl (k_piL (K := K) rfl (pv 2)) (pg_name (i := 4) sc_law_led.nd rfl (Or.inl rfl))
      (pss_one (ps_set (i := 3) sc_law_led.nd rfl (Or.inl rfl) (pe_c C_law_swap hr hG (pa_cons (pv 3) (pa_cons (pe_ix (k_ixt (K := K) rfl) (pv 0) (pv 4) (fun _ _ => rfl)) pa_nil))))))
      (pss_one (ps_ret (pv 3))))), ?_⟩
    refine ⟨_, rfl, _, rfl, RgOk.of_le (Int.le_refl _) (by omega) (by decide) (by omega), fun t0 H3 y3 nt0 e3 => ?_⟩
    rw [show rgV 0 (m : Int) = (row0 m).map V.int from rgV_ints m] at e3
    refine ⟨_, rfl, l, rfl, ⟨_, y3.sql hL⟩, for_it (walk_list (xs := told.map fun (k : Nat) => V.int (k : Int))) (fun i σ H5 => ∃ (p : Addr) (v4 : Option V), σ = [some (.ref a), some (.int m), some (.ref l), some (.ref p), v4] ∧ Ex H H5 ∧ FTup H5 p ((ledT gs (row0 m) (told.take i)).map V.int)) ⟨t0, none, rfl, y3, e3⟩ (fun i σ H5 _ ⟨_, _, _, x, _⟩ => x.sql hL) ?_ ?_⟩
    · rintro i x σ H5' H5 hi ⟨p, v4, rfl, x5, hp⟩ ⟨rfl, hx⟩
      rw [List.length_map] at hi
      have hti : told[i]? = some told[i] := List.getElem?_eq_getElem hi
      rw [List.getElem?_map, hti] at hx
      cases hx
      have hk := ht told[i] (List.getElem_mem hi)
      obtain ⟨gp, eg, hg⟩ := book_at hB hk
      have egp : gapN gs told[i] = gp := by unfold gapN; rw [eg, Int.toNat_natCast]
      obtain ⟨r1, l1⟩ := ledT_ok hB (told.take i) (fun z hz => ht z (List.mem_of_mem_take hz)) (row0_row h1 h9) (row0_len m)
      refine ⟨_, rfl, _, rfl, _, rfl, a, _, _, _, rfl, rfl, x5.sqt hT, at_of rfl (row_get hk), ?_⟩
      refine ⟨p, _, gp, by rw [eg]; rfl, hp, by rw [l1]; exact hg, by rw [l1]; exact h9, fun p2 H6 x6 hp2 => ?_⟩
      refine ⟨p2, _, rfl, x5.trans x6, ?_⟩
      rw [List.take_add_one, hti]
      show FTup _ _ ((ledT gs (row0 m) (told.take i ++ [told[i]])).map V.int)
      rw [ledT_snoc, egp]; exact hp2
    · rintro σ H5 ⟨p, v4, rfl, x5, hp⟩
      rw [List.length_map, List.take_length] at hp
      exact ⟨_, rfl, q p H5 x5 hp⟩
def spLetRow (K : PySem.W.Frag) : Sp := fun vs H Q _ => ∃ (b a : Addr) (gs : List Int) (m k : Nat), vs = [.ref b, .ref a, .int m] ∧ BagD k H b ∧ k + 200 < 1000000 ∧ SqT K H a (gs.map V.int) ∧ 1 ≤ m ∧ m ≤ 9 ∧ BookOk m gs ∧ gs.length ≤ 41 ∧
  ∀ p ns H', IsRow ns → ns.length = m → Come m gs gs.length ns → ExB (At1 b) H H' → FTup H' p (ns.map V.int) → Q (.ref p) H'
theorem d_law_let_row (F : FnP K "_law_let_row" s_law_let_row f fd) (g : mg "_law_let_row" = some (.ref f)) (B : Bl mg) (C_law_draw : CallD P w K mg base n "_law_draw" ["bag", "sides"] spDraw) (C_law_far : CallD P w K mg base n "_law_far" ["plan", "size"] (spFarLF K)) (C_law_led : CallD P w K mg base n "_law_led" ["plan", "size", "used"] (spLed K)) : CallD P w K mg base (n + 1) "_law_let_row" ["bag", "plan", "size"] (spLetRow K) := by
  refine callD F g sc_law_let_row (fun _ _ _ _ _ _ us hl => match us, hl with | [_, _, _], _ => rfl) (fun vs H Q E h => ?_) (fun cdv A outer s H vs Q E _ hr hG h => ?_)
  · obtain ⟨b, a, gs, m, k, rfl, _⟩ := h; rfl
  · obtain ⟨b, a, gs, m, k, rfl, hBag, hk, hT, h1, h9, hB, h41, q⟩ := h
    refine ⟨_, (pss_cons (ps_if (pt_cmpR op_eq (pe_c C_law_draw hr hG (pa_cons (pv 0) (pa_cons pe_int pa_nil))) pe_int (nomark _))
      (pss_one (ps_ret (pe_c C_law_far hr hG (pa_cons (pv 1) (pa_cons (pv 2) pa_nil)))))
      pss_nil)
      (pss_one (ps_ret (pe_c C_law_led hr hG (pa_cons (pv 1) (pa_cons (pv 2) (pa_cons (pe_lc (own := [("k", 3)]) (g := gName 3) rfl sc_law_let_row.nd (pi_range1 rfl B.range (pa_cons (pe_callB (k_len (K := K) rfl) (by rfl) B.len PySem.boot_len (pa_cons (pv 1) pa_nil)) pa_nil)) (blkOk_by (N := N_law_let_row) (sc := defScope s_law_let_row) (by decide +kernel)) (fun _ _ _ _ _ => (pg_name (i := 3) sc_law_let_row.nd rfl (by first | exact Or.inl rfl | exact Or.inr rfl))) (fun _ _ _ _ _ => (pts_one (pt_cmpR op_eq (pe_c C_law_draw hr hG (pa_cons (pv 0) (pa_cons pe_int pa_nil))) pe_int (nomark _)))) (fun _ _ _ _ _ => (pv 3))) pa_nil))))))), ?_⟩
    refine ⟨_, rfl, b, 3, k, rfl, hBag, by omega, by decide, by decide, fun u H1 u0 u1 x1 B1 => ?_⟩
    have bne : H b ≠ none := hBag.some
    refine ⟨rfl, _, rfl, ?_⟩
    by_cases hu : u = 0
    · rw [decide_eq_true (show V.int u = V.int 0 by rw [hu])]
      refine iteT ⟨_, rfl, _, rfl, a, gs, m, rfl, x1.sqt hT, h1, h9, hB, fun p H2 x2 hp => ?_⟩
      obtain ⟨r1, l1⟩ := farL_ok hB (row0_row h1 h9) (row0_len m)
      exact q p _ H2 r1 l1 ((come_far h1 h9 hB r1 l1).mpr (more_self _)) (x1.trans x2.of) hp
    · rw [decide_eq_false (show ¬ V.int u = V.int 0 by intro z; injection z with z; exact hu z)]
      refine iteF ?_
      refine ⟨_, rfl, _, rfl, _, rfl, a, _, rfl, .inr (x1.sqt hT), _, by rw [List.length_map], by omega, by omega, fun D nD => ?_⟩
      rw [Int.toNat_natCast]
      have bD : b ≠ D := fun z => B1.some (z ▸ nD)
      refine lc_it walk_range (fun i H2 => ∃ told : List Nat, told.Sublist (List.range i) ∧ ExB (At1 b) H1 H2 ∧ H2 D = some (.lst (told.map fun (k : Nat) => V.int (k : Int))) ∧ BagD (k + 1 + i) H2 b) ⟨[], List.nil_sublist _, (ex_new nD).of, upd_same, B1.ex (ex_new nD)⟩ (fun _ _ _ _ => trivial) ?_ ?_
      · rintro i x H2' H2 hi ⟨told, hs, x2, e2, B2⟩ ⟨rfl, ex⟩
        have ex : x = V.int (i : Int) := ex.trans (congrArg V.int (Int.zero_add _))
        subst ex
        have tl : told.length ≤ i := by have := hs.length_le; rwa [List.length_range] at this
        refine ⟨rfl, ?_⟩
        refine ⟨_, rfl, b, 2, k + 1 + i, rfl, B2, by omega, by decide, by decide, fun v H3 v0 v1 x3 B3 => ?_⟩
        have e3 := x3.lst e2 (fun z => bD z.symm)
        have hs2 : told.Sublist (List.range (i + 1)) := by rw [List.range_succ]; exact hs.trans (List.sublist_append_left _ _)
        refine ⟨rfl, _, rfl, ?_⟩
        by_cases hv : v = 0
        · rw [decide_eq_true (show V.int v = V.int 0 by rw [hv])]
          refine iteT ⟨_, rfl, _, e3, small1000 (by rw [List.length_map]; omega), told ++ [i], by rw [List.range_succ]; exact hs.append (List.Sublist.refl _), (x2.trans x3).then (ex_set e3) fun y hy => .inl (hy ▸ nD), by rw [upd_same, List.map_append]; rfl, B3.exB (ex_set e3) bD⟩
        · rw [decide_eq_false (show ¬ V.int v = V.int 0 by intro z; injection z with z; exact hv z)]
          exact iteF ⟨told, hs2, x2.trans x3, e3, B3⟩
      rintro H2 ⟨told, hs, x2, e2, B2⟩
      obtain ⟨r1, l1⟩ := ledT_ok hB told (fun z hz => List.mem_range.mp (hs.subset hz)) (row0_row h1 h9) (row0_len m)
      refine ⟨a, D, gs, told, m, rfl, (x1.trans x2).sqt hT, SqL.of e2, hB, fun z hz => List.mem_range.mp (hs.subset hz), h1, h9, fun p H3 x3 hp => ?_⟩
      exact q p _ H3 r1 l1 (led_come h1 h9 hB hs) ((x1.trans x2).trans x3.of) hp
end
end K70
namespace MM
open PySem PySem.Spec PyProof.Rows L2 GxR
/-! ### goings and leavings -/
theorem mem_goL {rr : List Int} : ∀ {gs x : List Int} {c : List Bool}, c ∈ goL rr gs x ↔ c.length = gs.length ∧ runW x (selW gs c) = rr
  | [], x, c => by
    show c ∈ (if x = rr then [[]] else [] : List (List Bool)) ↔ _
    constructor
    · intro h
      split at h
      · rename_i e; rw [List.mem_singleton.mp h]; exact ⟨rfl, e⟩
      · exact nomatch h
    · rintro ⟨h, e⟩
      have : c = [] := List.eq_nil_of_length_eq_zero h
      subst this
      rw [if_pos (show x = rr from e)]; exact List.mem_cons_self
  | g :: gs, x, c => by
    show c ∈ (goL rr gs x).map (false :: ·) ++ (goL rr gs (swL x g.toNat)).map (true :: ·) ↔ _
    rw [List.mem_append]
    constructor
    · rintro (h | h)
      · obtain ⟨d, hd, rfl⟩ := List.mem_map.mp h
        obtain ⟨a, b⟩ := mem_goL.mp hd
        exact ⟨by rw [List.length_cons, List.length_cons, a], b⟩
      · obtain ⟨d, hd, rfl⟩ := List.mem_map.mp h
        obtain ⟨a, b⟩ := mem_goL.mp hd
        exact ⟨by rw [List.length_cons, List.length_cons, a], b⟩
    · rintro ⟨a, b⟩
      match c, a, b with
      | false :: d, a, b => exact .inl (List.mem_map.mpr ⟨d, mem_goL.mpr ⟨Nat.succ.inj a, b⟩, rfl⟩)
      | true :: d, a, b => exact .inr (List.mem_map.mpr ⟨d, mem_goL.mpr ⟨Nat.succ.inj a, b⟩, rfl⟩)
theorem goL_nodup (rr : List Int) : ∀ (gs x : List Int), (goL rr gs x).Nodup
  | [], x => by
    show (if x = rr then [[]] else [] : List (List Bool)).Nodup
    split
    · simp
    · exact List.nodup_nil
  | g :: gs, x => by
    show (List.map _ _ ++ List.map _ _ : List (List Bool)).Nodup
    rw [List.nodup_append]
    refine ⟨nodup_cons_map _ (goL_nodup rr gs x), nodup_cons_map _ (goL_nodup rr gs _), fun a ha b hb e => ?_⟩
    obtain ⟨d, _, rfl⟩ := List.mem_map.mp ha
    obtain ⟨d', _, rfl⟩ := List.mem_map.mp hb
    exact absurd (List.cons.inj e).1 (by decide)
theorem selW_ok {m : Nat} : ∀ {gs : List Int} {c : List Bool}, BookOk m gs → ∀ g ∈ selW gs c, g + 1 < m
  | [], c, _, g, h => by cases c <;> exact nomatch h
  | _ :: _, [], _, g, h => nomatch h
  | x :: gs, true :: c, hb, g, h => by
    rcases List.mem_cons.mp h with rfl | h
    · have := hb x List.mem_cons_self; omega
    · exact selW_ok (fun z hz => hb z (List.mem_cons_of_mem _ hz)) g h
  | x :: gs, false :: c, hb, g, h => selW_ok (gs := gs) (c := c) (fun z hz => hb z (List.mem_cons_of_mem _ hz)) g h
theorem goL_inv {m : Nat} {gs : List Int} {a b : Nat → Nat} {c : List Bool} (hB : BookOk m gs) (hI : IsInv m a b) : c ∈ goL (ofF m a) gs (row0 m) ↔ c.length = gs.length ∧ runW (ofF m b) (selW gs c) = row0 m := by
  rw [mem_goL, run_inv hI (selW_ok hB), row0_ofF, run_word (selW_ok hB)]
  exact and_congr_right fun _ => ⟨fun h => h.symm, fun h => h.symm⟩
theorem goL_bL {m : Nat} {gs : List Int} {a b : Nat → Nat} (h1 : 1 ≤ m) (h9 : m ≤ 9) (hB : BookOk m gs) (hI : IsInv m a b) : ((goL (ofF m a) gs (row0 m)).filter fun c => c.count true == pairsN (ofF m a)).Perm (bL m gs (ofF m b)) := by
  rw [List.perm_ext_iff_of_nodup ((goL_nodup _ _ _).filter _) (bL_nodup _ _)]
  intro c
  rw [List.mem_filter, goL_inv hB hI, mem_bL hB (row_ofF h1 h9 hI.symm) (ofF_len ..), pairs_back h1 h9 hI, beq_iff_eq, and_assoc]
theorem gLf_count {m k : Nat} {gs : List Int} {a b : Nat → Nat} (h1 : 1 ≤ m) (h9 : m ≤ 9) (hB : BookOk m gs) (hI : IsInv m a b) : (gLf m gs k (ofF m b)).length = cg (ofF m a) gs (row0 m) (pairsN (ofF m a)) := by
  unfold gLf
  rw [List.length_map, ← (goL_bL h1 h9 hB hI).length_eq]; rfl
/-! ### the greatest leaving -/
def grdL : List Int → Nat → List Int → List Nat
  | [], _, _ => []
  | g :: gs, k, y => if y.getD g.toNat 0 < y.getD (g.toNat + 1) 0 then k :: grdL gs (k + 1) y else grdL gs (k + 1) (swL y g.toNat)
theorem gLf_ge {m : Nat} {gs y : List Int} {k : Nat} : ∀ L ∈ gLf m gs k y, ∀ z ∈ L, k ≤ z := fun L hL z hz => by
  obtain ⟨c, _, rfl⟩ := List.mem_map.mp (show L ∈ (bL m gs y).map (unu k) from hL)
  exact (unu_ge z hz).1
theorem grdL_ok {m : Nat} (h1 : 1 ≤ m) (h9 : m ≤ 9) : ∀ {gs y : List Int} {k : Nat}, BookOk m gs → IsRow y → y.length = m → dnL gs y = row0 m → grdL gs k y ∈ gLf m gs k y ∧ ∀ L ∈ gLf m gs k y, ¬ grdL gs k y < L
  | [], y, k, _, _, _, h => by
    have h : y = row0 m := h
    rw [gLf_nil, if_pos h]
    exact ⟨List.mem_cons_self, fun L hL => by rw [List.mem_singleton.mp hL]; exact List.lt_irrefl _⟩
  | g :: gs, y, k, hB, hr, hl, h => by
    have hBt : BookOk m gs := fun z hz => hB z (List.mem_cons_of_mem _ hz)
    have hg := hB g List.mem_cons_self
    have hgx : g.toNat + 1 < y.length := by omega
    have hne := row_ne hr hgx
    rw [gLf_cons]
    unfold grdL
    by_cases c : y.getD g.toNat 0 < y.getD (g.toNat + 1) 0
    · have h' : dnL gs y = row0 m := by
        have : dnL gs (lowS y g.toNat) = row0 m := h
        unfold lowS at this
        rwa [if_pos c] at this
      obtain ⟨a, b⟩ := grdL_ok h1 h9 (k := k + 1) hBt hr hl h'
      rw [if_pos c, if_neg (by omega), List.nil_append]
      refine ⟨List.mem_map.mpr ⟨_, a, rfl⟩, fun L hL z => ?_⟩
      obtain ⟨L', hL', rfl⟩ := List.mem_map.mp hL
      rcases List.cons_lt_cons_iff.mp z with z | ⟨_, z⟩
      · exact absurd z (Nat.lt_irrefl _)
      · exact b L' hL' z
    · have h' : dnL gs (swL y g.toNat) = row0 m := by
        have : dnL gs (lowS y g.toNat) = row0 m := h
        unfold lowS at this
        rwa [if_neg c] at this
      obtain ⟨a, b⟩ := grdL_ok h1 h9 (k := k + 1) hBt (sw_row hgx hr) (by rw [sw_len hgx]; exact hl) h'
      rw [if_neg c, if_pos (by omega)]
      refine ⟨List.mem_append_left _ a, fun L hL z => ?_⟩
      rcases List.mem_append.mp hL with hL | hL
      · exact b L hL z
      · have l1 := gLf_len hBt (sw_row hgx hr) (by rw [sw_len hgx]; exact hl) _ a
        have l2 := gLf_len (k := k) hB hr hl L (by rw [gLf_cons]; exact List.mem_append_right _ hL)
        have l0 := gLf_len (k := k) hB hr hl (grdL gs (k + 1) (swL y g.toNat)) (by rw [gLf_cons, if_pos (by omega)]; exact List.mem_append_left _ a)
        obtain ⟨L', hL', rfl⟩ := List.mem_map.mp hL
        have hge := gLf_ge _ a
        generalize grdL gs (k + 1) (swL y g.toNat) = G at *
        match G, l0, hge, z with
        | [], l0, _, _ => rw [List.length_cons] at l2; have : ([] : List Nat).length = 0 := rfl; omega
        | x :: G', _, hge, z =>
          have := hge x List.mem_cons_self
          rcases List.cons_lt_cons_iff.mp z with z | ⟨z, _⟩ <;> omega
theorem grdL_asc : ∀ (gs y : List Int) (k : Nat), grdL gs k y = ((List.range gs.length).filter fun i => decide (asc gs y i)).map (· + k)
  | [], _, _ => rfl
  | g :: gs, y, k => by
    have e : ∀ z, lowS y g.toNat = z → (((List.range gs.length).map Nat.succ).filter fun i => decide (asc (g :: gs) y i)).map (· + k) = grdL gs (k + 1) z := fun z hz => by
      rw [grdL_asc gs z (k + 1), List.filter_map, List.map_map]
      have f1 : ((fun i => decide (asc (g :: gs) y i)) ∘ Nat.succ) = fun i => decide (asc gs z i) := funext fun i => by
        show decide (asc (g :: gs) y (i + 1)) = _
        rw [← hz]; rfl
      rw [f1]
      refine List.map_congr_left fun i _ => ?_
      show i + 1 + k = i + (k + 1)
      omega
    have a0 : asc (g :: gs) y 0 ↔ y.getD g.toNat 0 < y.getD (g.toNat + 1) 0 := Iff.rfl
    rw [List.length_cons, List.range_succ_eq_map]
    unfold grdL
    by_cases c : y.getD g.toNat 0 < y.getD (g.toNat + 1) 0
    · rw [if_pos c, List.filter_cons_of_pos (p := fun i => decide (asc (g :: gs) y i)) (a := 0) (decide_eq_true (a0.mpr c)), List.map_cons, e y (by unfold lowS; rw [if_pos c]), Nat.zero_add]
    · rw [if_neg c, List.filter_cons_of_neg (p := fun i => decide (asc (g :: gs) y i)) (a := 0) (fun z => c (a0.mp (of_decide_eq_true z))), e _ (by unfold lowS; rw [if_neg c])]
/-- the last of the sorted is the greedy one -/
theorem last_grdL {m : Nat} {gs y : List Int} {Ls : List (List Nat)} (h1 : 1 ≤ m) (h9 : m ≤ 9) (hB : BookOk m gs) (hr : IsRow y) (hl : y.length = m) (h : dnL gs y = row0 m) (hp : Ls.Perm (gLf m gs 0 y)) (hs : Ls.Pairwise (· < ·)) : ∃ n, Ls.length = n + 1 ∧ Ls[n]? = some ((List.range gs.length).filter fun i => decide (asc gs y i)) := by
  obtain ⟨a, b⟩ := grdL_ok (k := 0) h1 h9 hB hr hl h
  have e := grdL_asc gs y 0
  rw [show (fun x : Nat => x + 0) = id from rfl, List.map_id] at e
  rw [← e]
  obtain ⟨i, hi, ei⟩ := List.getElem_of_mem (hp.mem_iff.mpr a)
  refine ⟨Ls.length - 1, by omega, ?_⟩
  have : i = Ls.length - 1 := by
    refine Classical.byContradiction fun hn => ?_
    have hlt : i < Ls.length - 1 := by omega
    have := List.pairwise_iff_getElem.mp hs i (Ls.length - 1) hi (by omega) hlt
    rw [ei] at this
    exact b _ (hp.mem_iff.mp (List.getElem_mem _)) this
  rw [← this, List.getElem?_eq_getElem hi, ei]
/-! ### what may be left out -/
theorem outS_one {gs : List Int} {k : Nat} (hk : k < gs.length) : outS gs [(k : Int)] gs.length = gs.take k ++ gs.drop (k + 1) := by
  have key : ∀ n, n ≤ gs.length → outS gs [(k : Int)] n = gs.take (min n k) ++ (gs.take n).drop (k + 1) := by
    intro n
    induction n with
    | zero => intro _; simp [outS]
    | succ n ih =>
      intro hn
      rw [outS_succ, ih (by omega)]
      have gd : gs.take (n + 1) = gs.take n ++ [gs.getD n 0] := by
        rw [List.take_add_one, List.getD_eq_getElem?_getD, List.getElem?_eq_getElem (by omega)]; rfl
      by_cases c : n = k
      · subst c
        rw [if_pos List.mem_cons_self, List.append_nil, Nat.min_self, show min (n + 1) n = n by omega, List.drop_eq_nil_of_le (by rw [List.length_take]; omega), List.drop_eq_nil_of_le (by rw [List.length_take]; omega)]
      · rw [if_neg (fun z => c (by have := List.mem_singleton.mp z; omega))]
        rcases Nat.lt_or_ge n k with d | d
        · rw [show min n k = n by omega, show min (n + 1) k = n + 1 by omega, gd, List.drop_eq_nil_of_le (by rw [List.length_take]; omega), List.drop_eq_nil_of_le (by rw [List.length_append, List.length_take]; simp; omega)]
          simp
        · rw [show min n k = k by omega, show min (n + 1) k = k by omega, gd, List.drop_append_of_le_length (by rw [List.length_take]; omega), List.append_assoc]
  rw [key _ (Nat.le_refl _), show min gs.length k = k by omega, List.take_length]
theorem outS_sel : ∀ {gs : List Int} {c : List Bool}, c.length = gs.length → nat (outS gs (nI (unu 0 c)) gs.length) = selW gs c := by
  have key : ∀ (n : Nat) (gs : List Int) (c : List Bool) (ks : List Int) (o : Nat), c.length = gs.length → (∀ i, i < gs.length → (((i + o : Nat) : Int) ∈ ks ↔ c.getD i true = false)) →
      (((List.range gs.length).filter fun (k : Nat) => !decide (((k + o : Nat) : Int) ∈ ks)).map fun k => (gs.getD k 0).toNat) = selW gs c := by
    intro n gs
    induction gs with
    | nil => intro c ks o hc _; cases c with
      | nil => rfl
      | cons b c => exact nomatch hc
    | cons g gs ih =>
      intro c ks o hc hk
      match c, hc, hk with
      | b :: c, hc, hk =>
        have h2 := ih c ks (o + 1) (Nat.succ.inj hc) fun i hi => by
          have := hk (i + 1) (by rw [List.length_cons]; omega)
          rw [show i + 1 + o = i + (o + 1) by omega] at this
          exact this
        have h0 := hk 0 (by simp)
        rw [Nat.zero_add] at h0
        rw [List.length_cons, List.range_succ_eq_map]
        have e : (((List.range gs.length).map Nat.succ).filter fun (k : Nat) => !decide (((k + o : Nat) : Int) ∈ ks)).map (fun k => ((g :: gs).getD k 0).toNat) = selW gs c := by
          rw [← h2, List.filter_map, List.map_map]
          have f1 : ((fun (k : Nat) => !decide (((k + o : Nat) : Int) ∈ ks)) ∘ Nat.succ) = fun (k : Nat) => !decide (((k + (o + 1) : Nat) : Int) ∈ ks) := funext fun i => by
            show (!decide (((i + 1 + o : Nat) : Int) ∈ ks)) = _
            rw [show i + 1 + o = i + (o + 1) by omega]
          rw [f1]; rfl
        cases b with
        | true =>
          rw [List.filter_cons_of_pos (by rw [Nat.zero_add, decide_eq_false (fun z => by have := h0.mp z; cases this)]; rfl), List.map_cons, e]; rfl
        | false =>
          rw [List.filter_cons_of_neg (by rw [Nat.zero_add, decide_eq_true (h0.mpr rfl)]; decide), e]; rfl
  intro gs c hc
  have := key 0 gs c (nI (unu 0 c)) 0 hc fun i hi => by
    rw [Nat.add_zero]
    unfold nI
    have gen : ∀ (c : List Bool) (o i : Nat), i < c.length → (i + o ∈ unu o c ↔ c.getD i true = false) := by
      intro c
      induction c with
      | nil => intro o i h; exact nomatch h
      | cons b c ih =>
        intro o i h
        cases i with
        | zero =>
          cases b with
          | true =>
            refine ⟨fun z => ?_, fun z => by cases z⟩
            have := (unu_ge (k := o + 1) (c := c) _ z).1; omega
          | false => exact ⟨fun _ => rfl, fun _ => by rw [Nat.zero_add]; exact List.mem_cons_self⟩
        | succ i =>
          have := ih (o + 1) i (by simpa using h)
          rw [show i + (o + 1) = i + 1 + o by omega] at this
          cases b with
          | true => exact this
          | false =>
            rw [show (false :: c).getD (i + 1) true = c.getD i true from rfl, ← this]
            refine ⟨fun z => (List.mem_cons.mp z).elim (fun z => by omega) id, fun z => List.mem_cons_of_mem _ z⟩
    have := gen c 0 i (by omega)
    rw [Nat.add_zero] at this
    rw [← this, List.mem_map]
    exact ⟨fun ⟨x, hx, e⟩ => by have : x = i := by omega
                                exact this ▸ hx, fun h => ⟨i, h, rfl⟩⟩
  unfold outS nat
  rw [List.map_map]
  exact this
end MM
namespace K70
open PySem PySem.Spec PyProof.Rows L2 GxR MM
section
variable {P : Program} {w : World} {K : PySem.W.Frag} {mg : Str → Option Value} {base : Heap} {f : Addr} {fd : FuncData} {n : Nat}
theorem sort_lvs {H : Hp} {l : Addr} {ys : List V} {Ls : List (List Nat)} {c : Nat} (e9 : H l = some (.lst ys)) (r9 : RefL H ys Ls) (hnd : Ls.Nodup) (hlen : ∀ L ∈ Ls, L.length = c) :
    ∃ S : List (V × List Nat), (S.map (·.2)).Pairwise (· < ·) ∧ (S.map (·.2)).Perm Ls ∧ RefL H (S.map (·.1)) (S.map (·.2)) ∧ ∀ Q' : V → Hp → Prop, (∀ p, H p = none → Q' (.ref p) (upd H p (.lst (S.map (·.1))))) → rSortD1 K [.ref l] H Q' := by
  have yl : ys.length = Ls.length := r9.length
  have fstz : (ys.zip Ls).map (·.1) = ys := List.map_fst_zip (by omega)
  have sndz : (ys.zip Ls).map (·.2) = Ls := List.map_snd_zip (by omega)
  have memb := pair_zip r9
  obtain ⟨S, hp, hs, eS⟩ := sort_words (ys.zip Ls) (by rw [sndz]; exact hnd)
  refine ⟨S, hs, (hp.map (·.2)).trans (by rw [sndz]), pair_of fun c hc => ?_, ?_⟩
  · exact memb c (hp.mem_iff.mp hc)
  intro Q' qq
  have gen : (∀ L ∈ Ls, L ≠ []) → rSortD1 K [.ref l] H Q' := fun hne => by
    refine .inl ⟨l, (ys.zip Ls).map fun p => (p.1, pw p.2), rfl, ?_, ?_, ?_, ?_, ?_, fun p np => ?_⟩
    · rw [List.map_map]
      show SqL K H l ((ys.zip Ls).map (·.1))
      rw [fstz]; exact SqL.of e9
    · intro b hb
      obtain ⟨p, hp, rfl⟩ := List.mem_map.mp hb
      obtain ⟨u, e1, su⟩ := memb p hp
      show Dp K H p.1 (pw p.2)
      rw [e1]
      exact dp_row (SqT.of su)
    · intro x hx y hy
      obtain ⟨b, hb, rfl⟩ := List.mem_map.mp hx
      obtain ⟨p, _, rfl⟩ := List.mem_map.mp hb
      obtain ⟨b2, hb2, rfl⟩ := List.mem_map.mp hy
      obtain ⟨p2, _, rfl⟩ := List.mem_map.mp hb2
      exact pw_alike _ _
    · refine .inl fun x hx => ?_
      obtain ⟨b, hb, rfl⟩ := List.mem_map.mp hx
      obtain ⟨p, hp, rfl⟩ := List.mem_map.mp hb
      have hw : p.2 ∈ Ls := by rw [← sndz]; exact List.mem_map.mpr ⟨p, hp, rfl⟩
      have := hne _ hw
      cases h : p.2 with
      | nil => exact absurd h this
      | cons g w => exact ⟨_, _, rfl⟩
    · intro b hb
      obtain ⟨p, _, rfl⟩ := List.mem_map.mp hb
      exact pw_depth _
    · rw [eS]; exact qq p np
  rcases Nat.eq_zero_or_pos c with z | z
  · rcases alone hnd (fun L hL => List.eq_nil_of_length_eq_zero (by rw [hlen L hL, z])) with z | z
    · exact gen fun L hL => by rw [z] at hL; exact nomatch hL
    · rw [z] at r9 eS hp
      cases r9 with
      | @cons v _ _ _ hv t =>
        cases t
        refine .inr ⟨l, v, pw [], rfl, SqL.of e9, ?_, pw_alike _ _, (fun h => nomatch h), pw_depth _, ?_⟩
        · obtain ⟨u, rfl, su⟩ := hv
          exact dp_row (SqT.of su)
        · have : S = [(v, [])] := List.perm_singleton.mp hp
          rw [this] at qq
          exact qq
  · exact gen fun L hL e => by have := hlen L hL; rw [e] at this; have : ([] : List Nat).length = 0 := rfl; omega
theorem RefL.dp {H : Hp} : ∀ {vs : List V} {Ls : List (List Nat)}, RefL H vs Ls → DpAll K H vs (Ls.map pw)
  | _, _, .nil => .nil
  | _, _, .cons ⟨t, rfl, e⟩ r => .cons (dp_row (SqT.of e)) (RefL.dp r)
theorem nice_lvs {Ls : List (List Nat)} {q : Nat} (hq : q ≤ 1000) (h : ∀ L ∈ Ls, L.length ≤ q ∧ ∀ z ∈ L, z ≤ 1000) : Nice 2 (Ls.length * ((1000 * (51 + 2) + 3) + 2) + 3) (.list (Ls.map pw)) := by
  refine nice_list (k := 1) (L := 1000 * (51 + 2) + 3) (fun d hd => ?_) (by rw [List.length_map]; exact Nat.le_refl _)
  obtain ⟨L, hL, rfl⟩ := List.mem_map.mp hd
  obtain ⟨a, b⟩ := h L hL
  refine nice_tuple (k := 0) (L := 51) (m := 1000) (nice_ints fun i hi => ?_) (by unfold nI; rw [List.length_map, List.length_map]; omega)
  obtain ⟨z, hz, rfl⟩ := List.mem_map.mp hi
  have := b z hz
  omega
theorem unu_range : ∀ (c : List Bool) (o : Nat), unu o c = ((List.range c.length).filter fun k => !c.getD k false).map (· + o)
  | [], _ => rfl
  | b :: c, o => by
    have e : (((List.range c.length).map Nat.succ).filter fun k => !(b :: c).getD k false).map (· + o) = unu (o + 1) c := by
      rw [unu_range c (o + 1), List.filter_map, List.map_map]
      refine List.map_congr_left fun i _ => ?_
      show i + 1 + o = i + (o + 1)
      omega
    rw [List.length_cons, List.range_succ_eq_map]
    cases b with
    | true =>
      rw [List.filter_cons_of_neg (p := fun k => !(true :: c).getD k false) (a := 0) (fun z => by cases z), e]; rfl
    | false =>
      rw [List.filter_cons_of_pos (p := fun k => !(false :: c).getD k false) (a := 0) (by rfl), List.map_cons, e, Nat.zero_add]; rfl
def lvF (c : List Bool) (i : Nat) : List Nat := (List.range i).filter fun k => !c.getD k false
theorem lvF_succ (c : List Bool) (i : Nat) : lvF c (i + 1) = lvF c i ++ if c.getD i false = true then [] else [i] := by
  unfold lvF
  rw [List.range_succ, List.filter_append]
  cases h : c.getD i false with
  | true => rw [List.filter_cons_of_neg (by rw [h]; decide)]; rfl
  | false => rw [List.filter_cons_of_pos (by rw [h]; rfl)]; rfl
theorem lvF_len (c : List Bool) (i : Nat) : (lvF c i).length ≤ i := by
  unfold lvF; exact Nat.le_trans (List.length_filter_le _ _) (by rw [List.length_range]; exact Nat.le_refl _)
theorem lvF_unu {c : List Bool} {n : Nat} (h : c.length = n) : lvF c n = unu 0 c := by
  rw [unu_range c 0, ← h, show (fun x : Nat => x + 0) = id from rfl, List.map_id]; rfl
/-- the leavings of the goings with the least changes among the first i -/
def lstF (G : List (List Bool)) (p i : Nat) : List (List Nat) := ((G.take i).filter fun c => c.count true == p).map (unu 0)
theorem lstF_succ {G : List (List Bool)} {p i : Nat} {c : List Bool} (h : G[i]? = some c) : lstF G p (i + 1) = lstF G p i ++ if c.count true = p then [unu 0 c] else [] := by
  unfold lstF
  rw [List.take_add_one, h, List.filter_append, List.map_append]
  by_cases e : c.count true = p
  · rw [if_pos e]
    show _ ++ List.map _ (List.filter _ [c]) = _
    rw [List.filter_cons_of_pos (by rw [beq_iff_eq]; exact e)]; rfl
  · rw [if_neg e]
    show _ ++ List.map _ (List.filter _ [c]) = _
    rw [List.filter_cons_of_neg (by rw [beq_iff_eq]; exact e)]; rfl
def spListedR (K : PySem.W.Frag) (Pr Pb : Addr) : Sp := fun vs H Q _ => ∃ (a r l : Addr) (gs : List Int) (m : Nat) (fa fb : Nat → Nat) (ls : List V) (Ls : List (List Nat)), vs = [.ref a, .ref r, .ref l] ∧ SqT K H a (gs.map V.int) ∧ FTup H r ((ofF m fa).map V.int) ∧ IsInv m fa fb ∧ 1 ≤ m ∧ m ≤ 6 ∧ BookOk m gs ∧ gs.length ≤ 60 ∧ (goL (ofF m fa) gs (row0 m)).length ≤ 1000 ∧ TabG H Pr ∧ TabG H Pb ∧
  H l = some (.lst ls) ∧ RefL H ls Ls ∧ Ls.Perm (gLf m gs 0 (ofF m fb)) ∧ Ls.Pairwise (· < ·) ∧ ∀ H', Ex H H' → Q (.bl true) H'
theorem d_law_listed_right {Pr Pb : Addr} (F : FnP K "_law_listed_right" s_law_listed_right f fd) (g : mg "_law_listed_right" = some (.ref f)) (B : Bl mg) (C_goings : CallD P w K mg base n "goings" ["book", "row"] (spGoings K Pr Pb)) (C_nth : CallD P w K mg base n "nth" ["book", "row", "number"] (spNth K Pr Pb)) (C_law_turns : CallD P w K mg base n "_law_turns" ["line"] (spTurns K)) : CallD P w K mg base (n + 1) "_law_listed_right" ["plan", "line", "lines"] (spListedR K Pr Pb) := by
  refine callD F g sc_law_listed_right (fun _ _ _ _ _ _ us hl => match us, hl with | [_, _, _], _ => rfl) (fun vs H Q E h => ?_) (fun cdv A outer s H vs Q E _ hr hG h => ?_)
  · obtain ⟨a, r, l, gs, m, fa, fb, ls, Ls, rfl, _⟩ := h; rfl
  · obtain ⟨a, r, l, gs, m, fa, fb, ls, Ls, rfl, hT, hF, hI, h1, h6, hB, h60, hgo, hPr, hPb, hl, hL, hperm, hsort, q⟩ := h
    refine ⟨_, (pss_cons (ps_set (i := 3) sc_law_listed_right.nd rfl (Or.inl rfl) (pe_lst pa_nil))
      (pss_cons (ps_for PassesOwn.never rfl (pi_range1 rfl B.range (pa_cons (pe_c C_goings hr hG (pa_cons (pv 0) (pa_cons (pv 1) pa_nil))) pa_nil)) (pg_name (i := 4) sc_law_listed_right.nd rfl (Or.inl rfl))
      (pss_cons (ps_set (i := 5) sc_law_listed_right.nd rfl (Or.inr rfl) (pe_c C_nth hr hG (pa_cons (pv 0) (pa_cons (pv 1) (pa_cons (pv 4) pa_nil)))))
      (pss_one (ps_if (pt_cmpR op_eq (pe_callB (k_len (K := K) rfl) (by rfl) B.len PySem.boot_len (pa_cons (pe_lc (own := [("one", 6)]) (g := gName 6) rfl sc_law_listed_right.nd (k_piT (K := K) rfl (pv 5)) (blkOk_by (N := N_law_listed_right) (sc := defScope s_law_listed_right) (by decide +kernel)) (fun _ _ _ _ _ => (pg_name (i := 6) sc_law_listed_right.nd rfl (by first | exact Or.inl rfl | exact Or.inr rfl))) (fun _ _ _ _ _ => (pts_one (pt_val (pv 6)))) (fun _ _ _ _ _ => (pv 6))) pa_nil)) (pe_c C_law_turns hr hG (pa_cons (pv 1) pa_nil)) (nomark _))
      (pss_one (ps_expr (k_bm (K := K) rfl PySem.F.plainAttrs_list PySem.F.slot_list_append PySem.F.type_list_append mt_append (pv 3) (pa_cons (k_tupOf (K := K) rfl (by rfl) B.tuple (pe_lc (own := [("k", 7)]) (g := gName 7) rfl sc_law_listed_right.nd (pi_range1 rfl B.range (pa_cons (pe_callB (k_len (K := K) rfl) (by rfl) B.len PySem.boot_len (pa_cons (pv 0) pa_nil)) pa_nil)) (blkOk_by (N := N_law_listed_right) (sc := defScope s_law_listed_right) (by decide +kernel)) (fun _ _ _ _ _ => (pg_name (i := 7) sc_law_listed_right.nd rfl (by first | exact Or.inl rfl | exact Or.inr rfl))) (fun _ _ _ _ _ => (pts_one (pt_not (pt_val (pe_ix (k_ixt (K := K) rfl) (pv 5) (pv 7) (fun _ _ => rfl)))))) (fun _ _ _ _ _ => (pv 7)))) pa_nil))))
      pss_nil))))
      (pss_one (ps_ret (pe_cmpR (k_eq (K := K) rfl hr.units) (pe_callB (k_sortD1 (K := K) rfl hr.units) (by rfl) B.sorted (by decide +kernel) (pa_cons (pv 3) pa_nil)) (pv 2) (nomark _)))))), ?_⟩
    have sl : sizeLine = 16777216 := by decide
    have h9 : m ≤ 9 := by omega
    have hRa := row_ofF h1 h9 hI
    have hla := ofF_len m fa
    have hBa : BookOk (ofF m fa).length gs := by rw [hla]; exact hB
    have hnl : H l ≠ none := by rw [hl]; exact fun z => nomatch z
    refine ⟨Nat.zero_le _, fun D nD => ?_⟩
    have xD : Ex H (upd H D (.lst [])) := ex_new nD
    have eD : (upd H D (.lst [])) D = some (.lst []) := upd_same
    show tSeq _ _ _ _ _
    generalize upd H D (.lst []) = H1 at xD eD ⊢
    refine ⟨_, rfl, _, rfl, a, r, gs, ofF m fa, rfl, xD.sqt hT, (hF.ex xD).sqt, xD.tab hPr, xD.tab hPb, hRa, by rw [hla]; exact h6, hBa, by omega, fun H2 x2 => ?_⟩
    rw [← goL_wN hBa rfl, hla]
    have y2 := xD.trans x2
    have eD2 := Ex.lst x2 eD
    refine ⟨_, rfl, by omega, by omega, ?_⟩
    rw [Int.toNat_natCast]
    refine for_it walk_range (fun i σ H' => ∃ (vs : List V) (v4 v5 v6 v7 : Option V), σ = [some (.ref a), some (.ref r), some (.ref l), some (.ref D), v4, v5, v6, v7] ∧ Ex H H' ∧ H' D = some (.lst vs) ∧ vs.length ≤ i ∧ RefL H' vs (lstF (goL (ofF m fa) gs (row0 m)) (pairsN (ofF m fa)) i)) ⟨[], _, _, _, _, rfl, y2, eD2, Nat.le_refl _, .nil⟩ (fun _ _ _ _ _ => trivial) ?_ ?_
    · rintro i x σ H3' H3 hi ⟨vs, v4, v5, v6, v7, rfl, x3, e3, l3, r3⟩ ⟨rfl, ex⟩
      have ex : x = V.int (i : Int) := ex.trans (congrArg V.int (Int.zero_add _))
      subst ex
      refine ⟨_, rfl, _, rfl, _, rfl, a, r, gs, ofF m fa, i, rfl, x3.sqt hT, hF.ex x3, x3.tab hPr, x3.tab hPb, hRa, by rw [hla]; exact h6, hBa, by omega, by rw [hla]; exact hi, fun c pc H4 hc x4 hpc => ?_⟩
      rw [hla] at hc
      have y4 := x3.trans x4
      have e4 := Ex.lst x4 e3
      have r4 := r3.exB x4
      have cl : c.length = gs.length := goL_width _ _ _ c (List.mem_of_getElem? hc)
      have esuc := lstF_succ (p := pairsN (ofF m fa)) hc
      refine ⟨_, rfl, pc, rfl, ⟨_, hpc⟩, fun E nE => ?_⟩
      refine lc_it (walk_tup (xs := c.map V.bl)) (fun j H' => Ex H4 H' ∧ H' E = some (.lst (((c.take j).filter id).map V.bl))) ⟨ex_new nE, upd_same⟩ (fun j H' _ y => y.1.sqt hpc) ?_ ?_
      · rintro j x H5' H5 hj ⟨x5, e5⟩ ⟨rfl, hx⟩
        rw [List.length_map] at hj
        rw [List.getElem?_map, List.getElem?_eq_getElem hj] at hx
        cases hx
        have tk : c.take (j + 1) = c.take j ++ [c[j]] := by rw [List.take_add_one, List.getElem?_eq_getElem hj]; rfl
        have fl : ((c.take j).filter id).length ≤ j := Nat.le_trans (List.length_filter_le _ _) (by rw [List.length_take]; omega)
        refine ⟨rfl, ?_⟩
        refine ⟨_, rfl, _, rfl, ?_⟩
        rw [tk, List.filter_append]
        cases hcj : c[j] with
        | true =>
          refine iteT ⟨_, rfl, _, e5, small1000 (by rw [List.length_map]; have : j < 1000 := by omega
                                                    omega), x5.then (ex_set e5) fun y hy => .inl (hy ▸ nE), ?_⟩
          rw [upd_same, List.map_append]; rfl
        | false =>
          refine iteF ⟨x5, ?_⟩
          rw [e5, show List.filter id [false] = [] from rfl, List.append_nil]
      rintro H5 ⟨x5, e5⟩
      rw [List.length_map, List.take_length] at e5
      have ec : (c.filter id).length = c.count true := by
        rw [List.count_eq_countP, List.countP_eq_length_filter]
        congr 1
        refine List.filter_congr fun b _ => ?_
        cases b <;> rfl
      have y5 := y4.trans x5
      refine ⟨E, _, rfl, .inl (SqL.of e5), ?_⟩
      rw [List.length_map, ec]
      refine ⟨_, rfl, r, ofF m fa, rfl, (hF.ex y5).sqt, by omega, fun H6 x6 => ?_⟩
      refine ⟨rfl, _, rfl, ?_⟩
      have y6 := y5.trans x6
      have x46 := x5.trans x6
      have e6 := Ex.lst x46 e4
      have r6 := r4.exB x46
      by_cases hcc : c.count true = pairsN (ofF m fa)
      · rw [decide_eq_true (show V.int (c.count true : Nat) = V.int (pairsN (ofF m fa) : Nat) by rw [hcc])]
        rw [if_pos hcc] at esuc
        refine iteT ⟨_, rfl, .inl ⟨rfl, _, SqL.of e6⟩, ?_⟩
        refine ⟨_, rfl, a, _, rfl, .inr (y6.sqt hT), _, by rw [List.length_map], by omega, by omega, fun J nJ => ?_⟩
        rw [Int.toNat_natCast]
        refine lc_it walk_range (fun k H' => Ex H6 H' ∧ H' J = some (.lst ((nI (lvF c k)).map V.int))) ⟨ex_new nJ, upd_same⟩ (fun _ _ _ _ => trivial) ?_ ?_
        · rintro k x H7' H7 hk ⟨x7, e7⟩ ⟨rfl, ex⟩
          have ex : x = V.int (k : Int) := ex.trans (congrArg V.int (Int.zero_add _))
          subst ex
          have lk : (nI (lvF c k)).length = (lvF c k).length := by unfold nI; rw [List.length_map]
          refine ⟨rfl, ?_⟩
          have hkc : k < c.length := by omega
          have gk : (c.map V.bl)[k]? = some (V.bl c[k]) := by rw [List.getElem?_map, List.getElem?_eq_getElem hkc]; rfl
          have gd : c.getD k false = c[k] := by rw [List.getD_eq_getElem?_getD, List.getElem?_eq_getElem hkc]; rfl
          have es := lvF_succ c k
          rw [gd] at es
          refine ⟨_, rfl, _, rfl, pc, _, _, _, rfl, rfl, x7.sqt (x46.sqt hpc), at_of rfl gk, ?_⟩
          refine ⟨_, rfl, ?_⟩
          cases hck : c[k] with
          | true =>
            rw [hck, if_pos rfl, List.append_nil] at es
            exact iteF ⟨x7, by rw [es]; exact e7⟩
          | false =>
            rw [hck, if_neg (by decide)] at es
            refine iteT ⟨_, rfl, _, e7, small1000 (by rw [List.length_map, lk]; have := lvF_len c k; omega), x7.then (ex_set e7) fun y hy => .inl (hy ▸ nJ), ?_⟩
            rw [upd_same, es]
            unfold nI
            rw [List.map_append, List.map_append]; rfl
        rintro H7 ⟨x7, e7⟩
        rw [lvF_unu cl] at e7
        refine ⟨J, _, rfl, .inl ⟨SqL.of e7, fun p8 H8 x8 np8 e8 => ?_⟩⟩
        have x68 := x7.trans x8
        have e8D := Ex.lst x68 e6
        refine ⟨D, _, _, rfl, rfl, e8D, by rw [sl]; omega, ?_⟩
        have xS := ex_set (ys := vs ++ [.ref p8]) e8D
        refine ⟨vs ++ [.ref p8], _, _, _, _, rfl, (y6.trans x68).then xS fun z hz => .inl (by rw [show z = D from hz]; exact nD), upd_same, by rw [List.length_append]; show vs.length + 1 ≤ i + 1; omega, ?_⟩
        rw [esuc]
        exact ((r6.exB x68).exB xS).app (.cons ⟨p8, rfl, xS.tup e8⟩ .nil)
      · rw [decide_eq_false (show ¬ V.int (c.count true : Nat) = V.int (pairsN (ofF m fa) : Nat) from fun z => by injection z with z; omega)]
        rw [if_neg hcc, List.append_nil] at esuc
        exact iteF ⟨vs, _, _, _, _, rfl, y6, e6, by omega, by rw [esuc]; exact r6⟩
    · rintro σ H3 ⟨vs, v4, v5, v6, v7, rfl, x3, e3, l3, r3⟩
      have full : lstF (goL (ofF m fa) gs (row0 m)) (pairsN (ofF m fa)) (goL (ofF m fa) gs (row0 m)).length = ((goL (ofF m fa) gs (row0 m)).filter fun c => c.count true == pairsN (ofF m fa)).map (unu 0) := by unfold lstF; rw [List.take_length]
      rw [full] at r3
      have hpF : (((goL (ofF m fa) gs (row0 m)).filter fun c => c.count true == pairsN (ofF m fa)).map (unu 0)).Perm (gLf m gs 0 (ofF m fb)) := (goL_bL h1 h9 hB hI).map _
      have hlenF : ∀ L ∈ gLf m gs 0 (ofF m fb), L.length = gs.length - pairsN (ofF m fb) := fun L hL => by have := gLf_len hB (row_ofF h1 h9 hI.symm) (ofF_len m fb) L hL; omega
      obtain ⟨S, hs, hSp, rS, hsort2⟩ := sort_lvs (K := K) e3 r3 (hpF.symm.nodup gLf_nodup) fun L hL => hlenF L (hpF.mem_iff.mp hL)
      have eLs : S.map (·.2) = Ls := words_eq hs hsort fun L => by rw [hSp.mem_iff, hpF.mem_iff, hperm.mem_iff]
      refine ⟨_, rfl, ?_⟩
      refine hsort2 _ fun pS npS => ?_
      have x4 : Ex H3 (upd H3 pS (.lst (S.map (·.1)))) := ex_new npS
      have rS4 := rS.exB x4
      rw [eLs] at rS4
      have y4 := x3.trans x4
      have nc : Nice 2 _ (.list (Ls.map pw)) := nice_lvs (q := 60) (by decide) fun L hL => by
        have hg := hperm.mem_iff.mp hL
        have := hlenF L hg
        obtain ⟨c, hc, rfl⟩ := List.mem_map.mp (show L ∈ (bL m gs (ofF m fb)).map (unu 0) from hg)
        have hcl := bL_blen c hc
        exact ⟨by omega, fun z hz => by have := (unu_ge z hz).2; omega⟩
      refine ⟨_, rfl, .list (Ls.map pw), .list (Ls.map pw), .lst (SqL.of upd_same) (RefL.dp rS4), .lst (SqL.of (Ex.lst y4 hl)) (RefL.dp (hL.exB y4)), nc.shaped (by decide), nc.shaped (by decide), ?_⟩
      rw [nc.refl]
      exact q _ y4
end
end K70
namespace MM
open PySem PySem.Spec PyProof.Rows L2 GxR
/-! ### sorted(set(t)) of a short tuple that may hold doubles -/
section
variable {X : Cx} {a : Expr} {ta : TE} {p p2 q pos : Pos}
def tSortSetT2 (K : PySem.W.Frag) (ta : TE) : TE := fun σ H Q => ta σ H fun x H1 => ∃ (l : Addr) (ns : List Int), x = V.ref l ∧ SqT K H1 l (ns.map V.int) ∧ ns.length < 64 ∧ ∀ r (ms : List Int) H', ms.Pairwise (· < ·) → (∀ k, k ∈ ms ↔ k ∈ ns) → Ex H1 H' → H1 r = none → H' r = some (.lst (ms.map V.int)) → Q (.ref r) H'
theorem pe_sortSetT2 {K : PySem.W.Frag} (hK : X.K = K) (hc : X.calm = true) (hg : Gl X "sorted") (hm : X.mg "sorted" = none) (hb : bootBuiltins "sorted" = some (.builtin "sorted")) (hg2 : Gl X "set") (hm2 : X.mg "set" = none) (ha : PE X a ta)
    (na : starEach [a] X.env = (false, eval a X.env) :: starEach [] X.env := by rfl) : PE X (.Call (.Name "sorted" p) [.Call (.Name "set" p2) [a] [] q] [] pos) (tSortSetT2 K ta) := by
  subst hK
  refine ⟨fun pins s σ H Q I h => Call_ (ld_blt I hg hm hb (PyProof.Rows.callWith_builtin1 (PyProof.Rows.args_cons ?_ rfl) rfl rfl))⟩
  refine Call_ (ld_blt I hg2 hm2 PyProof.Rows.boot_set (PyProof.Rows.callWith_type1 (PyProof.Rows.args_cons (thn (ha.run pins s σ H _ I h) fun v s1 ⟨x, H1, I1, r1, w1⟩ => PyProof.Rows.args_nil ?_) na) na rfl))
  obtain ⟨l, ns, ex, hq, h64, w1⟩ := w1
  subst ex
  obtain rfl : v = .ref l := r1
  obtain ⟨its, rv, pl, hz⟩ := I1.tuple hq
  refine call_set_tupI ns (I1.ok.hd hc) (show s1.heap.IsTuple l its.toArray from pl) (ints_of_vals rv) (by unfold scanBound; omega) fun g k c R hcl hk => PyProof.Rows.args_nil ?_
  have I2 : Inv X pins σ H1 { s1 with heap := g, toks := k } := I1.kept hk
  have hcn : c ≤ 63 := by omega
  have R2 : SetR X.w ({ s1 with heap := g, toks := k } : Shared).heap s1.heap.objs.size (fun j => decide (j ∈ ns)) c := R
  generalize ({ s1 with heap := g, toks := k } : Shared) = s2 at I2 R2 ⊢
  refine sorted_set R2 (I2.ok.hd hc) (by omega) fun s' r out c2 ms k2 g2 o2 hp hg3 hi hs2 hm3 hl2 => ?_
  have hf : H1 r = none := I2.hok.fresh hp
  have hlen : (ms.map V.int).length ≤ sizeLine := by rw [List.length_map, sizeLine_eq]; omega
  have J : Inv X pins σ (upd H1 r (.lst (ms.map V.int))) { s2 with heap := s'.heap, gens := s'.gens, drawn := s'.drawn, toks := s'.toks } :=
    Inv.call (ch := []) I2 (Un.laid k2 hp hf) (I2.hok.laid k2 hp ⟨hlen, out.toList, c2, vals_of_ints hi, hg3⟩) (by rw [g2]; exact I2.bare) (fun _ z => nomatch z)
  have es : s' = { s2 with heap := s'.heap, gens := s'.gens, drawn := s'.drawn, toks := s'.toks } := by
    cases s'; cases s2; cases o2; rfl
  rw [es]
  exact ⟨.ref r, _, J, rfl, w1 r ms _ hs2 (fun k => by rw [hm3 k, decide_eq_true_iff]) (ex_new hf) hf upd_same⟩
end
end MM
namespace K70
open PySem PySem.Spec PyProof.Rows L2 GxR MM
section
variable {P : Program} {w : World} {K : PySem.W.Frag} {mg : Str → Option Value} {base : Heap} {f : Addr} {fd : FuncData} {n : Nat}
theorem unN_tld (gs y : List Int) (n : Nat) : unN (tld gs y n) n = (List.range n).filter fun i => decide (asc gs y i) := by
  unfold unN
  refine List.filter_congr fun k hk => ?_
  have hk := List.mem_range.mp hk
  unfold tld
  by_cases h : asc gs y k
  · rw [decide_eq_true h, decide_eq_false (fun z => by have := (List.mem_filter.mp z).2; rw [decide_eq_true h] at this; cases this)]; rfl
  · rw [decide_eq_false h, decide_eq_true (List.mem_filter.mpr ⟨List.mem_range.mpr hk, by rw [decide_eq_false h]; rfl⟩)]; rfl
theorem must_out {m k : Nat} {gs : List Int} {a b : Nat → Nat} {L : List Nat} (h1 : 1 ≤ m) (h9 : m ≤ 9) (hB : BookOk m gs) (hI : IsInv m a b) (hk : k < gs.length) (hs : stayN m gs (ofF m a) k = 0) (hL : L ∈ gLf m gs 0 (ofF m b)) : k ∉ L := fun hkL => by
  obtain ⟨c, hc, rfl⟩ := List.mem_map.mp (show L ∈ (bL m gs (ofF m b)).map (unu 0) from hL)
  have hg := (List.mem_filter.mp ((goL_bL h1 h9 hB hI).mem_iff.mpr hc)).1
  rw [stay_goL hB (ofF_len m a) hk] at hs
  have hnil := List.eq_nil_of_length_eq_zero hs
  have := List.filter_eq_nil_iff.mp hnil c hg
  rw [unu_range c 0, show (fun x : Nat => x + 0) = id from rfl, List.map_id] at hkL
  exact this (List.mem_filter.mp hkL).2
theorem left_ok {m : Nat} {gs : List Int} {a b : Nat → Nat} {L : List Nat} (h1 : 1 ≤ m) (h9 : m ≤ 9) (hB : BookOk m gs) (hI : IsInv m a b) (hL : L ∈ gLf m gs 0 (ofF m b)) : more (ofF m a) (farL (row0 m) (outS gs (nI L) gs.length)) = [] := by
  obtain ⟨c, hc, rfl⟩ := List.mem_map.mp (show L ∈ (bL m gs (ofF m b)).map (unu 0) from hL)
  have hbo := outS_book (ks := nI (unu 0 c)) hB (Nat.le_refl gs.length)
  obtain ⟨cl, hrun, _⟩ := (mem_bL hB (row_ofF h1 h9 hI.symm) (ofF_len m b)).mp hc
  refine (come_far h1 h9 hbo (row_ofF h1 h9 hI) (ofF_len m a)).mp ((come_word h1 h9 hbo _ (Nat.le_refl _)).mpr ⟨selW gs c, ?_, (run_inv hI (selW_ok hB)).mp hrun⟩)
  rw [List.take_length, outS_sel cl]
  exact List.Sublist.refl _
theorem gLf_lvs {m : Nat} {gs y : List Int} {L : List Nat} (h60 : gs.length ≤ 60) (hL : L ∈ gLf m gs 0 y) : Lvs (nI L) gs.length ∧ L.length ≤ gs.length := by
  obtain ⟨c, hc, rfl⟩ := List.mem_map.mp (show L ∈ (bL m gs y).map (unu 0) from hL)
  have cl := bL_blen c hc
  have ul := unu_len 0 c
  refine ⟨⟨?_, fun k hk => ?_, by unfold nI; rw [List.length_map]; omega⟩, by omega⟩
  · unfold nI
    rw [List.pairwise_map]
    exact (unu_sorted 0 c).imp fun h => by omega
  · obtain ⟨z, hz, rfl⟩ := List.mem_map.mp hk
    have := (unu_ge z hz).2
    omega
theorem must_false {m k : Nat} {gs x : List Int} (h1 : 1 ≤ m) (h9 : m ≤ 9) (hB : BookOk m gs) (hr : IsRow x) (hl : x.length = m) (hk : k < gs.length) (hs : stayN m gs x k = 0) : ¬ more x (farL (row0 m) (outS gs [(k : Int)] gs.length)) = [] := fun z => by
  rw [lets_cnt h1 h9 (outS_book hB (Nat.le_refl _)) hr hl, outS_one hk] at z
  unfold stayN at hs
  omega
def shF (Ls : List (List Nat)) (i : Nat) : List Nat := (List.range i).filter fun k => Ls.all fun L => decide (k ∈ L)
theorem shF_succ (Ls : List (List Nat)) (i : Nat) : shF Ls (i + 1) = shF Ls i ++ if (Ls.all fun L => decide (i ∈ L)) = true then [i] else [] := by
  unfold shF
  rw [List.range_succ, List.filter_append]
  by_cases h : (Ls.all fun L => decide (i ∈ L)) = true
  · rw [if_pos h, List.filter_cons_of_pos (p := fun k => Ls.all fun L => decide (k ∈ L)) (a := i) h]; rfl
  · rw [if_neg h, List.filter_cons_of_neg (p := fun k => Ls.all fun L => decide (k ∈ L)) (a := i) h]; rfl
theorem shF_len (Ls : List (List Nat)) (i : Nat) : (shF Ls i).length ≤ i := by
  unfold shF; exact Nat.le_trans (List.length_filter_le _ _) (by rw [List.length_range]; exact Nat.le_refl _)
theorem shF_sub {Ls : List (List Nat)} {i : Nat} {L : List Nat} (hL : L ∈ Ls) : ∀ k ∈ shF Ls i, k ∈ L := fun k hk => of_decide_eq_true (List.all_eq_true.mp (List.mem_filter.mp hk).2 L hL)
def spRightL (K : PySem.W.Frag) (Pr Pb Pp Pm Po : Addr) : Sp := fun vs H Q _ => ∃ (a r : Addr) (gs ns : List Int) (m : Nat), vs = [.ref a, .ref r] ∧ SqT K H a (gs.map V.int) ∧ FTup H r (ns.map V.int) ∧ IsRow ns ∧ ns.length = m ∧ m ≤ 5 ∧ BookOk m gs ∧ gs.length ≤ 9 ∧ Come m gs gs.length ns ∧ TabG H Pr ∧ TabG H Pb ∧ TabG H Pp ∧ TabG H Pm ∧ TabG H Po ∧ ∀ H', Ex H H' → Q (.bl true) H'
theorem d_law_right {Pr Pb Pp Pm Po : Addr} (F : FnP K "_law_right" s_law_right f fd) (g : mg "_law_right" = some (.ref f)) (B : Bl mg) (C_greatest_left : CallDk P w K mg base n "greatest_left" ["book", "row", "most"] [.int 1000] (spGreatest K Pp Pr Pb)) (C_by_changes : CallD P w K mg base n "by_changes" ["book", "row"] (spByCh K Pr Pb)) (C_law_turns : CallD P w K mg base n "_law_turns" ["line"] (spTurns K)) (C_law_unused : CallD P w K mg base n "_law_unused" ["plan", "used"] (spUnused K)) (C_fewest : CallD P w K mg base n "fewest" ["book", "row"] (spFewest K Pr Pb Pp)) (C_goings : CallD P w K mg base n "goings" ["book", "row"] (spGoings K Pr Pb)) (C_law_listed_right : CallD P w K mg base n "_law_listed_right" ["plan", "line", "lines"] (spListedR K Pr Pb)) (C_musts : CallD P w K mg base n "musts" ["book", "row"] (spMusts K Pr Pb Pm)) (C_is_left : CallD P w K mg base n "is_left" ["book", "row", "leaving"] (spIsLeft K Pr Pb Po)) : CallD P w K mg base (n + 1) "_law_right" ["plan", "line"] (spRightL K Pr Pb Pp Pm Po) := by
  refine callD F g sc_law_right (fun _ _ _ _ _ _ us hl => match us, hl with | [_, _], _ => rfl) (fun vs H Q E h => ?_) (fun cdv A outer s H vs Q E _ hr hG h => ?_)
  · obtain ⟨a, r, gs, ns, m, rfl, _⟩ := h; rfl
  · obtain ⟨a, r, gs, ns, m, rfl, hT, hF, hR, hl, h5, hB, hg9, hC, hPr, hPb, hPp, hPm, hPo, q⟩ := h
    refine ⟨_, (pss_cons (ps_set (i := 2) sc_law_right.nd rfl (Or.inr rfl) (pe_cd C_greatest_left hr hG (pa_cons (pv 0) (pa_cons (pv 1) pa_nil))))
      (pss_cons (ps_if (pt_cmpR (k_ne (K := K) rfl hr.units) (pe_ix (k_ixl (K := K) rfl) (pe_c C_by_changes hr hG (pa_cons (pv 0) (pa_cons (pv 1) pa_nil))) pe_int (fun _ _ => rfl)) (pe_tup (pa_cons (pe_c C_law_turns hr hG (pa_cons (pv 1) pa_nil)) (pa_cons (pe_callB (k_len (K := K) rfl) (by rfl) B.len PySem.boot_len (pa_cons (pv 2) pa_nil)) pa_nil))) (nomark _))
      (pss_one (ps_ret pe_bl))
      pss_nil)
      (pss_cons (ps_if (pt_cmpR (k_ne (K := K) rfl hr.units) (pe_c C_law_unused hr hG (pa_cons (pv 0) (pa_cons (pe_c C_fewest hr hG (pa_cons (pv 0) (pa_cons (pv 1) pa_nil))) pa_nil))) (pe_ix (k_ixl (K := K) rfl) (pv 2) (pe_un un_neg pe_int) (fun _ _ => rfl)) (nomark _))
      (pss_one (ps_ret pe_bl))
      pss_nil)
      (pss_cons (ps_if (PW.pt (pw_and (pt_cmpR op_le (pe_c C_goings hr hG (pa_cons (pv 0) (pa_cons (pv 1) pa_nil))) pe_int (nomark _)) (pw_and1 (pt_not (pt_val (pe_c C_law_listed_right hr hG (pa_cons (pv 0) (pa_cons (pv 1) (pa_cons (pv 2) pa_nil)))))))))
      (pss_one (ps_ret pe_bl))
      pss_nil)
      (pss_cons (ps_for PassesOwn.never rfl (k_piL (K := K) rfl (pe_ix (k_ixt (K := K) rfl) (pe_c C_musts hr hG (pa_cons (pv 0) (pa_cons (pv 1) pa_nil))) pe_int (fun _ _ => rfl))) (pg_name (i := 3) sc_law_right.nd rfl (Or.inr rfl))
      (pss_one (ps_if (PW.pt (pw_or (pt_cmpR op_notBl (pe_c C_is_left hr hG (pa_cons (pv 0) (pa_cons (pv 1) (pa_cons (pe_tup (pa_cons (pv 3) pa_nil)) pa_nil)))) pe_bl (nomark _)) (pw_or1 (pt_cmpR (k_ne (K := K) rfl hr.units) (pe_lc (own := [("one", 4)]) (g := gName 4) rfl sc_law_right.nd (k_piL (K := K) rfl (pv 2)) (blkOk_by (N := N_law_right) (sc := defScope s_law_right) (by decide +kernel)) (fun _ _ _ _ _ => (pg_name (i := 4) sc_law_right.nd rfl (by first | exact Or.inl rfl | exact Or.inr rfl))) (fun _ _ _ _ _ => (pts_one (pt_cmpR (k_in (K := K) rfl) (pv 3) (pv 4) (by rfl)))) (fun _ _ _ _ _ => (pv 4))) (pe_lst pa_nil) (nomark _)))))
      (pss_one (ps_ret pe_bl))
      pss_nil)))
      (pss_cons (ps_setLc (i := 5) (own := [("k", 3)]) (g := gName 3) rfl sc_law_right.nd rfl rfl (sw_true rfl rfl rfl (by decide +kernel)) (pi_range1 rfl B.range (pa_cons (pe_callB (k_len (K := K) rfl) (by rfl) B.len PySem.boot_len (pa_cons (pv 0) pa_nil)) pa_nil)) (blkOk_by (N := N_law_right) (sc := defScope s_law_right) (by decide +kernel)) (fun _ _ _ _ _ => (pg_name (i := 3) sc_law_right.nd rfl (by first | exact Or.inl rfl | exact Or.inr rfl))) (fun _ _ _ _ _ => (pts_one (pt_cmpR (k_eq (K := K) rfl hr.units) (pe_lc (own := [("one", 4)]) (g := gName 4) rfl sc_law_right.nd (k_piL (K := K) rfl (pv 2)) (blkOk_in (N := N_law_right) (sc := defScope s_law_right) rfl rfl (by decide +kernel)) (fun _ _ _ _ _ => (pg_name (i := 4) sc_law_right.nd rfl (by first | exact Or.inl rfl | exact Or.inr rfl))) (fun _ _ _ _ _ => (pts_one (pt_cmpR (k_notIn (K := K) rfl) (pv 3) (pv 4) (by rfl)))) (fun _ _ _ _ _ => (pv 4))) (pe_lst pa_nil) (nomark _)))) (fun _ _ _ _ _ => (pv 3)))
      (pss_cons (ps_for PassesOwn.never rfl (k_piL (K := K) rfl (pe_slice (k_sll (K := K) rfl) (pv 2) po_none (po_some pe_int))) (pg_name (i := 4) sc_law_right.nd rfl (Or.inl rfl))
      (pss_one (ps_if (pt_cmpR op_notBl (pe_c C_is_left hr hG (pa_cons (pv 0) (pa_cons (pv 1) (pa_cons (k_tupOf (K := K) rfl (by rfl) B.tuple (pe_sortSetT2 (K := K) rfl rfl (by rfl) B.sorted (by decide +kernel) (by rfl) B.set (pe_op k_catU (pv 4) (k_tupOf (K := K) rfl (by rfl) B.tuple (pv 5))))) pa_nil)))) pe_bl (nomark _))
      (pss_one (ps_ret pe_bl))
      pss_nil)))
      (pss_one (ps_ret pe_bl))))))))), ?_⟩
    have sl : sizeLine = 16777216 := by decide
    obtain ⟨fa, fb, hI, ens⟩ := hR.inv
    rw [hl] at hI ens
    have h1 : 1 ≤ m := by have := hR.1; omega
    have h9 : m ≤ 9 := by omega
    have hmore := (come_far h1 h9 hB hR hl).mp hC
    subst ens
    have hRa := hR
    have hla := hl
    have hRb := row_ofF h1 h9 hI.symm
    have hlb := ofF_len m fb
    have hdn := (few_iff h1 h9 hB hI).mpr hC
    have hBa : BookOk (ofF m fa).length gs := by rw [hla]; exact hB
    have hlc := least_cg h1 h9 hB hI hdn
    have hcount := gLf_count (k := 0) h1 h9 hB hI
    have h512 : (gLf m gs 0 (ofF m fb)).length ≤ 512 := by
      unfold gLf
      rw [List.length_map]
      exact Nat.le_trans (bL_two m gs (ofF m fb)) (Nat.le_trans (Nat.pow_le_pow_right (by decide) hg9) (by decide))
    refine ⟨_, rfl, _, rfl, a, r, gs, m, fa, fb, rfl, hT, hF, hI, h1, h9, hB, by omega, hmore, hdn, by omega, hPr, hPb, hPp, fun l vs Ls H1 x1 nl e1 r1 hperm hsort => ?_⟩
    have hLl : Ls.length = (gLf m gs 0 (ofF m fb)).length := hperm.length_eq
    have hvl : vs.length = Ls.length := r1.length
    -- by_changes
    refine ⟨_, rfl, _, rfl, a, r, gs, ofF m fa, rfl, x1.sqt hT, (hF.ex x1).sqt, x1.tab hPr, x1.tab hPb, hRa, by omega, hBa, by omega, fun p6 ts H6 x6 np6 e6 r6 => ?_⟩
    rw [hla] at r6
    have y6 := x1.trans x6
    have hcg : ∀ c, (spS m gs gs.length (ofF m fa)).getD c 0 = ((cg (ofF m fa) gs (row0 m) c : Nat) : Int) := fun c => by
      have := spS_cg hB gs.length (Nat.le_refl _) (x := ofF m fa) c hla
      rw [List.take_length] at this; exact this
    obtain ⟨tl, etl⟩ := chg_first (l := spS m gs gs.length (ofF m fa)) (p := pairsN (ofF m fa)) (fun c hc => by rw [hcg, hlc.1 c hc]; rfl) (by rw [hcg, hlc.2.1]; have := hlc.2.2; omega)
    rw [hcg, ← hcount, ← hLl] at etl
    rw [etl] at r6
    obtain ⟨tp, ts', rfl, etp⟩ : ∃ tp ts', ts = V.ref tp :: ts' ∧ H6 tp = some (.tup [.int (pairsN (ofF m fa) : Nat), .int (Ls.length : Nat)]) := by
      cases r6 with
      | cons h _ => obtain ⟨t, a, b⟩ := h; exact ⟨t, _, by rw [a], b⟩
    refine ⟨p6, _, _, _, rfl, rfl, SqL.of e6, at_of (j := 0) rfl rfl, ?_⟩
    refine ⟨_, rfl, r, ofF m fa, rfl, (hF.ex y6).sqt, by omega, fun H8 x8 => ?_⟩
    have y8 := y6.trans x8
    have x18 := x6.trans x8
    have e8 := Ex.lst x18 e1
    have etp8 := x8.tup etp
    refine ⟨_, rfl, l, _, rfl, .inl (SqL.of e8), by show 2 ≤ sizeLine; decide, fun t9 nt9 => ?_⟩
    rw [hvl]
    have x9 : Ex H8 (upd H8 t9 (.tup [.int (pairsN (ofF m fa) : Nat), .int (Ls.length : Nat)])) := ex_new nt9
    have e9 : (upd H8 t9 (.tup [.int (pairsN (ofF m fa) : Nat), .int (Ls.length : Nat)])) t9 = some (.tup [.int (pairsN (ofF m fa) : Nat), .int (Ls.length : Nat)]) := upd_same
    have etp9 := x9.tup etp8
    have y9 := y8.trans x9
    have x19 := x18.trans x9
    generalize upd H8 t9 (.tup [.int (pairsN (ofF m fa) : Nat), .int (Ls.length : Nat)]) = H9 at e9 etp9 y9 x19 ⊢
    refine ⟨.tuple [.int (pairsN (ofF m fa) : Nat), .int (Ls.length : Nat)], .tuple [.int (pairsN (ofF m fa) : Nat), .int (Ls.length : Nat)], .tup (SqT.of etp9) (.cons (.int _) (.cons (.int _) .nil)), .tup (SqT.of e9) (.cons (.int _) (.cons (.int _) .nil)), rfl, rfl, ?_⟩
    rw [SeqAt.eqv_refl _ (by rfl)]
    refine ⟨_, rfl, iteF ?_⟩
    -- unused
    refine ⟨_, rfl, _, rfl, _, rfl, a, r, gs, m, fa, fb, rfl, y9.sqt hT, hF.ex y9, hI, h1, h9, hB, by omega, y9.tab hPr, y9.tab hPb, y9.tab hPp, fun v Hb xb hv => ?_⟩
    obtain ⟨td, rfl, ntd, etd⟩ := hv.1 hdn
    have yb := y9.trans xb
    refine ⟨a, td, gs, tld gs (ofF m fb) gs.length, rfl, yb.sqt hT, SqL.of etd, by omega, fun pu Hc xc ec => ?_⟩
    rw [unN_tld] at ec
    have yc := yb.trans xc
    have x1c := (x19.trans xb).trans xc
    have elc := Ex.lst x1c e1
    have rc := r1.exB x1c
    obtain ⟨nn, hnn, hlast⟩ := last_grdL h1 h9 hB hRb hlb hdn hperm hsort
    have gv : vs[nn]? = some vs[nn] := List.getElem?_eq_getElem (by omega)
    obtain ⟨G, tg, hG, evn, etg⟩ := rc.at gv
    rw [hlast] at hG
    cases hG
    rw [evn] at gv
    refine ⟨_, rfl, 1, rfl, l, _, _, _, rfl, rfl, SqL.of elc, (at_neg (by rw [hvl, hnn])).trans gv, ?_⟩
    have nG : Nice 1 _ (pw ((List.range gs.length).filter fun i => decide (asc gs (ofF m fb) i))) := nice_tuple (k := 0) (L := 51) (m := 1000) (nice_ints fun i hi => by
      obtain ⟨z, hz, rfl⟩ := List.mem_map.mp hi
      have := List.mem_range.mp (List.mem_filter.mp hz).1
      omega) (by unfold nI; rw [List.length_map, List.length_map]; have := List.length_filter_le (fun i => decide (asc gs (ofF m fb) i)) (List.range gs.length); rw [List.length_range] at this; omega)
    refine ⟨_, _, dp_row (SqT.of ec), dp_row (SqT.of etg), nG.shaped (by decide), nG.shaped (by decide), ?_⟩
    rw [eqv_rows, decide_eq_true rfl]
    refine ⟨_, rfl, iteF ?_⟩
    -- goings
    refine ⟨_, rfl, _, rfl, a, r, gs, ofF m fa, rfl, yc.sqt hT, (hF.ex yc).sqt, yc.tab hPr, yc.tab hPb, hRa, by omega, hBa, by omega, fun Hd xd => ?_⟩
    have yd := yc.trans xd
    have x1d := x1c.trans xd
    rw [← goL_wN hBa rfl, hla]
    apply laterH (R := fun He => Ex Hd He)
    · intro rest
      refine ⟨_, _, rfl, rfl, _, rfl, ?_⟩
      by_cases hc : (goL (ofF m fa) gs (row0 m)).length ≤ 200
      · rw [decide_eq_true (show ((goL (ofF m fa) gs (row0 m)).length : Int) ≤ 200 by omega)]
        refine iteT ?_
        refine ⟨_, rfl, _, rfl, _, rfl, a, r, l, gs, m, fa, fb, vs, Ls, rfl, yd.sqt hT, hF.ex yd, hI, h1, by omega, hB, by omega, by omega, yd.tab hPr, yd.tab hPb, Ex.lst x1d e1, r1.exB x1d, hperm, hsort, fun He xe => ?_⟩
        exact ⟨_, rfl, iteF (rest He xe)⟩
      · rw [decide_eq_false (show ¬ ((goL (ofF m fa) gs (row0 m)).length : Int) ≤ 200 by omega)]
        exact iteF (rest Hd ExB.refl)
    intro He xe
    have ye := yd.trans xe
    have x1e := x1d.trans xe
    -- musts
    refine ⟨_, rfl, _, rfl, a, r, gs, ofF m fa, rfl, ye.sqt hT, hF.ex ye, ye.tab hPr, ye.tab hPb, ye.tab hPm, hRa, by omega, hBa, by omega, fun v Hf xf hv => ?_⟩
    have hpos : 0 < wN (row0 m) gs (ofF m fa) := (lets_cnt h1 h9 hB hRa hla).mp hmore
    rw [hla] at hv
    obtain ⟨pm, al, ne, rfl, nal, nne, epm, eal, ene⟩ : ∃ p al ne : Addr, v = .ref p ∧ He al = none ∧ He ne = none ∧ Hf p = some (.tup [.ref al, .ref ne]) ∧ Hf al = some (.lst ((selN (fun k => decide (stayN m gs (ofF m fa) k = 0)) gs.length).map V.int)) ∧ Hf ne = some (.lst ((selN (fun k => decide (chgN m gs (ofF m fa) k = 0)) gs.length).map V.int)) := by
      rcases hv with ⟨z, _⟩ | ⟨_, hv⟩
      · omega
      · exact hv
    have yf := ye.trans xf
    have x1f := x1e.trans xf
    refine ⟨pm, _, _, _, rfl, rfl, SqT.of epm, at_of (j := 0) rfl rfl, al, rfl, ⟨_, SqL.of eal⟩, ?_⟩
    refine for_it (walk_list (xs := (selN (fun k => decide (stayN m gs (ofF m fa) k = 0)) gs.length).map V.int)) (fun j σ H' => ∃ v3 v4 : Option V, σ = [some (.ref a), some (.ref r), some (.ref l), v3, v4, none] ∧ Ex Hf H') ⟨none, none, rfl, ExB.refl⟩ (fun j σ H' _ ⟨_, _, _, x⟩ => SqL.of (Ex.lst x eal)) ?_ ?_
    · rintro j x σ Hg' Hg hj ⟨v3, v4, rfl, xg⟩ ⟨rfl, hx⟩
      obtain ⟨kk, hkm, rfl⟩ : ∃ k : Nat, ((k : Int) ∈ selN (fun k => decide (stayN m gs (ofF m fa) k = 0)) gs.length) ∧ x = .int (k : Int) := by
        rw [List.getElem?_map] at hx
        obtain ⟨i, hi, e⟩ := Option.map_eq_some_iff.mp hx
        have hi := List.mem_of_getElem? hi
        obtain ⟨k, _, e2⟩ := List.mem_map.mp hi
        exact ⟨k, by rw [show ((k : Nat) : Int) = i from e2]; exact hi, by rw [← e, show i = ((k : Nat) : Int) from e2.symm]⟩
      obtain ⟨hkk, hst⟩ := selN_mem.mp hkm
      have hst := of_decide_eq_true hst
      have yg := yf.trans xg
      refine ⟨_, rfl, _, rfl, _, rfl, by show 1 ≤ sizeLine; decide, fun t nt => ?_⟩
      have xt : Ex Hg (upd Hg t (.tup [.int (kk : Int)])) := ex_new nt
      have et : (upd Hg t (.tup [.int (kk : Int)])) t = some (.tup ([(kk : Int)].map V.int)) := upd_same
      have yt := yg.trans xt
      have xgt := xg.trans xt
      generalize upd Hg t (.tup [.int (kk : Int)]) = Ht at xt et yt xgt ⊢
      refine ⟨a, r, t, gs, ofF m fa, [(kk : Int)], rfl, yt.sqt hT, (hF.ex yt).sqt, SqT.of et, yt.tab hPr, yt.tab hPb, yt.tab hPo, hRa, hBa, by omega, ⟨List.pairwise_singleton _ _, fun z hz => by rw [List.mem_singleton.mp hz]; omega, by show 1 < 64; decide⟩, by rw [hla]; exact hmore, fun Hh xh => ?_⟩
      rw [hla, decide_eq_false (must_false h1 h9 hB hRa hla hkk hst)]
      refine ⟨_, _, rfl, rfl, _, rfl, ?_⟩
      refine iteF ?_
      have x1h := ((x1f.trans xgt).trans xh)
      have eh := Ex.lst x1h e1
      have rh := r1.exB x1h
      refine ⟨_, rfl, l, rfl, ⟨_, SqL.of eh⟩, fun E nE => ?_⟩
      refine lc_it (walk_list (xs := vs)) (fun j H' => Ex Hh H' ∧ H' E = some (.lst [])) ⟨ex_new nE, upd_same⟩ (fun j H' _ y => SqL.of (Ex.lst y.1 eh)) ?_ ?_
      · rintro j2 x H2' H2 hj2 ⟨x2, e2⟩ ⟨rfl, hx2⟩
        obtain ⟨L, tt, eL, rfl, et2⟩ := (rh.exB x2).at hx2
        have hLg := hperm.mem_iff.mp (List.mem_of_getElem? eL)
        have hnot := must_out h1 h9 hB hI hkk hst hLg
        refine ⟨rfl, ?_⟩
        refine ⟨_, rfl, _, rfl, tt, _, rfl, .inr (SqT.of et2), rfl, flat_ints _, _, rfl, ?_⟩
        rw [if_neg (by decide), inV_ints, decide_eq_false (fun z => hnot (mem_cast.mp z))]
        exact iteF ⟨x2, e2⟩
      rintro Hi ⟨xi, ei⟩
      refine ⟨Nat.zero_le _, fun E2 nE2 => ?_⟩
      have xE : Ex Hi (upd Hi E2 (.lst [])) := ex_new nE2
      refine ⟨.list [], .list [], .lst (SqL.of (Ex.lst xE ei)) .nil, .lst (SqL.of upd_same) .nil, rfl, rfl, ?_⟩
      rw [SeqAt.eqv_refl _ (by rfl)]
      exact ⟨_, rfl, iteF ⟨_, _, rfl, ((xgt.trans xh).trans xi).trans xE⟩⟩
    · rintro σ Hg ⟨v3, v4, rfl, xg⟩
      have yg := yf.trans xg
      have x1g := x1f.trans xg
      refine ⟨_, rfl, a, _, rfl, .inr (yg.sqt hT), _, by rw [List.length_map], by omega, by omega, fun D nD => ?_⟩
      refine lc_it walk_range (fun i H' => Ex Hg H' ∧ H' D = some (.lst ((nI (shF Ls i)).map V.int))) ⟨ex_new nD, upd_same⟩ (fun _ _ _ _ => trivial) ?_ ?_
      · rintro i x H2' H2 hi ⟨x2, e2⟩ ⟨rfl, ex⟩
        have ex : x = V.int (i : Int) := ex.trans (congrArg V.int (Int.zero_add _))
        subst ex
        rw [Int.toNat_natCast] at hi
        have x12 := x1g.trans x2
        have el2 := Ex.lst x12 e1
        have r2 := r1.exB x12
        refine ⟨rfl, ?_⟩
        refine ⟨_, rfl, l, rfl, ⟨_, SqL.of el2⟩, fun E nE => ?_⟩
        refine lc_it (walk_list (xs := vs)) (fun j H' => Ex H2 H' ∧ ∃ ws, H' E = some (.lst ws) ∧ RefL H' ws ((Ls.take j).filter fun L => !decide (i ∈ L))) ⟨ex_new nE, [], upd_same, .nil⟩ (fun j H' _ y => SqL.of (Ex.lst y.1 el2)) ?_ ?_
        · rintro j x H3' H3 hj ⟨x3, ws, e3, r3⟩ ⟨rfl, hx⟩
          obtain ⟨L, tt, eL, rfl, et3⟩ := (r2.exB x3).at hx
          have wl := r3.length
          have wle := List.length_filter_le (fun L : List Nat => !decide (i ∈ L)) (Ls.take j)
          rw [List.length_take] at wle
          refine ⟨rfl, ?_⟩
          refine ⟨_, rfl, _, rfl, tt, _, rfl, .inr (SqT.of et3), rfl, flat_ints _, _, rfl, ?_⟩
          rw [if_pos rfl, inV_ints]
          have tk : Ls.take (j + 1) = Ls.take j ++ [L] := by rw [List.take_add_one, eL]; rfl
          by_cases hin : i ∈ L
          · rw [decide_eq_true (mem_cast.mpr hin)]
            refine iteF ⟨x3, ws, e3, ?_⟩
            rw [tk, List.filter_append, List.filter_cons_of_neg (by rw [decide_eq_true hin]; decide), List.filter_nil, List.append_nil]
            exact r3
          · rw [decide_eq_false (fun z => hin (mem_cast.mp z))]
            have xS := ex_set (ys := ws ++ [.ref tt]) e3
            refine iteT ⟨_, rfl, ws, e3, by rw [sl]; omega, x3.then xS fun y hy => .inl (hy ▸ nE), _, upd_same, ?_⟩
            rw [tk, List.filter_append, List.filter_cons_of_pos (by rw [decide_eq_false hin]; rfl), List.filter_nil]
            exact (r3.exB xS).app (.cons ⟨tt, rfl, xS.tup et3⟩ .nil)
        rintro H3 ⟨x3, ws, e3, r3⟩
        rw [hvl, List.take_length] at r3
        refine ⟨Nat.zero_le _, fun E2 nE2 => ?_⟩
        have xE : Ex H3 (upd H3 E2 (.lst [])) := ex_new nE2
        have eE2 : (upd H3 E2 (.lst [])) E2 = some (.lst []) := upd_same
        have e4 := Ex.lst xE e3
        have r4 := r3.exB xE
        have x24 := x3.trans xE
        have eD4 := Ex.lst x24 e2
        have xg4 := x2.trans x24
        generalize upd H3 E2 (.lst []) = H4 at eE2 e4 r4 x24 eD4 xg4 ⊢
        have nc : Nice 2 _ (.list ((Ls.filter fun L => !decide (i ∈ L)).map pw)) := nice_lvs (q := 60) (by decide) fun L hL => by
          have hL' := (List.mem_filter.mp hL).1
          have hg := hperm.mem_iff.mp hL'
          obtain ⟨⟨_, b, _⟩, c⟩ := gLf_lvs (by omega) hg
          refine ⟨by omega, fun z hz => ?_⟩
          have := (b z (List.mem_map.mpr ⟨z, hz, rfl⟩)).2
          omega
        refine ⟨.list ((Ls.filter fun L => !decide (i ∈ L)).map pw), .list [], .lst (SqL.of e4) (RefL.dp r4), .lst (SqL.of eE2) .nil, nc.shaped (by decide), rfl, ?_⟩
        rw [eqv_nil_refs]
        refine ⟨_, rfl, ?_⟩
        have es := shF_succ Ls i
        have sl2 := shF_len Ls i
        have sln : (nI (shF Ls i)).length = (shF Ls i).length := by unfold nI; rw [List.length_map]
        by_cases hall : (Ls.all fun L => decide (i ∈ L)) = true
        · have hn : (Ls.filter fun L => !decide (i ∈ L)).map pw = [] := by
            rw [List.filter_eq_nil_iff.mpr fun L hL => by rw [List.all_eq_true.mp hall L hL]; decide]; rfl
          rw [decide_eq_true hn]
          rw [if_pos hall] at es
          refine iteT ⟨_, rfl, _, eD4, small1000 (by rw [List.length_map, sln]; omega), xg4.then (ex_set eD4) fun y hy => .inl (hy ▸ nD), ?_⟩
          rw [upd_same, es]
          unfold nI
          rw [List.map_append, List.map_append]; rfl
        · have hn : ¬ (Ls.filter fun L => !decide (i ∈ L)).map pw = [] := fun z => hall (List.all_eq_true.mpr fun L hL => by
            have z := List.map_eq_nil_iff.mp z
            have := List.filter_eq_nil_iff.mp z L hL
            cases hd : decide (i ∈ L) with
            | true => rfl
            | false => rw [hd] at this; exact absurd rfl this)
          rw [decide_eq_false hn]
          rw [if_neg hall, List.append_nil] at es
          exact iteF ⟨xg4, by rw [es]; exact eD4⟩
      rintro Hh ⟨xh, eh⟩
      rw [Int.toNat_natCast] at eh
      have yh := yg.trans xh
      have x1h := x1g.trans xh
      have elh := Ex.lst x1h e1
      refine ⟨_, rfl, _, rfl, l, _, rfl, SqL.of elh, fun q1 nq1 => ?_⟩
      have xq : Ex Hh (upd Hh q1 (.lst (cutV vs none (some 10)))) := ex_new nq1
      have eq : (upd Hh q1 (.lst (cutV vs none (some 10)))) q1 = some (.lst (vs.take 10)) := by
        rw [upd_same, show (10 : Int) = ((10 : Nat) : Int) from rfl, cutV_to]
      have yq := yh.trans xq
      have x1q := x1h.trans xq
      have ehq := Ex.lst xq eh
      generalize upd Hh q1 (.lst (cutV vs none (some 10))) = Hq at xq eq yq x1q ehq ⊢
      have rq := r1.exB x1q
      refine ⟨q1, rfl, ⟨_, SqL.of eq⟩, ?_⟩
      refine for_it (walk_list (xs := vs.take 10)) (fun j σ H' => ∃ v3 v4 : Option V, σ = [some (.ref a), some (.ref r), some (.ref l), v3, v4, some (.ref D)] ∧ Ex Hq H') ⟨_, _, rfl, ExB.refl⟩ (fun j σ H' _ ⟨_, _, _, x⟩ => SqL.of (Ex.lst x eq)) ?_ ?_
      · rintro j x σ H2' H2 hj ⟨v3, v4, rfl, x2⟩ ⟨rfl, hx⟩
        rw [List.getElem?_take_of_lt (by rw [List.length_take] at hj; omega)] at hx
        obtain ⟨L, tt, eL, rfl, et⟩ := (rq.exB x2).at hx
        have hLm := List.mem_of_getElem? eL
        have hLg := hperm.mem_iff.mp hLm
        obtain ⟨hLv, hLl⟩ := gLf_lvs (by omega) hLg
        have y2 := yq.trans x2
        have eh2 := Ex.lst x2 ehq
        refine ⟨_, rfl, _, rfl, _, rfl, _, rfl, D, _, rfl, .inl ⟨SqL.of eh2, fun p3 H3 x3 np3 e3 => ?_⟩⟩
        have e3' : H3 p3 = some (.tup ((nI (shF Ls gs.length)).map V.int)) := e3
        have slen := shF_len Ls gs.length
        refine ⟨tt, p3, _, _, rfl, rfl, x3.tup et, e3', by rw [List.length_map, List.length_map, sl]; unfold nI; rw [List.length_map, List.length_map]; omega, fun p4 H4 x4 e4 => ?_⟩
        refine ⟨p4, nI L ++ nI (shF Ls gs.length), rfl, SqT.of (by rw [List.map_append]; exact e4), by rw [List.length_append]; unfold nI; rw [List.length_map, List.length_map]; omega, fun p5 ms H5 hms hmm x5 np5 e5 => ?_⟩
        have ems : ms = nI L := rise_eq hms hLv.1 fun k => by
          rw [hmm k, List.mem_append]
          refine ⟨fun z => z.elim id fun z => ?_, .inl⟩
          obtain ⟨u, hu, rfl⟩ := List.mem_map.mp z
          exact List.mem_map.mpr ⟨u, shF_sub hLm u hu, rfl⟩
        subst ems
        refine ⟨p5, _, rfl, .inl ⟨SqL.of e5, fun p6 H6 x6 np6 e6 => ?_⟩⟩
        have x26 := ((x3.trans x4).trans x5).trans x6
        have yl := y2.trans x26
        refine ⟨a, r, p6, gs, ofF m fa, nI L, rfl, yl.sqt hT, (hF.ex yl).sqt, SqT.of e6, yl.tab hPr, yl.tab hPb, yl.tab hPo, hRa, hBa, by omega, hLv, by rw [hla]; exact hmore, fun H7 x7 => ?_⟩
        rw [hla, decide_eq_true (left_ok h1 h9 hB hI hLg)]
        exact ⟨_, _, rfl, rfl, _, rfl, iteF ⟨_, _, rfl, (x2.trans x26).trans x7⟩⟩
      · rintro σ H2 ⟨v3, v4, rfl, x2⟩
        exact q H2 (yq.trans x2)
end
end K70
namespace K70
open PySem PySem.Spec PyProof.Rows L2 GxR MM
section
variable {P : Program} {w : World} {K : PySem.W.Frag} {mg : Str → Option Value} {base : Heap} {f : Addr} {fd : FuncData} {n : Nat}
theorem cells_n (L : Int) : ∃ N : Nat, (if (if L < 4 then L else 4) > 1 then (if L < 4 then L else 4) else 1) = (N : Int) ∧ N ≤ 4 := by
  refine ⟨(if (if L < 4 then L else 4) > 1 then (if L < 4 then L else 4) else 1).toNat, ?_, ?_⟩
  · split <;> split <;> omega
  · split <;> split <;> omega
def spLaw (K : PySem.W.Frag) (Pr Pb Pp Pm Po : Addr) : Sp := fun vs H Q _ => ∃ (a : Addr) (ns : List Int), vs = [.ref a] ∧ Script K H a (ns.map V.int) ∧ ns.length ≤ 63 ∧ TabG H Pr ∧ TabG H Pb ∧ TabG H Pp ∧ TabG H Pm ∧ TabG H Po ∧ ∀ H', Q (.bl true) H'
theorem d_law {Pr Pb Pp Pm Po : Addr} (F : FnP K "law" s_law f fd) (g : mg "law" = some (.ref f)) (B : Bl mg) (C_law_cell_at : CallD P w K mg base n "_law_cell_at" ["script", "k"] (spCellAt K)) (C_law_bag : CallD P w K mg base n "_law_bag" ["cell"] spBagD) (C_law_draw : CallD P w K mg base n "_law_draw" ["bag", "sides"] spDraw) (C_law_plan : CallD P w K mg base n "_law_plan" ["bag", "size", "longest"] (spPlanD K)) (C_law_let_row : CallD P w K mg base n "_law_let_row" ["bag", "plan", "size"] (spLetRow K)) (C_law_right : CallD P w K mg base n "_law_right" ["plan", "line"] (spRightL K Pr Pb Pp Pm Po)) : CallD P w K mg base (n + 1) "law" ["script"] (spLaw K Pr Pb Pp Pm Po) := by
  refine callD F g sc_law (fun _ _ _ _ _ _ us hl => match us, hl with | [_], _ => rfl) (fun vs H Q E h => ?_) (fun cdv A outer s H vs Q E _ hr hG h => ?_)
  · obtain ⟨a, ns, rfl, _⟩ := h; rfl
  · obtain ⟨a, ns, rfl, hS, hl, hPr, hPb, hPp, hPm, hPo, q⟩ := h
    refine ⟨_, (pss_cons (ps_for PassesOwn.never rfl (pi_range1 rfl B.range (pa_cons (pe_callB (call_max2 rfl) (by rfl) B.max (by decide +kernel) (pa_cons pe_int (pa_cons (pe_callB (call_min2 rfl) (by rfl) B.min (by decide +kernel) (pa_cons pe_int (pa_cons (pe_callB (k_len (K := K) rfl) (by rfl) B.len PySem.boot_len (pa_cons (pv 0) pa_nil)) pa_nil))) pa_nil))) pa_nil)) (pg_name (i := 1) sc_law.nd rfl (Or.inl rfl))
      (pss_cons (ps_set (i := 2) sc_law.nd rfl (Or.inl rfl) (pe_c C_law_bag hr hG (pa_cons (pe_op op_add (pe_c C_law_cell_at hr hG (pa_cons (pv 0) (pa_cons (pv 1) pa_nil))) pe_int) pa_nil)))
      (pss_cons (ps_set (i := 3) sc_law.nd rfl (Or.inl rfl) (pe_op op_add pe_int (pe_c C_law_draw hr hG (pa_cons (pv 2) (pa_cons pe_int pa_nil)))))
      (pss_cons (ps_set (i := 4) sc_law.nd rfl (Or.inl rfl) (pe_c C_law_plan hr hG (pa_cons (pv 2) (pa_cons (pv 3) (pa_cons pe_int pa_nil)))))
      (pss_one (ps_if (pt_not (pt_val (pe_c C_law_right hr hG (pa_cons (pv 4) (pa_cons (pe_c C_law_let_row hr hG (pa_cons (pv 2) (pa_cons (pv 4) (pa_cons (pv 3) pa_nil)))) pa_nil)))))
      (pss_one (ps_ret pe_bl))
      pss_nil))))))
      (pss_one (ps_ret pe_bl))), ?_⟩
    have sl : sizeLine = 16777216 := by decide
    refine ⟨_, rfl, a, _, rfl, .inl hS.sql, _, _, rfl, _, _, rfl, ?_⟩
    obtain ⟨N, eN, hN4⟩ := cells_n (((ns.map V.int).length : Nat) : Int)
    rw [eN]
    refine ⟨_, rfl, by omega, by omega, ?_⟩
    rw [Int.toNat_natCast]
    refine for_it walk_range (fun i σ H1 => ∃ v1 v2 v3 v4, σ = [some (.ref a), v1, v2, v3, v4] ∧ Ex H H1) ⟨none, none, none, none, rfl, ExB.refl⟩ (fun _ _ _ _ _ => trivial) ?_ ?_
    · rintro i x σ H1' H1 hi ⟨v1, v2, v3, v4, rfl, x1⟩ ⟨rfl, rfl⟩
      -- bag
      refine ⟨_, rfl, _, rfl, a, ns, i, by simp only [Int.zero_add, List.append_nil], (hS.ex x1).sql, fun c => ?_⟩
      refine ⟨_, _, rfl, rfl, _, rfl, fun b H2 x2 nb B2 => ?_⟩
      have ob : ∀ z, At1 b z → H1 z = none ∨ False := fun z hz => .inl (by rw [show z = b from hz]; exact nb)
      -- size
      refine ⟨_, rfl, b, 5, 0, rfl, B2, by decide, by decide, by decide, fun u2 H3 u20 u21 x3 B3 => ?_⟩
      refine ⟨_, _, rfl, rfl, ?_⟩
      obtain ⟨sz, hsz⟩ : ∃ sz : Nat, (1 : Int) + u2 = (sz : Int) := ⟨(1 + u2).toNat, by omega⟩
      have sz1 : 1 ≤ sz := by omega
      have sz5 : sz ≤ 5 := by omega
      have sz9 : sz ≤ 9 := by omega
      show gName 3 (V.int (1 + u2)) _ _ _
      rw [hsz]
      -- plan
      refine ⟨_, rfl, _, rfl, b, sz, 9, 1, rfl, B3, by decide, sz1, sz9, by decide, fun pp gs H4 hgs glen x4 hpp B4 => ?_⟩
      -- line
      refine ⟨_, rfl, _, rfl, _, rfl, _, rfl, b, pp, gs, sz, 201, rfl, B4, by decide, hpp, sz1, sz9, hgs, by omega, fun pl ln H5 hR hl2 hC x5 hpl => ?_⟩
      have y5 : Ex H1 H5 := x2.then ((x3.trans x4).trans x5) ob
      have y := x1.trans y5
      refine ⟨pp, pl, gs, ln, sz, rfl, x5.sqt hpp, hpl, hR, hl2, sz5, hgs, glen, hC, y.tab hPr, y.tab hPb, y.tab hPp, y.tab hPm, y.tab hPo, fun H6 x6 => ?_⟩
      exact ⟨_, rfl, iteF ⟨_, _, _, _, rfl, y.trans x6⟩⟩
    · rintro σ H1 ⟨v1, v2, v3, v4, rfl, x1⟩
      exact q H1
end
end K70
namespace K70
open PySem PySem.Spec PyProof.Rows L2 GxR MM
/-! ### the head: facts by names, the run -/
section
variable {P : Program} {w : World} {K : PySem.W.Frag} {h base : Heap} {mg : Str → Option Value} {f : Addr}
theorem bl_of (X : K.In h) (G : h.Ns mainGlobals mg) (c : He.SaysD fas fns K) : Bl mg :=
  ⟨He.free_ok X G (c.fact 59), He.free_ok X G (c.fact 60), He.free_ok X G (c.fact 61), He.free_ok X G (c.fact 62), He.free_ok X G (c.fact 63), He.free_ok X G (c.fact 64), He.free_ok X G (c.fact 65), He.free_ok X G (c.fact 66), He.free_ok X G (c.fact 67), He.free_ok X G (c.fact 68), He.free_ok X G (c.fact 69), He.free_ok X G (c.fact 70), He.free_ok X G (c.fact 71), He.free_ok X G (c.fact 72), He.free_ok X G (c.fact 73), He.free_ok X G (c.fact 74), He.free_ok X G (c.fact 75), He.free_ok X G (c.fact 76), He.free_ok X G (c.fact 77)⟩
theorem code_is_row {f : Addr} {fd : FuncData} (F : FnP K "is_row" s_is_row f fd) (e : f = He.fAd K ("is_row", none)) : ∀ oc od fd osl, K.lookup f = some ⟨oc, od, .func fd, osl⟩ → fd.code = .ref (He.cT K ("is_row", none)).1 := fun oc od fd osl lk => by
  obtain ⟨oc', od', dV, kV, doc, pm, an, cdv', ct, osl', e1, lk', hcd, _⟩ := F.ex
  subst e1
  rw [lk'] at lk
  cases lk
  obtain ⟨c, rfl⟩ := He.codeIn_ref hcd
  rw [e] at lk'
  show Value.ref c = Value.ref (He.codeOf K ("is_row", none))
  rw [He.codeOf_eq lk' rfl]
theorem code_is_book {f : Addr} {fd : FuncData} (F : FnP K "is_book" s_is_book f fd) (e : f = He.fAd K ("is_book", none)) : ∀ oc od fd osl, K.lookup f = some ⟨oc, od, .func fd, osl⟩ → fd.code = .ref (He.cT K ("is_book", none)).1 := fun oc od fd osl lk => by
  obtain ⟨oc', od', dV, kV, doc, pm, an, cdv', ct, osl', e1, lk', hcd, _⟩ := F.ex
  subst e1
  rw [lk'] at lk
  cases lk
  obtain ⟨c, rfl⟩ := He.codeIn_ref hcd
  rw [e] at lk'
  show Value.ref c = Value.ref (He.codeOf K ("is_book", none))
  rw [He.codeOf_eq lk' rfl]
theorem code_places_of {f : Addr} {fd : FuncData} (F : FnP K "places_of" s_places_of f fd) (e : f = He.fAd K ("places_of", none)) : ∀ oc od fd osl, K.lookup f = some ⟨oc, od, .func fd, osl⟩ → fd.code = .ref (He.cT K ("places_of", none)).1 := fun oc od fd osl lk => by
  obtain ⟨oc', od', dV, kV, doc, pm, an, cdv', ct, osl', e1, lk', hcd, _⟩ := F.ex
  subst e1
  rw [lk'] at lk
  cases lk
  obtain ⟨c, rfl⟩ := He.codeIn_ref hcd
  rw [e] at lk'
  show Value.ref c = Value.ref (He.codeOf K ("places_of", none))
  rw [He.codeOf_eq lk' rfl]
theorem code_musts {f : Addr} {fd : FuncData} (F : FnP K "musts" s_musts f fd) (e : f = He.fAd K ("musts", none)) : ∀ oc od fd osl, K.lookup f = some ⟨oc, od, .func fd, osl⟩ → fd.code = .ref (He.cT K ("musts", none)).1 := fun oc od fd osl lk => by
  obtain ⟨oc', od', dV, kV, doc, pm, an, cdv', ct, osl', e1, lk', hcd, _⟩ := F.ex
  subst e1
  rw [lk'] at lk
  cases lk
  obtain ⟨c, rfl⟩ := He.codeIn_ref hcd
  rw [e] at lk'
  show Value.ref c = Value.ref (He.codeOf K ("musts", none))
  rw [He.codeOf_eq lk' rfl]
theorem code_is_of_meetings {f : Addr} {fd : FuncData} (F : FnP K "is_of_meetings" s_is_of_meetings f fd) (e : f = He.fAd K ("is_of_meetings", none)) : ∀ oc od fd osl, K.lookup f = some ⟨oc, od, .func fd, osl⟩ → fd.code = .ref (He.cT K ("is_of_meetings", none)).1 := fun oc od fd osl lk => by
  obtain ⟨oc', od', dV, kV, doc, pm, an, cdv', ct, osl', e1, lk', hcd, _⟩ := F.ex
  subst e1
  rw [lk'] at lk
  cases lk
  obtain ⟨c, rfl⟩ := He.codeIn_ref hcd
  rw [e] at lk'
  show Value.ref c = Value.ref (He.codeOf K ("is_of_meetings", none))
  rw [He.codeOf_eq lk' rfl]
theorem facts (X : K.In h) (G : h.Ns mainGlobals mg) (c : He.SaysD fas fns K) (cm : exB K = true) (TB0 : TabB h mg (He.cT K ("is_row", none)).1 (He.cT K ("is_row", none)).2) (TB1 : TabB h mg (He.cT K ("is_book", none)).1 (He.cT K ("is_book", none)).2) (TB2 : TabB h mg (He.cT K ("places_of", none)).1 (He.cT K ("places_of", none)).2) (TB3 : TabB h mg (He.cT K ("musts", none)).1 (He.cT K ("musts", none)).2) (TB4 : TabB h mg (He.cT K ("is_of_meetings", none)).1 (He.cT K ("is_of_meetings", none)).2) : CallD P w K mg h 12 "law" ["script"] (spLaw K (He.cT K ("is_row", none)).2 (He.cT K ("is_book", none)).2 (He.cT K ("places_of", none)).2 (He.cT K ("musts", none)).2 (He.cT K ("is_of_meetings", none)).2) := by
  have B := bl_of X G c
  obtain ⟨tk0, m_MOST_PEOPLE⟩ := He.int_ok X G (c.fact 0 (f := .int "MOST_PEOPLE" 9) rfl)
  obtain ⟨tk1, m_MOST_GONE_THROUGH⟩ := He.int_ok X G (c.fact 1 (f := .int "MOST_GONE_THROUGH" 6) rfl)
  obtain ⟨_, F_is_whole⟩ := c.def_ 0 (d := dd "is_whole" s_is_whole) rfl
  obtain ⟨_, F_is_many⟩ := c.def_ 1 (d := dd "is_many" s_is_many) rfl
  obtain ⟨_, F_is_gap⟩ := c.def_ 2 (d := dd "is_gap" s_is_gap) rfl
  obtain ⟨_, F_is_row⟩ := c.def_ 3 (d := dd "is_row" s_is_row) rfl
  obtain ⟨_, F_check_many⟩ := c.def_ 4 (d := dd "check_many" s_check_many) rfl
  obtain ⟨_, F_is_book⟩ := c.def_ 5 (d := dd "is_book" s_is_book) rfl
  obtain ⟨_, F_check_row⟩ := c.def_ 6 (d := dd "check_row" s_check_row) rfl
  obtain ⟨_, F_check_book⟩ := c.def_ 7 (d := dd "check_book" s_check_book) rfl
  obtain ⟨_, F_check_book_and_row⟩ := c.def_ 8 (d := dd "check_book_and_row" s_check_book_and_row) rfl
  obtain ⟨_, F_check_rows⟩ := c.def_ 9 (d := dd "check_rows" s_check_rows) rfl
  obtain ⟨_, F_check_number⟩ := c.def_ 10 (d := dd "check_number" s_check_number) rfl
  obtain ⟨_, F_check_few⟩ := c.def_ 11 (d := dd "check_few" s_check_few) rfl
  obtain ⟨_, F_row_of⟩ := c.def_ 12 (d := dd "row_of" s_row_of) rfl
  obtain ⟨_, F_swapped⟩ := c.def_ 13 (d := dd "swapped" s_swapped) rfl
  obtain ⟨_, F_corners⟩ := c.def_ 14 (d := dd "corners" s_corners) rfl
  obtain ⟨_, F_unlike_corner⟩ := c.def_ 15 (d := dd "unlike_corner" s_unlike_corner) rfl
  obtain ⟨_, F_below⟩ := c.def_ 16 (d := dd "below" s_below) rfl
  obtain ⟨_, F_lesser_ahead⟩ := c.def_ 17 (d := dd "lesser_ahead" s_lesser_ahead) rfl
  obtain ⟨_, F_farthest_from⟩ := c.def_ 18 (d := dd "farthest_from" s_farthest_from) rfl
  obtain ⟨_, F_farthest⟩ := c.def_ 19 (d := dd "farthest" s_farthest) rfl
  obtain ⟨_, F_lets⟩ := c.def_ 20 (d := dd "lets" s_lets) rfl
  obtain ⟨_, F_places_of⟩ := c.def_ 21 (d := dd "places_of" s_places_of) rfl
  obtain ⟨_, F_fewest⟩ := c.def_ 22 (d := dd "fewest" s_fewest) rfl
  obtain ⟨_, F_check_let⟩ := c.def_ 23 (d := dd "check_let" s_check_let) rfl
  obtain ⟨_, F_is_of_meetings⟩ := c.def_ 24 (d := dd "is_of_meetings" s_is_of_meetings) rfl
  obtain ⟨_, F_still_lets⟩ := c.def_ 25 (d := dd "still_lets" s_still_lets) rfl
  obtain ⟨_, F_check_most⟩ := c.def_ 26 (d := dd "check_most" s_check_most) rfl
  obtain ⟨_, F_is_left⟩ := c.def_ 27 (d := dd "is_left" s_is_left) rfl
  obtain ⟨_, F_farthest_behind⟩ := c.def_ 28 (d := dd "farthest_behind" s_farthest_behind) rfl
  obtain ⟨_, F_with_meeting⟩ := c.def_ 29 (d := dd "with_meeting" s_with_meeting) rfl
  obtain ⟨_, F_all_greatest⟩ := c.def_ 30 (d := dd "all_greatest" s_all_greatest) rfl
  obtain ⟨_, F_greatest_left⟩ := c.def_ 31 (d := ddk "greatest_left" s_greatest_left [("most", .int 1000)]) rfl
  obtain ⟨_, F_led_on⟩ := c.def_ 32 (d := dd "led_on" s_led_on) rfl
  obtain ⟨_, F_ways_from⟩ := c.def_ 33 (d := dd "ways_from" s_ways_from) rfl
  obtain ⟨_, F_ways_ahead⟩ := c.def_ 34 (d := dd "ways_ahead" s_ways_ahead) rfl
  obtain ⟨_, F_ways_behind⟩ := c.def_ 35 (d := dd "ways_behind" s_ways_behind) rfl
  obtain ⟨_, F_check_asked⟩ := c.def_ 36 (d := dd "check_asked" s_check_asked) rfl
  obtain ⟨_, F_goings⟩ := c.def_ 37 (d := dd "goings" s_goings) rfl
  obtain ⟨_, F_with_one_more⟩ := c.def_ 38 (d := dd "with_one_more" s_with_one_more) rfl
  obtain ⟨_, F_spread_on⟩ := c.def_ 39 (d := dd "spread_on" s_spread_on) rfl
  obtain ⟨_, F_by_changes⟩ := c.def_ 40 (d := dd "by_changes" s_by_changes) rfl
  obtain ⟨_, F_nth⟩ := c.def_ 41 (d := dd "nth" s_nth) rfl
  obtain ⟨_, F_musts⟩ := c.def_ 42 (d := dd "musts" s_musts) rfl
  obtain ⟨_, F__law_cell_at⟩ := c.def_ 43 (d := dd "_law_cell_at" s_law_cell_at) rfl
  obtain ⟨_, F__law_bag⟩ := c.def_ 44 (d := dd "_law_bag" s_law_bag) rfl
  obtain ⟨_, F__law_draw⟩ := c.def_ 45 (d := dd "_law_draw" s_law_draw) rfl
  obtain ⟨_, F__law_line⟩ := c.def_ 46 (d := dd "_law_line" s_law_line) rfl
  obtain ⟨_, F__law_swap⟩ := c.def_ 47 (d := dd "_law_swap" s_law_swap) rfl
  obtain ⟨_, F__law_turns⟩ := c.def_ 48 (d := dd "_law_turns" s_law_turns) rfl
  obtain ⟨_, F__law_plan⟩ := c.def_ 49 (d := dd "_law_plan" s_law_plan) rfl
  obtain ⟨_, F__law_far⟩ := c.def_ 50 (d := dd "_law_far" s_law_far) rfl
  obtain ⟨_, F__law_let_row⟩ := c.def_ 51 (d := dd "_law_let_row" s_law_let_row) rfl
  obtain ⟨_, F__law_led⟩ := c.def_ 52 (d := dd "_law_led" s_law_led) rfl
  obtain ⟨_, F__law_unused⟩ := c.def_ 53 (d := dd "_law_unused" s_law_unused) rfl
  obtain ⟨_, F__law_listed_right⟩ := c.def_ 54 (d := dd "_law_listed_right" s_law_listed_right) rfl
  obtain ⟨_, F__law_right⟩ := c.def_ 55 (d := dd "_law_right" s_law_right) rfl
  obtain ⟨_, F_law⟩ := c.def_ 56 (d := dd "law" s_law) rfl
  have g_is_whole := He.glo_ok X G (c.fact 2 (f := .glo "is_whole") rfl)
  have g_is_many := He.glo_ok X G (c.fact 3 (f := .glo "is_many") rfl)
  have g_is_gap := He.glo_ok X G (c.fact 4 (f := .glo "is_gap") rfl)
  have g_is_row := He.glo_ok X G (c.fact 5 (f := .glo "is_row") rfl)
  have g_check_many := He.glo_ok X G (c.fact 6 (f := .glo "check_many") rfl)
  have g_is_book := He.glo_ok X G (c.fact 7 (f := .glo "is_book") rfl)
  have g_check_row := He.glo_ok X G (c.fact 8 (f := .glo "check_row") rfl)
  have g_check_book := He.glo_ok X G (c.fact 9 (f := .glo "check_book") rfl)
  have g_check_book_and_row := He.glo_ok X G (c.fact 10 (f := .glo "check_book_and_row") rfl)
  have g_check_rows := He.glo_ok X G (c.fact 11 (f := .glo "check_rows") rfl)
  have g_check_number := He.glo_ok X G (c.fact 12 (f := .glo "check_number") rfl)
  have g_check_few := He.glo_ok X G (c.fact 13 (f := .glo "check_few") rfl)
  have g_row_of := He.glo_ok X G (c.fact 14 (f := .glo "row_of") rfl)
  have g_swapped := He.glo_ok X G (c.fact 15 (f := .glo "swapped") rfl)
  have g_corners := He.glo_ok X G (c.fact 16 (f := .glo "corners") rfl)
  have g_unlike_corner := He.glo_ok X G (c.fact 17 (f := .glo "unlike_corner") rfl)
  have g_below := He.glo_ok X G (c.fact 18 (f := .glo "below") rfl)
  have g_lesser_ahead := He.glo_ok X G (c.fact 19 (f := .glo "lesser_ahead") rfl)
  have g_farthest_from := He.glo_ok X G (c.fact 20 (f := .glo "farthest_from") rfl)
  have g_farthest := He.glo_ok X G (c.fact 21 (f := .glo "farthest") rfl)
  have g_lets := He.glo_ok X G (c.fact 22 (f := .glo "lets") rfl)
  have g_places_of := He.glo_ok X G (c.fact 23 (f := .glo "places_of") rfl)
  have g_fewest := He.glo_ok X G (c.fact 24 (f := .glo "fewest") rfl)
  have g_check_let := He.glo_ok X G (c.fact 25 (f := .glo "check_let") rfl)
  have g_is_of_meetings := He.glo_ok X G (c.fact 26 (f := .glo "is_of_meetings") rfl)
  have g_still_lets := He.glo_ok X G (c.fact 27 (f := .glo "still_lets") rfl)
  have g_check_most := He.glo_ok X G (c.fact 28 (f := .glo "check_most") rfl)
  have g_is_left := He.glo_ok X G (c.fact 29 (f := .glo "is_left") rfl)
  have g_farthest_behind := He.glo_ok X G (c.fact 30 (f := .glo "farthest_behind") rfl)
  have g_with_meeting := He.glo_ok X G (c.fact 31 (f := .glo "with_meeting") rfl)
  have g_all_greatest := He.glo_ok X G (c.fact 32 (f := .glo "all_greatest") rfl)
  have g_greatest_left := He.glo_ok X G (c.fact 33 (f := .glo "greatest_left") rfl)
  have g_led_on := He.glo_ok X G (c.fact 34 (f := .glo "led_on") rfl)
  have g_ways_from := He.glo_ok X G (c.fact 35 (f := .glo "ways_from") rfl)
  have g_ways_ahead := He.glo_ok X G (c.fact 36 (f := .glo "ways_ahead") rfl)
  have g_ways_behind := He.glo_ok X G (c.fact 37 (f := .glo "ways_behind") rfl)
  have g_check_asked := He.glo_ok X G (c.fact 38 (f := .glo "check_asked") rfl)
  have g_goings := He.glo_ok X G (c.fact 39 (f := .glo "goings") rfl)
  have g_with_one_more := He.glo_ok X G (c.fact 40 (f := .glo "with_one_more") rfl)
  have g_spread_on := He.glo_ok X G (c.fact 41 (f := .glo "spread_on") rfl)
  have g_by_changes := He.glo_ok X G (c.fact 42 (f := .glo "by_changes") rfl)
  have g_nth := He.glo_ok X G (c.fact 43 (f := .glo "nth") rfl)
  have g_musts := He.glo_ok X G (c.fact 44 (f := .glo "musts") rfl)
  have g__law_cell_at := He.glo_ok X G (c.fact 45 (f := .glo "_law_cell_at") rfl)
  have g__law_bag := He.glo_ok X G (c.fact 46 (f := .glo "_law_bag") rfl)
  have g__law_draw := He.glo_ok X G (c.fact 47 (f := .glo "_law_draw") rfl)
  have g__law_line := He.glo_ok X G (c.fact 48 (f := .glo "_law_line") rfl)
  have g__law_swap := He.glo_ok X G (c.fact 49 (f := .glo "_law_swap") rfl)
  have g__law_turns := He.glo_ok X G (c.fact 50 (f := .glo "_law_turns") rfl)
  have g__law_plan := He.glo_ok X G (c.fact 51 (f := .glo "_law_plan") rfl)
  have g__law_far := He.glo_ok X G (c.fact 52 (f := .glo "_law_far") rfl)
  have g__law_let_row := He.glo_ok X G (c.fact 53 (f := .glo "_law_let_row") rfl)
  have g__law_led := He.glo_ok X G (c.fact 54 (f := .glo "_law_led") rfl)
  have g__law_unused := He.glo_ok X G (c.fact 55 (f := .glo "_law_unused") rfl)
  have g__law_listed_right := He.glo_ok X G (c.fact 56 (f := .glo "_law_listed_right") rfl)
  have g__law_right := He.glo_ok X G (c.fact 57 (f := .glo "_law_right") rfl)
  have g_law := He.glo_ok X G (c.fact 58 (f := .glo "law") rfl)
  have E0 := cm
  have C_is_whole := d_is_whole (P := P) (w := w) (base := h) (n := 0) F_is_whole g_is_whole B
  have C_is_many := d_is_many (P := P) (w := w) (base := h) (n := 1) F_is_many g_is_many (C_is_whole.le (by decide)) m_MOST_PEOPLE
  have C_is_gap := d_is_gap (P := P) (w := w) (base := h) (n := 1) F_is_gap g_is_gap (C_is_whole.le (by decide))
  have C_is_row := d_is_row (P := P) (w := w) (base := h) (n := 2) F_is_row g_is_row B (C_is_many.le (by decide)) F_is_whole g_is_whole TB0 (code_is_row F_is_row rfl)
  have C_check_many := d_check_many (P := P) (w := w) (base := h) (n := 2) F_check_many g_check_many (C_is_many.le (by decide))
  have C_is_book := d_is_book (P := P) (w := w) (base := h) (n := 3) F_is_book g_is_book B (C_check_many.le (by decide)) F_is_gap g_is_gap F_is_whole g_is_whole TB1 (code_is_book F_is_book rfl)
  have C_check_row := d_check_row (P := P) (w := w) (base := h) (n := 3) F_check_row g_check_row (C_is_row.le (by decide))
  have C_check_book := d_check_book (P := P) (w := w) (base := h) (n := 4) F_check_book g_check_book (C_is_book.le (by decide))
  have C_check_book_and_row := d_check_book_and_row (P := P) (w := w) (base := h) (n := 5) F_check_book_and_row g_check_book_and_row B (C_check_row.le (by decide)) (C_check_book.le (by decide))
  have C_check_rows := d_check_rows (P := P) (w := w) (base := h) (n := 4) F_check_rows g_check_rows B (C_check_row.le (by decide))
  have C_check_number := d_check_number (P := P) (w := w) (base := h) (n := 1) F_check_number g_check_number (C_is_whole.le (by decide))
  have C_check_few := d_check_few (P := P) (w := w) (base := h) (n := 0) F_check_few g_check_few m_MOST_GONE_THROUGH
  have C_row_of := d_row_of (P := P) (w := w) (base := h) (n := 3) F_row_of g_row_of B (C_check_many.le (by decide))
  have C_swapped := d_swapped (P := P) (w := w) (base := h) (n := 0) F_swapped g_swapped 
  have C_corners := d_corners (P := P) (w := w) (base := h) (n := 4) F_corners g_corners B (C_check_row.le (by decide))
  have C_unlike_corner := d_unlike_corner (P := P) (w := w) (base := h) (n := 5) F_unlike_corner g_unlike_corner B (C_check_rows.le (by decide)) (C_corners.le (by decide))
  have C_below := d_below (P := P) (w := w) (base := h) (n := 6) F_below g_below (C_unlike_corner.le (by decide))
  have C_lesser_ahead := d_lesser_ahead (P := P) (w := w) (base := h) (n := 0) F_lesser_ahead g_lesser_ahead 
  have C_farthest_from := d_farthest_from (P := P) (w := w) (base := h) (n := 1) F_farthest_from g_farthest_from (C_lesser_ahead.le (by decide)) (C_swapped.le (by decide))
  have C_farthest := d_farthest (P := P) (w := w) (base := h) (n := 5) F_farthest g_farthest (C_check_book.le (by decide)) (C_row_of.le (by decide)) (C_farthest_from.le (by decide))
  have C_lets := d_lets (P := P) (w := w) (base := h) (n := 7) F_lets g_lets B (C_check_book_and_row.le (by decide)) (C_below.le (by decide)) (C_farthest.le (by decide))
  have C_places_of := d_places_of (P := P) (w := w) (base := h) (n := 0) F_places_of g_places_of B TB2 (code_places_of F_places_of rfl)
  have C_fewest := d_fewest (P := P) (w := w) (base := h) (n := 6) F_fewest g_fewest B (C_check_book_and_row.le (by decide)) (C_places_of.le (by decide)) (C_lesser_ahead.le (by decide)) (C_swapped.le (by decide)) (C_row_of.le (by decide))
  have C_check_let := d_check_let (P := P) (w := w) (base := h) (n := 8) F_check_let g_check_let (C_lets.le (by decide))
  have C_is_of_meetings := d_is_of_meetings (P := P) (w := w) (base := h) (n := 0) F_is_of_meetings g_is_of_meetings B F_is_whole g_is_whole TB4 (code_is_of_meetings F_is_of_meetings rfl)
  have C_still_lets := d_still_lets (P := P) (w := w) (base := h) (n := 8) F_still_lets g_still_lets B (C_lets.le (by decide))
  have C_check_most := d_check_most (P := P) (w := w) (base := h) (n := 1) F_check_most g_check_most (C_is_whole.le (by decide))
  have C_is_left := d_is_left (P := P) (w := w) (base := h) (n := 9) F_is_left g_is_left (C_check_let.le (by decide)) (C_is_of_meetings.le (by decide)) (C_still_lets.le (by decide))
  have C_farthest_behind := d_farthest_behind (P := P) (w := w) (base := h) (n := 4) F_farthest_behind g_farthest_behind B (C_row_of.le (by decide)) (C_farthest_from.le (by decide))
  have C_with_meeting := d_with_meeting (P := P) (w := w) (base := h) (n := 7) F_with_meeting g_with_meeting (C_lesser_ahead.le (by decide)) (C_swapped.le (by decide)) (C_below.le (by decide))
  have C_all_greatest := d_all_greatest (P := P) (w := w) (base := h) (n := 8) F_all_greatest g_all_greatest B (C_farthest_behind.le (by decide)) (C_places_of.le (by decide)) (C_with_meeting.le (by decide)) (C_row_of.le (by decide))
  have C_greatest_left := d_greatest_left (P := P) (w := w) (base := h) (n := 9) F_greatest_left g_greatest_left (C_check_let.le (by decide)) (C_check_most.le (by decide)) (C_all_greatest.le (by decide))
  have C_led_on := d_led_on (P := P) (w := w) (base := h) (n := 1) F_led_on g_led_on (C_swapped.le (by decide))
  have C_ways_from := d_ways_from (P := P) (w := w) (base := h) (n := 2) F_ways_from g_ways_from (C_led_on.le (by decide))
  have C_ways_ahead := d_ways_ahead (P := P) (w := w) (base := h) (n := 4) F_ways_ahead g_ways_ahead (C_row_of.le (by decide)) (C_ways_from.le (by decide))
  have C_ways_behind := d_ways_behind (P := P) (w := w) (base := h) (n := 3) F_ways_behind g_ways_behind (C_ways_from.le (by decide))
  have C_check_asked := d_check_asked (P := P) (w := w) (base := h) (n := 6) F_check_asked g_check_asked B (C_check_book_and_row.le (by decide)) (C_check_few.le (by decide))
  have C_goings := d_goings (P := P) (w := w) (base := h) (n := 7) F_goings g_goings B (C_check_asked.le (by decide)) (C_ways_ahead.le (by decide))
  have C_with_one_more := d_with_one_more (P := P) (w := w) (base := h) (n := 0) F_with_one_more g_with_one_more (PySem.W.mg_of X G (of_decide_eq_true E0))
  have C_spread_on := d_spread_on (P := P) (w := w) (base := h) (n := 1) F_spread_on g_spread_on ((swU (P := P) (w := w) (base := h) (n := 0) F_swapped g_swapped).le (by decide)) (C_with_one_more.le (by decide))
  have C_by_changes := d_by_changes (P := P) (w := w) (base := h) (n := 7) F_by_changes g_by_changes B (C_check_asked.le (by decide)) ((row_ofU (P := P) (w := w) (base := h) (n := 3) F_row_of g_row_of B (C_check_many.le (by decide))).le (by decide)) (C_spread_on.le (by decide))
  have C_nth := d_nth (P := P) (w := w) (base := h) (n := 6) F_nth g_nth B (C_check_book_and_row.le (by decide)) (C_check_number.le (by decide)) (C_check_few.le (by decide)) (C_ways_behind.le (by decide)) (C_row_of.le (by decide)) (C_swapped.le (by decide))
  have C_musts := d_musts (P := P) (w := w) (base := h) (n := 6) F_musts g_musts B (C_check_asked.le (by decide)) (C_ways_ahead.le (by decide)) (C_ways_behind.le (by decide)) (C_swapped.le (by decide)) TB3 (code_musts F_musts rfl)
  have C__law_cell_at := d_law_cell_at (P := P) (w := w) (base := h) (n := 0) F__law_cell_at g__law_cell_at B
  have C__law_bag := d_law_bag (P := P) (w := w) (base := h) (n := 0) F__law_bag g__law_bag B
  have C__law_draw := d_law_draw (P := P) (w := w) (base := h) (n := 0) F__law_draw g__law_draw 
  have C__law_swap := d_law_swap (P := P) (w := w) (base := h) (n := 0) F__law_swap g__law_swap 
  have C__law_turns := d_law_turns (P := P) (w := w) (base := h) (n := 0) F__law_turns g__law_turns B
  have C__law_plan := d_law_plan (P := P) (w := w) (base := h) (n := 1) F__law_plan g__law_plan B (C__law_draw.le (by decide))
  have C__law_far := d_law_far (P := P) (w := w) (base := h) (n := 1) F__law_far g__law_far B (C__law_swap.le (by decide))
  have C__law_led := d_law_led (P := P) (w := w) (base := h) (n := 1) F__law_led g__law_led B (C__law_swap.le (by decide))
  have C__law_let_row := d_law_let_row (P := P) (w := w) (base := h) (n := 2) F__law_let_row g__law_let_row B (C__law_draw.le (by decide)) (C__law_far.le (by decide)) (C__law_led.le (by decide))
  have C__law_unused := d_law_unused (P := P) (w := w) (base := h) (n := 0) F__law_unused g__law_unused B
  have C__law_listed_right := d_law_listed_right (P := P) (w := w) (base := h) (n := 8) F__law_listed_right g__law_listed_right B (C_goings.le (by decide)) (C_nth.le (by decide)) (C__law_turns.le (by decide))
  have C__law_right := d_law_right (P := P) (w := w) (base := h) (n := 10) F__law_right g__law_right B (C_greatest_left.le (by decide)) (C_by_changes.le (by decide)) (C__law_turns.le (by decide)) (C__law_unused.le (by decide)) (C_fewest.le (by decide)) (C_goings.le (by decide)) (C__law_listed_right.le (by decide)) (C_musts.le (by decide)) (C_is_left.1.le (by decide))
  have C_law := d_law (P := P) (w := w) (base := h) (n := 11) F_law g_law B (C__law_cell_at.le (by decide)) (C__law_bag.le (by decide)) (C__law_draw.le (by decide)) (C__law_plan.le (by decide)) (C__law_let_row.le (by decide)) (C__law_right.le (by decide))
  exact C_law
end
end K70
open PySem PySem.W PySem.Calls PyProof.Rows
theorem PySem.Challenge.cw_maymeet_k70_whole_leavings_and_goings_holds : PySem.Challenge.rw_maymeet_k70_whole_leavings_and_goings.Holds := by
  w_on; o_law
  refine HandSHeadRun.head_imp (r := K70.Rw) (q := view K70.Rw.prog [74]) (H := K70.hk) (ob := K70.ob) (M := 6000) (loose := K70.others) (d := HandSHeadRun.topDef K70.Rw.prog 74) (kwd := []) K70.ob_eq
    K70.run (by kernel_rfl) (by kernel_rfl) (by kernel_rfl) (by rfl) (by first | assumption | decide +kernel) (by decide +kernel) ⟨rfl, rfl, rfl, rfl, rfl, by decide +kernel⟩ ?hw ?hc
  case hw => w_witness2
  case hc =>
    refine MM.walkG (l := PySem.Challenge.rw_maymeet_k70_whole_leavings_and_goings) (n := 63) (k := 12) (x := "script") rfl (by decide) (by kernel_rfl) ⟨rfl, by decide, by decide⟩ ?F
    intro w mg fa h Y G hmg0
    obtain ⟨K, KX, c⟩ := Y
    have e : (HandSHeadRun.topDef K70.Rw.prog 74).name = ("law" : PySem.Str) := by kernel_rfl
    rw [e]
    refine ⟨K, KX, [He.cT K ("is_row", none), He.cT K ("is_book", none), He.cT K ("places_of", none), He.cT K ("musts", none), He.cT K ("is_of_meetings", none)], K70.spLaw K (He.cT K ("is_row", none)).2 (He.cT K ("is_book", none)).2 (He.cT K ("places_of", none)).2 (He.cT K ("musts", none)).2 (He.cT K ("is_of_meetings", none)).2, List.forall_mem_cons.mpr ⟨c.empty _ List.mem_cons_self, List.forall_mem_cons.mpr ⟨c.empty _ (List.mem_cons_of_mem _ List.mem_cons_self), List.forall_mem_cons.mpr ⟨c.empty _ (List.mem_cons_of_mem _ (List.mem_cons_of_mem _ List.mem_cons_self)), List.forall_mem_cons.mpr ⟨c.empty _ (List.mem_cons_of_mem _ (List.mem_cons_of_mem _ (List.mem_cons_of_mem _ List.mem_cons_self))), List.forall_mem_singleton.mpr (c.empty _ (List.mem_cons_of_mem _ (List.mem_cons_of_mem _ (List.mem_cons_of_mem _ (List.mem_cons_of_mem _ List.mem_cons_self)))))⟩⟩⟩⟩, List.forall_mem_cons.mpr ⟨c.out _ List.mem_cons_self, List.forall_mem_cons.mpr ⟨c.out _ (List.mem_cons_of_mem _ List.mem_cons_self), List.forall_mem_cons.mpr ⟨c.out _ (List.mem_cons_of_mem _ (List.mem_cons_of_mem _ List.mem_cons_self)), List.forall_mem_cons.mpr ⟨c.out _ (List.mem_cons_of_mem _ (List.mem_cons_of_mem _ (List.mem_cons_of_mem _ List.mem_cons_self))), List.forall_mem_singleton.mpr (c.out _ (List.mem_cons_of_mem _ (List.mem_cons_of_mem _ (List.mem_cons_of_mem _ (List.mem_cons_of_mem _ List.mem_cons_self)))))⟩⟩⟩⟩, List.forall_mem_cons.mpr ⟨PySem.W.codeHd_of_K KX (c.hd _ List.mem_cons_self), List.forall_mem_cons.mpr ⟨PySem.W.codeHd_of_K KX (c.hd _ (List.mem_cons_of_mem _ List.mem_cons_self)), List.forall_mem_cons.mpr ⟨PySem.W.codeHd_of_K KX (c.hd _ (List.mem_cons_of_mem _ (List.mem_cons_of_mem _ List.mem_cons_self))), List.forall_mem_cons.mpr ⟨PySem.W.codeHd_of_K KX (c.hd _ (List.mem_cons_of_mem _ (List.mem_cons_of_mem _ (List.mem_cons_of_mem _ List.mem_cons_self)))), List.forall_mem_singleton.mpr (PySem.W.codeHd_of_K KX (c.hd _ (List.mem_cons_of_mem _ (List.mem_cons_of_mem _ (List.mem_cons_of_mem _ (List.mem_cons_of_mem _ List.mem_cons_self))))))⟩⟩⟩⟩, fun H a ns hl hb hT hS => ⟨a, ns, rfl, hS, hl, ⟨#[], hT _ List.mem_cons_self, trivial⟩, ⟨#[], hT _ (List.mem_cons_of_mem _ List.mem_cons_self), trivial⟩, ⟨#[], hT _ (List.mem_cons_of_mem _ (List.mem_cons_of_mem _ List.mem_cons_self)), trivial⟩, ⟨#[], hT _ (List.mem_cons_of_mem _ (List.mem_cons_of_mem _ (List.mem_cons_of_mem _ List.mem_cons_self))), trivial⟩, ⟨#[], hT _ (List.mem_cons_of_mem _ (List.mem_cons_of_mem _ (List.mem_cons_of_mem _ (List.mem_cons_of_mem _ List.mem_cons_self)))), trivial⟩, fun _ => rfl⟩, fun base KB GB TB => K70.facts KB GB c.t.d c.more (TB _ List.mem_cons_self) (TB _ (List.mem_cons_of_mem _ List.mem_cons_self)) (TB _ (List.mem_cons_of_mem _ (List.mem_cons_of_mem _ List.mem_cons_self))) (TB _ (List.mem_cons_of_mem _ (List.mem_cons_of_mem _ (List.mem_cons_of_mem _ List.mem_cons_self)))) (TB _ (List.mem_cons_of_mem _ (List.mem_cons_of_mem _ (List.mem_cons_of_mem _ (List.mem_cons_of_mem _ List.mem_cons_self)))))⟩
