import PyProof.Rows.All
import HandS.ForMost
import HandS.ForExc
import HandS.SortInts
import HandS.IsInst
import HandS.TupAny
import HandS.Wide
import HandS.Sort
import HandS.AnyAll
import PyProof.ReprRoads
import PyProof.GenCompD
import HandS.Style
import HandS.Conv
import HandS.SortOrd
import HandS.Defaults
import HandS.Zip
import HandS.TupMul
import HandS.Strs
import HandS.Dict
import HandS.Small
import PyProof.Rows.TupDisplay
import PyProof.TupleOfGen
import PyProof.SumAny
import PyProof.WalksMore
import HandS.SetFor
import HandS.Walk
import KE.GoesMore
import KE.GoesEnum
import HandS.Rev
import PyProof.Rows.Range3
import KE.SortData
import KE.DataCmp
import HandS.TupLen
import HandS.Deep
import HandS.Iter
import HandS.DictComp
import HandS.GenOver
import PyProof.GenQ
import PyProof.RangeIter
import HandS.NoneIn
import HandS.SetKeys
import PyProof.DictMoreH
import KE.SortCalls
import KE.KDictSum
import HandS.ExcOwn
import HandS.ExcValue
import HandS.Exc
import HandS.ExcIs
import HandS.TryOnly
import HandS.EndBits
import HandS.EndTab
import HandS.HeadWalk
import HandS.HeadHook4
import HandS.Head2
import PySem.Challenge.RW_maymeet_k68_whole_long_books_by_parts
set_option Elab.async false
set_option linter.all false
set_option maxRecDepth 100000
set_option maxHeartbeats 8000000
set_option exponentiation.threshold 5000
namespace MM
open PySem PySem.Spec PyProof.Rows L2
/-! ### great powers -/
def CPowW (i j : Int) : Prop := 0 ≤ j ∧ (Builtin.Int.intBits i : Int) * j ≤ 2 ^ 27
section
variable {X : Cx}
theorem op_powW : OpR X (binaryOp .Pow) (rI CPowW fun i j => .int (i ^ j.toNat)) := by
  intro pins s σ H x y v u Q I rx ry h; obtain ⟨i, j, rfl, rfl, hc, q⟩ := h; obtain ⟨t, rfl⟩ := rx; obtain ⟨t', rfl⟩ := ry
  exact pow_int hc.1 hc.2 ⟨.int _, H, I.tok _, ⟨_, rfl⟩, q⟩
end
theorem bits_le {i : Int} {k : Nat} (h : i.natAbs < 2 ^ k) : Builtin.Int.intBits i ≤ k := by
  unfold Builtin.Int.intBits
  split
  · omega
  · rename_i hne; have h0 : i.natAbs ≠ 0 := by intro e; apply hne; have := Int.natAbs_eq_zero.mp e; subst this; simp
    have := (Nat.log2_lt h0).mpr h; omega
end MM
namespace MM
open PySem PySem.Spec PyProof.Rows L2 GxR
/-! ### defs that show their data: nothing is being shown around them -/
structure FnG (P : Program) (w : World) (K : PySem.W.Frag) (mg : Str → Option Value) (base : Heap) (CX : CXT) (k : Nat) (f : Addr) (fd : FuncData) (ps : List Str) (sp : Sp) : Prop where
  len : ∀ vs H Q E, sp vs H Q E → vs.length = ps.length
  run : ∀ (A : Around) (outer : List Env) (s : Shared) (H : Hp) (args : Args) (us : List Value) (vs : List V) (Q : VK) (E : XK), Room k A → A.guards = some [] → Env0 P w K mg base A outer s H → BindsTo s fd args (ps.zip us) → Vals vs us → sp vs H Q E → codeAny (model P w) A (.call (.ref f) args) (CR CX outer P w H s Q E) s
section
variable {P : Program} {w : World} {K : PySem.W.Frag} {mg : Str → Option Value} {base : Heap} {CX : CXT} {j k : Nat} {f : Addr} {fd : FuncData} {ps : List Str} {sp : Sp}
theorem FnG.of (F : FnOk P w K mg base CX k f fd ps sp) : FnG P w K mg base CX k f fd ps sp := ⟨F.len, fun A outer s H args us vs Q E hr _ => F.run A outer s H args us vs Q E hr⟩
theorem FnG.mono (F : FnG P w K mg base CX j f fd ps sp) (h : j ≤ k) : FnG P w K mg base CX k f fd ps sp := ⟨F.len, fun A outer s H args us vs Q E hr => F.run A outer s H args us vs Q E (hr.mono h)⟩
theorem guards_deeper {A : Around} {env : Env} (h : A.guards = some []) : (A.deeper env).guards = some [] := by
  obtain ⟨a, b, c, d, e⟩ := A; subst h; first | rfl | simp [Around.deeper]
end
section
variable {X : Cx} {CX : CXT} {k : Nat} {f : Addr} {fd : FuncData} {ps ks : List Str} {sp : Sp} {dvs : List V} {ds : List Value} {E : XK} {x : Str} {p pos : Pos} {e : Expr} {es : List Expr} {t tk : TA} {kws : List Keyword} {g : List Value → List Value → List Value} {gV : List V → List V → List V}
theorem run_fnG {pins : List (Addr × Obj)} {σ : L2.St} {H : Hp} {s : Shared} {Q : VK} {us : List Value} {vs : List V} (F : FnG X.prog X.w X.K X.mg X.base CX k f fd ps sp) (hr : Room k X.A) (hG : X.A.guards = some []) (hb : Binds X.K fd ps ds) (hd : Vals dvs ds) (hx : Passes CX X E)
    (I : Inv X pins σ H s) (r : Vals vs us) (h : sp (vs ++ dvs) H Q E) : wpAny (model X.prog X.w) X.A (call (.ref f) us) (EP X pins σ Q) X.xe s := by
  have r2 : Vals (vs ++ dvs) (us ++ ds) := r.append hd
  have hl : (us ++ ds).length = ps.length := r2.length ▸ F.len _ _ _ _ h
  refine wpAny_call (codeAny_mono (F.run X.A X.stack s H ⟨us, []⟩ (us ++ ds) (vs ++ dvs) Q E hr hG I.env0 (hb s us I.kIn hl) r2 h) fun r s' hq => ?_)
  match r, hq with
  | .error e, hq => exact hx pins σ H s e s' I hq
  | .ok (.ret u), hq => exact I.after hq
theorem pe_callG (F : FnG X.prog X.w X.K X.mg X.base CX k f fd ps sp) (hr : Room k X.A) (hG : X.A.guards = some []) (hg : Gl X x) (hm : X.mg x = some (.ref f)) (hk : PySem.W.keepIn X.K (.ref f) = true) (hb : Binds X.K fd ps ds) (hd : Vals dvs ds) (hx : Passes CX X E)
    (ha : PA X (e :: es) t) (hdb : (x == ("__debug__" : Str)) = false := by decide) (he : starEach (e :: es) X.env = (false, eval e X.env) :: starEach es X.env := by rfl) (hpl : (backTo pos (starEach es X.env)).any (·.1) = false := by rfl) :
    PE X (.Call (.Name x p) (e :: es) [] pos) (tCall sp dvs E t) :=
  ⟨fun pins s σ H Q I h => wpAny_Call_Name_kw (ld_glob I hg hm (PySem.W.callWith_K (h₀ := X.base) I.ok.mod.kin hk (thn (ha.run pos pins s σ H _ I h) fun us s1 ⟨vs, H1, I1, r, q⟩ => ⟨I1.kIn, run_fnG F hr hG hb hd hx I1 r q⟩) he hpl) hdb)⟩
end
/-! ### a def's body -/
theorem fn_ofG {CX : CXT} {P : Program} {w : World} {K : PySem.W.Frag} {mg : Str → Option Value} {base : Heap} {k : Nat} {f : Addr} {name qual : Str} {params : Arguments} {body : List Stmt} {scope : Scope} {dV kV doc pm cdv ct oc : Value} {an od : Option Addr}
    {osl : Array (Option Value)} {N ps : List Str} {sp : Sp} (lk : K.lookup f = some ⟨oc, od, .func (PySem.W.fnOf name qual params body scope dV kV doc pm an cdv ct), osl⟩) (hcd : PySem.W.codeIn K cdv qual = true) (S : FnScope N ps scope)
    (len : ∀ vs H Q E, sp vs H Q E → vs.length = ps.length)
    (hbody : ∀ (A : Around) (outer : List Env) (s : Shared) (H : Hp) (vs : List V) (Q : VK) (E : XK), Room k (A.deeper (envOfC qual scope s.heap.objs.size f cdv)) → (A.deeper (envOfC qual scope s.heap.objs.size f cdv)).guards = some [] → sp vs H Q E →
      ∃ t, PSs (cxOf CX P w K mg base N qual scope f cdv A outer s H E) body t ∧ t { nx := fun _ H' => Q .non H', rt := Q } (start N vs) H) :
    FnG P w K mg base CX (k + 1) f (PySem.W.fnOf name qual params body scope dV kV doc pm an cdv ct) ps sp := by
  refine ⟨len, fun A outer s H args us vs Q E hr hG e0 hb r hsp => ?_⟩
  have KX : K.In s.heap := e0.mod.kin.keeps fun b o e => (e0.bs b o e).1
  refine codeAny_call_function hr.depth (KX _ _ lk) rfl S.co S.gen rfl (PySem.W.codeRec_of KX hcd) (hb _ _ _ _ ?_)
  refine wpAny_newFunctionEnv_cells S.kind (fun ⟨n, v⟩ hy => (S.par n (List.of_mem_zip hy).1).imp id fun q => ⟨q, PySem.W.cellsFrom_some _ _ _ (.inl q)⟩) fun env he s1 x => ?_
  subst he
  refine ⟨(e0.mod.nolimit.keeps fun b o e => (e0.bs b o e).1).keeps x.toInCall.keep, codeAny_func ?_⟩
  obtain ⟨t, ht, hq⟩ := hbody A outer s H vs Q E (hr.deeper _) (guards_deeper hG) hsp
  refine wpAny_mono (ht.run [] s1 (start N vs) H _ (inv_start S hr.hd e0 (len _ _ _ _ hsp) r x) hq) (fun fl s' hs => ?_) fun e s' hs => hs
  match fl, hs with
  | .ret u, ⟨v, σ', H', J, rv, q⟩ => exact ⟨v, H', J.os, J.bare, J.base, J.hok, rv, q⟩
  | .next, ⟨σ', H', J, q⟩ => exact ⟨V.non, H', J.os, J.bare, J.base, J.hok, rfl, q⟩
  | .brk, ⟨_, _, _, q⟩ => exact False.elim q
  | .cont, ⟨_, _, _, q⟩ => exact False.elim q
end MM
namespace MM
open PySem PySem.Spec PyProof.Rows L2 GxR
/-! ### all(test for x in t), t a tuple of anything -/
/-- a generator's frame over the def's: what it reads -/
structure GenIn (X : Cx) (P : Addr) (scope : Scope) (s1 : Shared) (cenv : Env) (s2 : Shared) : Prop where
  sco : cenv.scope = scope
  glob : cenv.globals = X.env.globals
  blt : cenv.builtins = builtinsNs
  cells : cenv.cells = cloFrom X.env.cells scope.names []
  keep : ∀ b o, b ≠ P → s1.heap.get? b = some o → s2.heap.get? b = some o
  lim : s2.heap.NoLimit
/-- the element is a test of the item: pb tells it of what the item is -/
def EltT (X : Cx) (P : Addr) (scope : Scope) (x : Str) (elt : Expr) (ok : L2.St → Hp → V → Prop) (pb : L2.St → V → Bool) : Prop :=
  ∀ (pins : List (Addr × Obj)) (σ : L2.St) (H1 : Hp) (s1 : Shared), Inv X pins σ H1 s1 → ∀ (cenv : Env) (A' : Around) (E' : Value → Shared → Prop) (v : V) (u : Value) (s2 : Shared) (m2 : Str → Option Value), GenIn X P scope s1 cenv s2 → TabG H1 P → A'.handled = none → A'.depth ≤ X.A.depth + 1 → A'.units ≤ X.A.units + 8 →
    RelV v u → ok σ H1 v → s2.heap.Ns cenv.locals m2 → m2 x = some u → wpAny (model X.prog X.w) A' (eval elt cenv) (fun y s3 => y = .bool (pb σ v) ∧ Keeps s2 s3) E' s2
section
variable {X : Cx} {pins : List (Addr × Obj)} {σ : L2.St} {H : Hp} {s : Shared}
/-- the generator g over the items us, ready to be walked -/
def ReadyT (X : Cx) (pins : List (Addr × Obj)) (σ : L2.St) (H1 : Hp) (P : Addr) (xs : List V) (q : V → Bool) (g : Addr) (s5 : Shared) : Prop :=
  ∃ (fp wr : List Addr) (G : Array GenState → Array GenState → Prop) (F : Nat → Value → Prop) (St : Nat → Shared → Prop) (tr : Nat → Bool),
    WalksS X.prog X.w X.A.in1 g fp wr G xs.length F St ∧ St 0 s5 ∧ TruthOf X.prog X.w X.A.in1 F tr ∧ (∀ j x, xs[j]? = some x → tr j = q x) ∧ ∀ s', Moved wr G s5 s' → ∃ H2, Tabbed P H1 H2 ∧ Inv X pins σ H2 s'
theorem all_at {xs : List V} {q : V → Bool} {tr : Nat → Bool} (h : ∀ j x, xs[j]? = some x → tr j = q x) : (List.range xs.length).all tr = xs.all q := by
  rw [Bool.eq_iff_iff, List.all_eq_true, List.all_eq_true]
  refine ⟨fun hh b hb => ?_, fun hh j hj => ?_⟩
  · obtain ⟨j, hj, e⟩ := List.getElem_of_mem hb
    rw [← e, ← h j _ (List.getElem?_eq_getElem hj)]; exact hh j (List.mem_range.mpr hj)
  · have hj' := List.mem_range.mp hj
    rw [h j _ (List.getElem?_eq_getElem hj')]; exact hh _ (List.getElem_mem hj')
theorem gen_tup {c P : Addr} {elt iter : Expr} {x : Str} {px gpos : Pos} {scope : Scope} {ok : L2.St → Hp → V → Prop} {pb : L2.St → V → Bool} {te : TE} {k : Nat} {Q' : Value → Shared → Prop} {R : List V → Hp → Prop}
    (hr : Room k X.A) (TB : TabB X.base X.mg c P) (hcode : X.env.code = .ref c) (S : GenS X.env scope x) (hi : PE X iter te) (hel : EltT X P scope x elt ok pb)
    (hs : ∀ v, genFold iter X.env v = pure v) (I : Inv X pins σ H s) (h : te σ H fun v H1 => ∃ (a : Addr) (xs : List V), v = .ref a ∧ SqT X.K H1 a xs ∧ TabG H1 P ∧ (∀ x ∈ xs, ok σ H1 x) ∧ R xs H1)
    (hQ : ∀ xs H1 g s5, R xs H1 → ReadyT X pins σ H1 P xs (pb σ) g s5 → Q' (.ref g) s5) :
    wpAny (model X.prog X.w) X.A (eval (.GeneratorExp elt [⟨.Name x px, iter, [], 0⟩] scope gpos) X.env) Q' X.xe s := by
  refine wpAny_GeneratorExp_walksQD hr.hd S.co (closure_ok S.free) S.cell S.dot S.loc S.kind (by have := hr.dp; omega) ?_ hs
  refine thn (hi.run pins s σ H _ I h) fun xv s1 ⟨v, H1, I1, r1, a, xs, ev, hT, ⟨ps, hP, ht⟩, hok, q1⟩ => ?_
  subst ev; obtain rfl : xv = Value.ref a := r1
  obtain ⟨its, rv, htup, hsz⟩ := I1.tuple hT
  have htl : s1.heap.IsTuple a its.toArray := by first | exact htup | (obtain ⟨o, e1, e2, e3⟩ := htup; exact ⟨o, e1, e2, e3⟩)
  refine wpAny_pyIter_tuple htl ?_
  have hPs : s1.heap.get? P = some { cls := .none, data := .fields ps } := I1.hok P _ hP
  generalize ho : ({ cls := .type "tuple_iterator", data := .fields #[.ref a, .int 0 0] } : Obj) = o
  have sz2 : (s1.heap.push o).objs.size = s1.heap.objs.size + 1 := Heap.size_push ..
  have hPlt := Heap.lt_size hPs
  have alt : a < s1.heap.objs.size := by obtain ⟨_, e1, _⟩ := htl; exact Heap.lt_size e1
  have aneP : a ≠ P := by
    intro z; obtain ⟨oo, e1, e2, _⟩ := htl; rw [z, hPs] at e1; cases e1; cases e2
  have old : ∀ b u, s1.heap.get? b = some u → (s1.heap.push o).get? b = some u := fun b u e => Heap.get?_push_of_some _ e
  have cd : PySem.W.CodeHd (s1.heap.push o) c P := TB.code.keeps fun b u e => old b u (I1.bk b u e)
  have lim2 : (s1.heap.push o).NoLimit := I1.nolimit.push o
  have itAt : (s1.heap.push o).IsTupleIter s1.heap.objs.size a 0 ∧ (s1.heap.push o).IsTuple a its.toArray := by
    refine ⟨?_, htl.at fun u e => old _ u e⟩
    subst ho; exact ⟨_, Heap.get?_push_size _ rfl, rfl, rfl⟩
  have cont : ∀ (code : Value) (h3 : Heap) (tk : Nat) (ps' : Array Value), Heap.ExtBut P (s1.heap.push o) h3 → (s1.heap.push o).objs.size ≤ h3.objs.size → h3.get? P = some { cls := .none, data := .fields ps' } → (∃ more, ps' = ps ++ more) → TriplesOk ps'.toList → wpAny (model X.prog X.w) X.A (builtinsFor X.env.globals X.env.builtins) (fun bi s₄ =>
        ∃ Ia fp wr n₀ Pf St₀ pz F, Value.ref s1.heap.objs.size = .ref Ia ∧ (∀ A' : Around, A'.handled = none → Walks X.prog X.w A' Ia fp wr n₀ Pf St₀) ∧ St₀ 0 s₄.heap ∧ (∀ b ∈ fp, b < s₄.heap.objs.size) ∧ s₄.heap.NoLimit ∧ cStatics ∉ wr ∧
          (∀ href : Heap, (∀ b o, s₄.heap.get? b = some o → href.get? b = some o) → QuietGenD X.prog X.w (genEnv scope (cloFrom X.env.cells scope.names []) s₄.heap.objs.size code bi X.env) x [] elt (List.range s₄.heap.objs.size) wr Pf pz F href (X.A.depth + 1) (X.A.units + 8)) ∧
          (∀ a h₅ tk gs, gs.bare = true → s₄.heap.objs.size < a → h₅.objs.size = a + 1 → (∀ b o, s₄.heap.get? b = some o → h₅.get? b = some o) →
            WalksS X.prog X.w X.A.in4 a (a :: s₄.heap.objs.size :: List.range s₄.heap.objs.size) (s₄.heap.objs.size :: wr) (GenOnlyQ s₄.gens.size) (passing pz n₀ 0).length (fun j y => ∃ i, (passing pz n₀ 0)[j]? = some i ∧ F i y) (GenAt X.prog X.w X.A.in4 a s₄.gens.size s₄.heap.objs.size (List.range s₄.heap.objs.size) wr pz n₀ F) →
            GenAt X.prog X.w X.A.in4 a s₄.gens.size s₄.heap.objs.size (List.range s₄.heap.objs.size) wr pz n₀ F 0 { s₄ with gens := s₄.gens.push gs, toks := tk, heap := h₅ } → Q' (.ref a) { s₄ with gens := s₄.gens.push gs, toks := tk, heap := h₅ })) X.xe { s1 with heap := h3, toks := tk } := by
    intro code h3 tk ps' hx hsz3 hP3 hmore ht3
    obtain ⟨bm, ob, e1, e2, e3, e4, e5, e6, e7, e8⟩ := TB.bm
    have hcP : cStatics ≠ P := by
      intro e; obtain ⟨_, ⟨o', es, ep, ho', hd', _⟩, _⟩ := I1.nolimit; rw [e, hPs] at ho'; cases ho'; cases hd'
    have hsz4 : s1.heap.objs.size + 1 ≤ h3.objs.size := by rw [← sz2]; exact hsz3
    have hcl : cStatics < s1.heap.objs.size := let ⟨_, hns, _⟩ := I1.nolimit; hns.lt
    have keep3 : ∀ b u, b ≠ P → s1.heap.get? b = some u → h3.get? b = some u := fun b u hb e => hx b u hb (old b u e)
    have lim3 : h3.NoLimit := lim2.extBut hx hcP
    refine wpAny_builtinsFor (m := X.mg) (by rw [I1.ok.glob]; exact ((I1.mod.glob.keeps I1.bk).push o).extBut hx TB.gP) e1 e2 (keep3 _ _ e4 (I1.bk _ _ e5)) e6 e7 e8 ?_
    refine ⟨s1.heap.objs.size, [s1.heap.objs.size, a], [s1.heap.objs.size], its.length, (fun i u => its.toArray[i]? = some u), (fun i h => h.IsTupleIter s1.heap.objs.size a i ∧ h.IsTuple a its.toArray), (fun _ => true), (fun i y => ∃ v, xs[i]? = some v ∧ y = .bool (pb σ v)), rfl, fun A' hA => ?_, ?_, ?_, lim3, ?_, ?_, ?_⟩
    · exact Walks.tuple hA _ a (Nat.ne_of_lt alt) its.toArray
    · refine ⟨itAt.1.at fun u e => hx _ u (Nat.ne_of_gt hPlt) e, itAt.2.at fun u e => hx _ u aneP e⟩
    · intro b hb
      show b < h3.objs.size
      rcases List.mem_cons.mp hb with z | z
      · rw [z]; exact hsz4
      · rw [List.mem_singleton.mp z]; exact Nat.lt_of_lt_of_le alt (Nat.le_trans (Nat.le_succ _) hsz4)
    · intro z; exact Nat.ne_of_lt hcl (List.mem_singleton.mp z)
    · intro href hhref
      refine ⟨fun A' E' i v s₂ m₂ hA _ _ hPv hn hm hk => by simp only [List.forIn_nil]; exact wpAny_pure ⟨rfl, keeps_refl _⟩, fun A' E' i u s₂ m₂ hA hD hU hPv _ hn hm hk => ?_⟩
      have hi2 : i < its.length := by
        have := (Array.getElem?_eq_some_iff.mp hPv).1; simpa using this
      have hix : i < xs.length := by rw [rv.length]; exact hi2
      obtain ⟨u', hu', ru⟩ := rv.get (List.getElem?_eq_getElem hix)
      have eu : u' = u := by
        have q := hPv; rw [List.getElem?_toArray, hu'] at q; exact Option.some.inj q
      subst eu
      have kp : ∀ b ob, b ≠ P → s1.heap.get? b = some ob → s₂.heap.get? b = some ob := fun b ob hb e => by
        have hlt := Heap.lt_size e
        exact hk b (List.mem_range.mpr (Nat.lt_of_lt_of_le hlt (Nat.le_trans (Nat.le_succ _) hsz4))) (fun z => Nat.ne_of_lt hlt (List.mem_singleton.mp z)) ob (hhref b ob (keep3 b ob hb e))
      have hlimS : s₂.heap.NoLimit := by
        exact I1.nolimit.at fun ob e => kp _ ob hcP e
      exact wpAny_mono (hel pins σ H1 s1 I1 _ A' E' _ u' s₂ m₂ ⟨rfl, rfl, rfl, rfl, kp, hlimS⟩ ⟨ps, hP, ht⟩ hA hD hU ru (hok _ (List.getElem_mem hix)) hn hm) (fun y s3 r => ⟨⟨_, List.getElem?_eq_getElem hix, r.1⟩, r.2⟩) fun _ _ e => e
    · intro g h5 tk5 gs hgb hag hsz5 hk5 W5 hat
      simp only [GxR.passing_true, List.length_range] at W5
      rw [← rv.length] at W5 hat
      have W6 := W5.in4_1
      refine hQ xs H1 g _ q1 ⟨_, _, _, _, _, (fun j => match xs[j]? with | some b => pb σ b | none => true), W6, hat, fun j y sj Qj Ej hy hQj => ?_, fun j b e => by simp only [e], fun s' hm => ?_⟩
      · obtain ⟨i, hij, cc, hcc, rfl⟩ := hy
        obtain ⟨hj, ej⟩ := List.getElem?_eq_some_iff.mp hij
        rw [List.getElem_range] at ej; subst ej
        simp only [hcc] at hQj
        exact wpAny_truthy_bool hQj
      · obtain ⟨more, em⟩ := hmore
        have nwr : ∀ b u, s1.heap.get? b = some u → b ∉ h3.objs.size :: [s1.heap.objs.size] := fun b u e hb => by
          have hl := Heap.lt_size e
          rcases List.mem_cons.mp hb with z | z
          · exact absurd (Nat.lt_of_lt_of_le hl (Nat.le_trans (Nat.le_succ _) hsz4)) (by rw [z]; exact Nat.lt_irrefl _)
          · exact Nat.ne_of_lt hl (List.mem_singleton.mp z)
        have J := inv_tab (more := more) (h' := s'.heap) (g' := s'.gens) (d' := s'.drawn) (t' := s'.toks) I1 hP (fun b u hb e => hm.heap b u (nwr b u e) (hk5 b u (keep3 b u hb e))) (by rw [← em]; exact hm.heap P _ (nwr P _ hPs) (hk5 P _ hP3)) (AllBare.movedS (I1.bare.push hgb) hm)
        rw [sh_eta s1 s' hm.os] at J
        exact ⟨upd H1 P (.tbl (ps ++ more)), ⟨⟨ps ++ more, upd_same, by rw [← em]; exact ht3⟩, fun b hb => upd_ne hb⟩, J⟩
  refine ⟨lim2, ?_⟩
  have hP2 := old P _ hPs
  cases hf : codeAmong gpos ps.toList with
  | none =>
    refine wpAny_genexprCodeX hcode (cd.code hP2 ht) (cd.tab hP2) hf fun c' h' tk hx hge hlt hco' _ htab' _ => ?_
    obtain ⟨_, _, _, _, _, _, _, _, _, _, _, _, _, _, _, _, _, _, _, htr, _⟩ := hco'
    exact cont _ h' tk _ hx (Nat.le_trans hge (Nat.le_of_lt hlt)) htab'.2 ⟨_, rfl⟩ htr
  | some cv => exact wpAny_genexprCode_hit hcode (cd.code hP2 ht) hf (cont cv (s1.heap.push o) s1.toks ps (Heap.ExtBut.refl _ _) (Nat.le_refl _) hP2 ⟨#[], by simp⟩ ht)
/-- all(test for x in e), e a tuple; behind it the def's table may have grown -/
def tAllT (K : PySem.W.Frag) (P : Addr) (ok : L2.St → Hp → V → Prop) (pb : L2.St → V → Bool) (te : TE) : TE := fun σ H Q => te σ H fun v H1 => ∃ (a : Addr) (xs : List V), v = .ref a ∧ SqT K H1 a xs ∧ TabG H1 P ∧ (∀ x ∈ xs, ok σ H1 x) ∧ ∀ H2, Tabbed P H1 H2 → Q (.bl (xs.all (pb σ))) H2
theorem pe_allT {c P : Addr} {elt iter : Expr} {x : Str} {px p pos gpos : Pos} {scope : Scope} {ok : L2.St → Hp → V → Prop} {pb : L2.St → V → Bool} {te : TE} {k : Nat}
    (hr : Room k X.A) (hg : Gl X "all") (hm : X.mg "all" = none) (hb : bootBuiltins "all" = some (.builtin "all")) (TB : TabB X.base X.mg c P) (hcode : X.env.code = .ref c) (S : GenS X.env scope x) (hi : PE X iter te) (hel : EltT X P scope x elt ok pb)
    (hs : ∀ v, genFold iter X.env v = pure v) (he : starEach [.GeneratorExp elt [⟨.Name x px, iter, [], 0⟩] scope gpos] X.env = (false, eval (.GeneratorExp elt [⟨.Name x px, iter, [], 0⟩] scope gpos) X.env) :: starEach [] X.env := by rfl) :
    PE X (.Call (.Name "all" p) [.GeneratorExp elt [⟨.Name x px, iter, [], 0⟩] scope gpos] [] pos) (tAllT X.K P ok pb te) := by
  refine ⟨fun pins s σ H Q I h => wpAny_Call_Name_kw (ld_blt I hg hm hb (PyProof.Rows.callWith_builtin1 ?_ he (by rfl)))⟩
  rw [he]
  show wpAny _ _ (spliced ((false, eval (.GeneratorExp elt [⟨.Name x px, iter, [], 0⟩] scope gpos) X.env) :: backTo pos (starEach [] X.env))) _ _ s
  refine Calls.spliced_cons (gen_tup (R := fun xs H1 => ∀ H2, Tabbed P H1 H2 → Q (.bl (xs.all (pb σ))) H2) hr TB hcode S hi hel hs I h fun xs H1 g s5 hR hG => Calls.spliced_nil ?_)
  obtain ⟨fp, wr, G, F, St, tr, W, hst, htr, htq, hI⟩ := hG
  refine call_all_walkS (W.self 0 _ _ _ hst ⟨g, fp, wr, G, _, F, St, tr, rfl, W, hst, htr, fun s' hmv => ?_⟩)
  obtain ⟨H2, hT, J⟩ := hI s' hmv
  exact ⟨.bl _, H2, J, rfl, by rw [all_at htq]; exact hR H2 hT⟩
end
end MM
namespace MM
open PySem PySem.Spec PyProof.Rows L2 GxR
/-! ### t[::-1], t a tuple -/
theorem rev_lo (n : Nat) : Builtin.Slice.sliceAdjust none none (-1) (n : Int) = ((n : Int) - 1, -1) := rfl
theorem rev_n (n : Nat) : Builtin.Slice.slicePlaces ((n : Int) - 1) (-1) (-1) = n := by
  unfold Builtin.Slice.slicePlaces
  rw [if_neg (by decide)]
  split
  · show ((((n : Int) - 1 - (-1) - 1) / 1) + 1).toNat = n
    rw [Int.ediv_one]; omega
  · show (0 : Int).toNat = n; omega
theorem range_pick {α : Type} {g : Nat → Option α} {ys : List α} (h : ∀ k, k < ys.length → g k = ys[k]?) : (List.range ys.length).filterMap g = ys := by
  have e : (List.range ys.length).map g = ys.map some := by
    apply List.ext_getElem?
    intro i
    by_cases hi : i < ys.length
    · simp [hi, h i hi]
    · simp [hi, List.getElem?_eq_none (Nat.le_of_not_lt hi)]
  have e2 : (List.range ys.length).filterMap g = ((List.range ys.length).map g).filterMap id := by rw [List.filterMap_map]; rfl
  rw [e2, e, List.filterMap_map]
  have e3 : (id ∘ (some : α → Option α)) = some := rfl
  rw [e3, List.filterMap_some]
theorem rev_pick (xs : Array Value) : ((List.range xs.size).filterMap fun (k : Nat) => xs[(((xs.size : Int) - 1) + (k : Int) * (-1)).toNat]?) = xs.toList.reverse := by
  have l : xs.size = xs.toList.reverse.length := by simp
  have q := range_pick (g := fun (k : Nat) => xs[(((xs.size : Int) - 1) + (k : Int) * (-1)).toNat]?) (ys := xs.toList.reverse) fun k hk => ?_
  · rw [← l] at q; exact q
  · have hk' : k < xs.toList.length := by simpa using hk
    rw [List.getElem?_reverse hk']
    have e2 : (((xs.size : Int) - 1) + (k : Int) * (-1)).toNat = xs.toList.length - 1 - k := by simp only [Array.length_toList] at hk' ⊢; omega
    show xs[(((xs.size : Int) - 1) + (k : Int) * (-1)).toNat]? = _
    rw [e2, Array.getElem?_toList]
section
variable {prog : Program} {w : World} {A : Around} {E : Value → Shared → Prop} {s : Shared}
theorem getItem_tuple_rev {t sl : Addr} {items : Array Value} {u : Tok} {Q : Value → Shared → Prop} (ht : IsTup s.heap t items) (hs : s.heap.IsSliceOf sl .none .none (.int (-1) u)) (hsz : items.size ≤ sizeLine)
    (h : Q (.ref s.heap.objs.size) { s with heap := s.heap.push { cls := .type "tuple", data := .seq items.toList.reverse.toArray } }) : wpAny (model prog w) A (getItem (.ref t) (.ref sl)) Q E s := by
  have hz2 : sizeOk (.seq items.toList.reverse.toArray) := by show items.toList.reverse.toArray.size ≤ sizeLine; simpa using hsz
  obtain ⟨os, hos, hcs, hds⟩ := id hs
  unfold getItem
  try with_reducible refine wpAny_holding ?_
  first | refine wpAny_bind (wpAny_pure ?_) | skip
  refine wpAny_bind (wpAny_sequenceKey ht.typeIs (by decide) (wpAny_bind (wpAny_callSpecial?_slot (name := Str.ofString "__getitem__") ht.typeIs PyProof.Rows.slot_tuple_getitem (wpAny_call_entry PyProof.Rows.slot_tuple_getitem ht.typeIs entry_tuple_getitem ?_ (args_tuple_getitem _ _)))))
  show wpAny _ _ (Builtin.Tuple.tupleItemsOf (.ref t) >>= _) _ _ s
  refine wpAny_bind (tupleItemsOf_ ht (wpAny_bind (wpAny_typeOf (show s.TypeIs (.ref sl) "slice" from ⟨os, hos, hcs⟩) ?_)))
  rw [if_pos (by decide)]
  refine wpAny_bind (m := Builtin.Slice.sliceApplied (.ref sl) (pure (items.size : Int))) ?_
  unfold Builtin.Slice.sliceApplied Builtin.Slice.sliceFields
  refine wpAny_bind (wpAny_bind (wpAny_field hos hds (x := .none) rfl (wpAny_bind (wpAny_field hos hds (x := .none) rfl (wpAny_bind (wpAny_field hos hds (x := .int (-1) u) rfl (wpAny_pure ?_)))))))
  refine wpAny_bind (slicePart_int ?_)
  show wpAny _ _ (if ((-1 : Int) == 0) = true then _ else _) _ _ s
  rw [if_neg (by decide)]
  refine wpAny_bind (slicePart_none (wpAny_bind (slicePart_none (wpAny_bind (wpAny_pure ?_)))))
  show wpAny _ _ (pure (((items.size : Nat) : Int) - 1, (-1 : Int), Builtin.Slice.slicePlaces (((items.size : Nat) : Int) - 1) (-1) (-1))) _ _ s
  rw [rev_n]
  refine wpAny_pure ?_
  have hno : ¬ ((((items.size : Nat) : Int) - 1 == 0 && (-1 : Int) == 1 && items.size == items.size) = true) := by simp
  show wpAny _ _ (if (((items.size : Nat) : Int) - 1 == 0 && (-1 : Int) == 1 && items.size == items.size) = true then _ else _) _ _ s
  rw [if_neg hno, rev_pick]
  first
    | exact wpAny_bind (m := Builtin.Tuple.tupleExact _) (wpAny_newObj_type (wpAny_pure ⟨_, rfl, wpAny_pure h⟩) hz2)
    | exact wpAny_bind (m := Builtin.Tuple.tupleExact _) (wpAny_newObj_type (wpAny_bind (wpAny_pure (wpAny_pure ⟨_, rfl, wpAny_pure h⟩))) hz2)
    | exact wpAny_bind (wpAny_bind (m := Builtin.Tuple.tupleExact _) (wpAny_newObj_type (wpAny_pure (wpAny_pure ⟨_, rfl, wpAny_pure h⟩)) hz2))
    | exact wpAny_bind (wpAny_bind (m := Builtin.Tuple.tupleExact _) (wpAny_newObj_type (wpAny_pure ⟨_, rfl, wpAny_pure h⟩) hz2))
end
section
variable {X : Cx}
def tRevT (K : PySem.W.Frag) (te : TE) : TE := fun σ H Q => te σ H fun x H1 => ∃ a xs, x = .ref a ∧ SqT K H1 a xs ∧ ∀ p, H1 p = none → Q (.ref p) (upd H1 p (.tup xs.reverse))
theorem pe_revT {e : Expr} {te : TE} {k : Nat} {p1 p2 p3 pos : Pos} (he : PE X e te) : PE X (.Subscript e (.Slice none none (some (.UnaryOp .USub (.Constant (.int 1) k p1) p2)) p3) pos) (tRevT X.K te) := by
  refine ⟨fun pins s σ H Q I h => Subscript_ (thn (he.run pins s σ H _ I h) fun v s1 ⟨x, H1, I1, r1, a, xs, ex, hx, q⟩ => ?_)⟩
  subst ex; cases r1
  have hst : PO X (some (.UnaryOp .USub (.Constant (.int 1) k p1) p2)) (tPart (tUn (rU fun i => .int (-i)) (tC (.int 1)))) := po_some (pe_un un_neg pe_int)
  refine wpAny_Slice (thn (po_none.run pins s1 σ H1 (fun o H2 => o = none ∧ H2 = H1) I1 ⟨rfl, rfl⟩) fun vl s2 ⟨l, H2, I2, pl, el, e2⟩ => ?_)
  subst el e2
  refine thn (po_none.run pins s2 σ H2 (fun o H3 => o = none ∧ H3 = H2) I2 ⟨rfl, rfl⟩) fun vu s3 ⟨u, H3, I3, pu, eu, e3⟩ => ?_
  subst eu e3
  refine thn (hst.run pins s3 σ H3 (fun o H4 => o = some (-1) ∧ H4 = H3) I3 ⟨1, rfl, -1, rfl, rfl, rfl⟩) fun vs s4 ⟨o, H4, I4, ps, eo, e4⟩ => ?_
  subst eo e4
  have I5 : Inv X pins σ H4 { s4 with heap := s4.heap.push { cls := .type "slice", data := .fields #[vl, vu, vs] } } := I4.kept (t' := s4.toks) fun b ob q => Heap.get?_push_of_some _ q
  obtain ⟨its, r, ht, hz⟩ := I5.tuple hx
  have hlen := r.length
  have evl : vl = .none := by cases pl; rfl
  have evu : vu = .none := by cases pu; rfl
  have evs : ∃ u, vs = .int (-1) u := by cases ps; exact ⟨_, rfl⟩
  obtain ⟨tk, evs⟩ := evs
  subst evl evu evs
  show wpAny (model X.prog X.w) X.A (subscriptTail e (.Slice none none (some (.UnaryOp .USub (.Constant (.int 1) k p1) p2)) p3) (.ref a) (.ref s4.heap.objs.size)) (EP X pins σ Q) X.xe { s4 with heap := s4.heap.push { cls := .type "slice", data := .fields #[.none, .none, .int (-1) tk] } }
  refine tail_any (ops := [.ref a, .ref s4.heap.objs.size]) ht.typeIs (PyProof.Rows.slot_tuple_getitem.lookup) ?_ (by with_unfolding_all rfl)
  refine getItem_tuple_rev ht (Heap.IsSliceOf.new _ .none .none _) (by simp only [List.size_toArray]; omega) ?_
  refine ⟨.ref _, _, I5.laid (t' := s4.toks) (o := .tup xs.reverse) (fun b ob q => Heap.get?_push_of_some _ q) (Nat.le_refl _) ?_, rfl, q _ (I5.hok.fresh (Nat.le_refl _))⟩
  exact ⟨by rw [List.length_reverse]; exact hz, _, r.reverse, IsTup.new _ _⟩
/-! ### range(n) as a value, walked later -/
theorem cr_range1 : CallR X (.type "range") (fun vs H Q => ∃ j, vs = [V.int j] ∧ ∀ p, H p = none → Q (.ref p) (upd H p (.rng 0 j))) := by
  intro pins s σ H vs us Q I r h
  obtain ⟨j, rfl, q⟩ := h; obtain ⟨u1, rfl, t, rfl⟩ := vals1 r
  exact call_range_1 ⟨.ref s.heap.objs.size, upd H s.heap.objs.size (.rng 0 j), I.laid (t' := s.toks + 1 + 1) (fun b o e => Heap.get?_push_of_some _ e) (Nat.le_refl _) ⟨s.toks, t, s.toks + 1, Heap.get?_push_size _ rfl⟩, rfl, q _ (I.hok.fresh (Nat.le_refl _))⟩
def iRngV (tl : TE) : TI := fun σ H R => tl σ H fun x H1 => ∃ (a : Addr) (lo hi : Int), x = .ref a ∧ H1 a = some (.rng lo hi) ∧ (-(2 ^ 62) ≤ lo ∧ lo < 2 ^ 62 ∧ -(2 ^ 62) ≤ hi ∧ hi < 2 ^ 62) ∧ R (Itr lo (hi - lo).toNat) H1
theorem pi_rngV {tg l : Expr} {tl : TE} (hl : PE X l tl) : PI X tg l (iRngV tl) := by
  refine ⟨fun pins s σ H R I h => thn (hl.run pins s σ H _ I h) fun v s1 ⟨x, H1, I1, r1, a, lo, hi, ex, ha, ⟨b1, b2, b3, b4⟩, q⟩ => ?_⟩
  subst ex; cases r1
  obtain ⟨t, u, v, ho⟩ := I1.hok a _ ha
  have hr : IsRange s1.heap a lo hi 1 t u v := ho
  refine wpAny_pyIter_range hr (small_one b1 b2 b3 b4) ?_
  refine ⟨s1.heap.objs.size, [s1.heap.objs.size], _, _, H1, rfl, I1.kept (t' := s1.toks) fun b o e => Heap.get?_push_of_some _ e, turn_range _ lo (hi - lo).toNat, ?_, fun b hb => ?_, q⟩
  · have e1 : lo + ((0 : Nat) : Int) * 1 = lo := by simp
    have e2 : (((hi - lo).toNat : Nat) : Int) - ((0 : Nat) : Int) = Builtin.Range.rangeSize lo hi 1 := by rw [rangeSize_one]; split <;> omega
    show IsRangeIter _ _ (lo + ((0 : Nat) : Int) * 1) ((((hi - lo).toNat : Nat) : Int) - ((0 : Nat) : Int)) 1
    rw [e1, e2]; exact Heap.get?_push_size _ rfl
  · obtain rfl : b = s1.heap.objs.size := List.mem_singleton.mp hb
    exact I1.fpOk (Nat.le_refl _) (I1.hok.fresh (Nat.le_refl _))
end
end MM
namespace MM
open PySem PySem.Spec PyProof.Rows L2 GxR
/-! ### repr(x), x data -/
section
variable {X : Cx}
def rReprD (K : PySem.W.Frag) : List V → Hp → VK → Prop := fun xs H Q => ∃ v d, xs = [v] ∧ Dp K H v d ∧ d.showable = true ∧ d.hasDict = false ∧ d.depth ≤ 60 ∧ d.shown.length ≤ sizeLine ∧ Q (.str d.shown) H
theorem call_reprD (hG : X.A.guards = some []) (hu : X.A.units + 64 < cLine) : CallR X (.builtin "repr") (rReprD X.K) := by
  intro pins s σ H xs us Q I r h
  obtain ⟨v, d, rfl, hd, hs, hn, hdp, hz, q⟩ := h
  obtain ⟨u, rfl, rv⟩ := vals1 r
  cases hd with
  | non => cases (show u = Value.none from rv); exact PySem.P.repr_of_none ⟨.str _, H, I.tok _, ⟨_, rfl⟩, q⟩
  | bl b => cases (show u = Value.bool b from rv); cases b <;> exact PySem.P.repr_of_bool ⟨.str _, H, I.tok _, ⟨_, rfl⟩, q⟩
  | int i => obtain ⟨t, rfl⟩ := rv; exact PySem.P.repr_of_int (by simpa [PyData.showable] using hs) ⟨.str _, H, I.tok _, ⟨_, rfl⟩, q⟩
  | str x => obtain ⟨t, rfl⟩ := rv; exact PySem.P.repr_of_str ⟨.str _, H, I.tok _, ⟨_, rfl⟩, q⟩ (by simpa [PyData.shown] using hz)
  | @lst a ys ds h1 h2 =>
    cases (show u = Value.ref a from rv)
    obtain ⟨as, rd⟩ := Dp.reads I (.list ds) (.ref a) (.ref a) (.lst h1 h2) rfl
    exact repr_of_reads' rd hs (PyData.noDict_hsm hn) hG (by omega) (fun _ _ e => e) (fun h' u tk hk => ⟨.str _, H, I.kept hk, ⟨_, rfl⟩, q⟩) hz
  | @tup a ys ds h1 h2 =>
    cases (show u = Value.ref a from rv)
    obtain ⟨as, rd⟩ := Dp.reads I (.tuple ds) (.ref a) (.ref a) (.tup h1 h2) rfl
    exact repr_of_reads' rd hs (PyData.noDict_hsm hn) hG (by omega) (fun _ _ e => e) (fun h' u tk hk => ⟨.str _, H, I.kept hk, ⟨_, rfl⟩, q⟩) hz
end
/-! ### sorted(t), t a tuple of whole numbers -/
section
variable {prog : Program} {w : World} {A : Around} {E : Value → Shared → Prop} {s : Shared}
theorem collect_tup {l : Addr} {vs : List Value} {Q : List Value → Shared → Prop} (hl : s.heap.IsTuple l vs.toArray) (hsz : vs.length ≤ sizeLine)
    (h : Q vs { s with heap := (s.heap.push (seqObj "list" #[] 0)).update s.heap.objs.size (Obj.mapSeq (· ++ vs.toArray)) }) : wpAny (model prog w) A (collect (.ref l)) Q E s := by
  have hl2 := hl.push (seqObj "list" #[] 0)
  unfold collect
  refine wpAny_bind (wpAny_runValue (codeAny_builtin entry_proto_collect' ?_))
  show wpAny _ _ (do again (.builtin "list.__iadd__" ⟨[← newList [], .ref l], []⟩)) _ _ s
  refine wpAny_bind (wpAny_newList (wpAny_pure ⟨Code.quiet_builtin _ (by decide +kernel), codeAny_builtin entry_list_iadd' ?_⟩))
  show wpAny _ _ (Builtin.List.listExtendWith (.ref s.heap.objs.size) (.ref l) (.ref s.heap.objs.size)) _ _ { s with heap := s.heap.push (seqObj "list" #[] 0) }
  unfold Builtin.List.listExtendWith
  obtain ⟨o, ho', hc, n, hd⟩ := id hl2
  refine wpAny_bind (wpAny_typeOf (T := "tuple") ⟨o, ho', hc⟩ ?_)
  rw [if_pos (show (Builtin.List.listSameRef (.ref s.heap.objs.size) (.ref l) || Value.type "tuple" == Value.type "list" || Value.type "tuple" == Value.type "tuple") = true by rw [show (Value.type "tuple" == Value.type "tuple") = true by rfl]; simp)]
  refine wpAny_bind (listItems_at ho' hd (wpAny_bind (listItems_at (xs := #[]) (n := 0) (Heap.get?_push_size _ rfl) rfl ?_)))
  rw [if_neg (by simp)]
  refine wpAny_bind (listUpdate_at (xs := #[]) (n := 0) (Heap.get?_push_size _ rfl) rfl (wpAny_pure ?_) (Nat.zero_le _) (by show (#[] ++ vs.toArray).size ≤ sizeLine + 1; simp only [Array.size_append, List.size_toArray, List.length_nil]; omega))
  show wpAny (model prog w) A (load s.heap.objs.size >>= fun o => match o.data with | .seq xs _ => pure xs.toList | _ => unsupported "internal:collect") Q E { s with heap := (s.heap.push (seqObj "list" #[] 0)).update s.heap.objs.size (Obj.mapSeq (· ++ vs.toArray)) }
  refine wpAny_bind (wpAny_load (get?_update_seq (Heap.get?_push_size _ rfl) _) ?_)
  show wpAny _ _ (pure ((#[] : Array Value) ++ vs.toArray).toList) Q E _
  rw [show ((#[] : Array Value) ++ vs.toArray).toList = vs by simp]
  exact wpAny_pure h
theorem sorted_tup {l : Addr} {vs : List Value} {ns : List Int} {Q : Value → Shared → Prop} (hl : s.heap.IsTuple l vs.toArray) (hi : IntsAre vs ns) (hz : vs.length ≤ sizeLine)
    (h : ∀ out : List Value, IntsAre out (out.map SrtO.iv) → (out.map SrtO.iv).Perm ns → (out.map SrtO.iv).Pairwise (· ≤ ·) → Q (.ref (s.heap.objs.size + 1)) { s with heap := sortedAll s.heap vs out.toArray }) :
    wpAny (model prog w) A (call (.builtin "sorted") [.ref l]) Q E s := by
  refine Calls.call_function_entry PyProof.Rows.kind_sorted PyProof.Rows.plain_sorted PyProof.Rows.entry_sorted (PyProof.Rows.args_sorted1 _) ?_
  unfold Builtin.«sorted»
  refine wpAny_bind (m := checkCount "sorted" 1 1 _) (wpAny_pure (wpAny_bind (collect_tup hl hz (wpAny_bind (wpAny_newList ?_ hz)))))
  have hsz : ((s.heap.push (seqObj "list" #[] 0)).update s.heap.objs.size (Obj.mapSeq (· ++ vs.toArray))).objs.size = s.heap.objs.size + 1 := (Heap.size_update ..).trans (Heap.size_push ..)
  have hoL : (((s.heap.push (seqObj "list" #[] 0)).update s.heap.objs.size (Obj.mapSeq (· ++ vs.toArray))).push (seqObj "list" vs.toArray 0)).get? (s.heap.objs.size + 1) = some (seqObj "list" vs.toArray 0) := hsz ▸ Heap.get?_push_size _ rfl
  show wpAny _ _ _ _ _ { s with heap := ((s.heap.push (seqObj "list" #[] 0)).update s.heap.objs.size (Obj.mapSeq (· ++ vs.toArray))).push (seqObj "list" vs.toArray 0) }
  rw [hsz]
  refine wpAny_bind (wpAny_holding (wpAny_call_entry PyProof.Rows.slot_list_sort ⟨_, hoL, rfl⟩ PyProof.Rows.entry_list_sort (SrtO.list_sort_ord SrtO.swo_int hoL hz (fun h2 => SrtO.ints_sortable hi h2) fun out hs hb => ⟨_, rfl, ?_⟩) (PyProof.Rows.args_list_sort _)))
  obtain ⟨k1, k2, k3⟩ := SrtO.ints_out hi hs hb
  exact wpAny_pure ⟨_, rfl, h out k1 k2 k3⟩
end
section
variable {X : Cx}
def rSortedTup (K : PySem.W.Frag) : List V → Hp → VK → Prop := fun vs H Q => ∃ (a : Addr) (ns : List Int), vs = [V.ref a] ∧ SqT K H a (ns.map V.int) ∧ ∀ (ns' : List Int) (p : Addr), ns'.Perm ns → ns'.Pairwise (· ≤ ·) → H p = none → Q (.ref p) (upd H p (.lst (ns'.map V.int)))
theorem cr_sortedTup : CallR X (.builtin "sorted") (rSortedTup X.K) := by
  intro pins s σ H vs us Q I r h
  obtain ⟨a, ns, rfl, hs, q⟩ := h
  obtain ⟨its, rv, hl, hz⟩ := I.tuple hs
  rw [Vals.ref1 r]
  have hi := rv.ints
  refine sorted_tup (show s.heap.IsTuple a its.toArray from hl) hi (by rw [← rv.length]; exact hz) fun out k1 k2 k3 => ?_
  obtain ⟨ep, he'⟩ := PyProof.Rows.sortedAll_at s.heap its out.toArray
  have hlen : ((out.map SrtO.iv).map V.int).length ≤ sizeLine := by rw [List.length_map, k2.length_eq]; simpa using hz
  exact ⟨.ref _, upd H (s.heap.objs.size + 1) (.lst ((out.map SrtO.iv).map V.int)), I.laid (t' := s.toks) (fun _ _ => PyProof.Rows.sortedAll_old) (Nat.le_succ _) ⟨hlen, out, ep, vals_of_ints k1, he'⟩, rfl, q _ _ k2 k3 (I.hok.fresh (Nat.le_succ _))⟩
end
end MM
namespace MM
open PySem PySem.Spec PyProof.Rows L2 GxR
/-! ### heaps that go on -/
/-- what never changes -/
def Fixed : HO → Prop
  | .tup _ => True
  | .rng _ _ => True
  | .frz _ _ => True
  | _ => False
/-- H' goes on from H: what is fixed stays, of the others all but those in B; tables grow -/
structure ExB (B : Addr → Prop) (H H' : Hp) : Prop where
  fix : ∀ a o, H a = some o → Fixed o → H' a = some o
  keep : ∀ a o, H a = some o → (∀ ps, o ≠ .tbl ps) → ¬ B a → H' a = some o
  tbl : ∀ P ps, H P = some (.tbl ps) → ∃ ps', H' P = some (.tbl ps') ∧ (TriplesOk ps.toList → TriplesOk ps'.toList)
  still : ∀ a, H a ≠ none → H' a ≠ none
abbrev Ex : Hp → Hp → Prop := ExB fun _ => False
section
variable {B B' : Addr → Prop} {H H1 H2 : Hp} {a b p P : Addr} {o : HO} {xs ys : List V} {K : PySem.W.Frag}
theorem ExB.refl : ExB B H H := ⟨fun _ _ h _ => h, fun _ _ h _ _ => h, fun _ ps h => ⟨ps, h, id⟩, fun _ h => h⟩
theorem ExB.mono (e : ExB B H H1) (h : ∀ a, B a → B' a) : ExB B' H H1 := ⟨e.fix, fun a o q n b => e.keep a o q n fun z => b (h a z), e.tbl, e.still⟩
theorem ExB.of (e : Ex H H1) : ExB B H H1 := e.mono fun _ z => z.elim
theorem ExB.tab (e : ExB B H H1) (h : TabG H P) : TabG H1 P := let ⟨_, h1, h2⟩ := h; let ⟨ps', h3, h4⟩ := e.tbl _ _ h1; ⟨ps', h3, h4 h2⟩
/-- what is changed is new -/
theorem ExB.then (e : ExB B H H1) (d : ExB B' H1 H2) (h : ∀ a, B' a → H a = none ∨ B a) : ExB B H H2 :=
  ⟨fun a o q f => d.fix a o (e.fix a o q f) f, fun a o q n b => d.keep a o (e.keep a o q n b) n (fun z => (h a z).elim (fun y => by rw [y] at q; cases q) b), fun P ps h => let ⟨p1, a1, a2⟩ := e.tbl P ps h; let ⟨p2, b1, b2⟩ := d.tbl P p1 a1; ⟨p2, b1, fun z => b2 (a2 z)⟩, fun a h => d.still a (e.still a h)⟩
theorem ExB.trans (e : ExB B H H1) (d : ExB B H1 H2) : ExB B H H2 := e.then d fun _ z => .inr z
theorem ExB.fresh (e : ExB B H H1) (h : H1 p = none) : H p = none := by
  cases q : H p with
  | none => rfl
  | some o => exact absurd h (e.still p (by rw [q]; exact fun z => nomatch z))
theorem ex_new (h : H p = none) : ExB B H (upd H p o) :=
  ⟨fun a o q _ => by rw [upd_ne (ne_of_none q h)]; exact q, fun a o q _ _ => by rw [upd_ne (ne_of_none q h)]; exact q, fun P ps q => ⟨ps, by rw [upd_ne (ne_of_none q h)]; exact q, id⟩, fun a q z => by by_cases e : a = p; exact q (e ▸ h); rw [upd_ne e] at z; exact q z⟩
theorem ex_set (h : H p = some (.lst xs)) : ExB (fun a => a = p) H (upd H p (.lst ys)) :=
  ⟨fun a o q f => by rw [upd_ne (fun z => by rw [z, h] at q; cases q; exact f)]; exact q, fun a o q _ n => by rw [upd_ne n]; exact q, fun P ps q => ⟨ps, by rw [upd_ne (fun z => by rw [z, h] at q; cases q)]; exact q, id⟩,
    fun a q z => by by_cases e : a = p; (rw [e, upd_same] at z; cases z); rw [upd_ne e] at z; exact q z⟩
theorem ex_tab (h : TabG H P) (t : Tabbed P H H1) : ExB B H H1 := by
  obtain ⟨ps, h1, h2⟩ := h
  obtain ⟨⟨ps', g1, g2⟩, t2⟩ := t
  have ne : ∀ a o, H a = some o → (∀ ps, o ≠ .tbl ps) → a ≠ P := fun a o q n z => by rw [z, h1] at q; cases q; exact n ps rfl
  refine ⟨fun a o q f => by rw [t2 a (ne a o q fun ps z => by rw [z] at f; exact f)]; exact q, fun a o q n _ => by rw [t2 a (ne a o q n)]; exact q, fun Q qs q => ?_, fun a q z => ?_⟩
  · by_cases e : Q = P
    · rw [e]; exact ⟨ps', g1, fun _ => g2⟩
    · exact ⟨qs, by rw [t2 Q e]; exact q, id⟩
  · by_cases e : a = P
    · rw [e, g1] at z; cases z
    · rw [t2 a e] at z; exact q z
theorem ExB.tup (e : ExB B H H1) (h : H a = some (.tup xs)) : H1 a = some (.tup xs) := e.fix _ _ h trivial
theorem ExB.rng {lo hi : Int} (e : ExB B H H1) (h : H a = some (.rng lo hi)) : H1 a = some (.rng lo hi) := e.fix _ _ h trivial
theorem ExB.lst (e : ExB B H H1) (h : H a = some (.lst xs)) (n : ¬ B a) : H1 a = some (.lst xs) := e.keep _ _ h (fun _ z => nomatch z) n
theorem Ex.lst (e : Ex H H1) (h : H a = some (.lst xs)) : H1 a = some (.lst xs) := e.keep _ _ h (fun _ z => nomatch z) id
theorem ExB.sqt (e : ExB B H H1) (h : SqT K H a xs) : SqT K H1 a xs := by
  rcases h with (h | ⟨o, h⟩) | h
  · exact .inl (.inl (e.fix _ _ h trivial))
  · exact .inl (.inr ⟨o, e.fix _ _ h trivial⟩)
  · exact .inr h
theorem ExB.sql (e : ExB B H H1) (h : SqL K H a xs) (n : ¬ B a) : SqL K H1 a xs := by
  rcases h with (h | ⟨o, h⟩) | h
  · exact .inl (.inl (e.keep _ _ h (fun _ z => nomatch z) n))
  · exact .inl (.inr ⟨o, e.fix _ _ h trivial⟩)
  · exact .inr h
theorem Ex.sql (e : Ex H H1) (h : SqL K H a xs) : SqL K H1 a xs := ExB.sql e h id
/-- the script: frozen or written, never changed -/
def Scr (K : PySem.W.Frag) (H : Hp) (a : Addr) (xs : List V) : Prop := SqL K H a xs ∧ ∀ ys, H a ≠ some (.lst ys)
theorem ExB.ne (h : H a = none) (h' : H b ≠ none) : a ≠ b := fun z => h' (z ▸ h)
end
/-! ### data that never changes -/
mutual
def noList : PyData → Bool
  | .list _ => false
  | .dict _ => false
  | .tuple xs => noLists xs
  | _ => true
def noLists : List PyData → Bool
  | [] => true
  | x :: xs => noList x && noLists xs
end
section
variable {B : Addr → Prop} {H H1 : Hp} {K : PySem.W.Frag}
mutual
theorem Dp.ex (e : Ex H H1) : ∀ {v : V} {d : PyData}, Dp K H v d → Dp K H1 v d
  | _, _, .non => .non
  | _, _, .bl b => .bl b
  | _, _, .int i => .int i
  | _, _, .str x => .str x
  | _, _, .lst h1 h2 => .lst (Ex.sql e h1) (Dp.exAll e h2)
  | _, _, .tup h1 h2 => .tup (e.sqt h1) (Dp.exAll e h2)
theorem Dp.exAll (e : Ex H H1) : ∀ {vs : List V} {ds : List PyData}, DpAll K H vs ds → DpAll K H1 vs ds
  | _, _, .nil => .nil
  | _, _, .cons h1 h2 => .cons (Dp.ex e h1) (Dp.exAll e h2)
end
mutual
theorem Dp.exN (e : ExB B H H1) : ∀ {v : V} {d : PyData}, noList d = true → Dp K H v d → Dp K H1 v d
  | _, _, _, .non => .non
  | _, _, _, .bl b => .bl b
  | _, _, _, .int i => .int i
  | _, _, _, .str x => .str x
  | _, _, n, .lst h1 h2 => by simp [noList] at n
  | _, _, n, .tup h1 h2 => .tup (e.sqt h1) (Dp.exNAll e (by simpa [noList] using n) h2)
theorem Dp.exNAll (e : ExB B H H1) : ∀ {vs : List V} {ds : List PyData}, noLists ds = true → DpAll K H vs ds → DpAll K H1 vs ds
  | _, _, _, .nil => .nil
  | _, _, n, .cons h1 h2 => by
    simp only [noLists, Bool.and_eq_true] at n
    exact .cons (Dp.exN e n.1 h1) (Dp.exNAll e n.2 h2)
end
theorem dpAll_ints : ∀ ns : List Int, DpAll K H (ns.map V.int) (ns.map PyData.int)
  | [] => .nil
  | n :: ns => .cons (.int n) (dpAll_ints ns)
theorem dp_row {a : Addr} {ns : List Int} (h : SqT K H a (ns.map V.int)) : Dp K H (.ref a) (.tuple (ns.map PyData.int)) := .tup h (dpAll_ints ns)
theorem dp_ints {a : Addr} {ns : List Int} (h : SqL K H a (ns.map V.int)) : Dp K H (.ref a) (.list (ns.map PyData.int)) := .lst h (dpAll_ints ns)
end
/-! ### a def as its callers know it -/
def CallD (P : Program) (w : World) (K : PySem.W.Frag) (mg : Str → Option Value) (base : Heap) (k : Nat) (x : Str) (ps : List Str) (sp : Sp) : Prop :=
  ∃ f fd, FnG P w K mg base CX0 k f fd ps sp ∧ mg x = some (.ref f) ∧ PySem.W.keepIn K (.ref f) = true ∧ Binds K fd ps []
abbrev FnP (K : PySem.W.Frag) (x : Str) (st : Stmt) (f : Addr) (fd : FuncData) : Prop := FunD K x x (defArgs st) (defBody st) (defScope st) [] [] f fd
section
variable {P : Program} {w : World} {K : PySem.W.Frag} {mg : Str → Option Value} {base : Heap} {f : Addr} {fd : FuncData} {x : Str} {st : Stmt} {ps N : List Str} {k : Nat} {sp sp' : Sp}
theorem CallD.le {j : Nat} (C : CallD P w K mg base j x ps sp) (h : j ≤ k) : CallD P w K mg base k x ps sp := let ⟨f, fd, F, r⟩ := C; ⟨f, fd, F.mono h, r⟩
/-- the rule for a def: its body keeps the promise -/
theorem callD (F : FnP K x st f fd) (g : mg x = some (.ref f)) (S : FnScope N ps (defScope st))
    (hb : ∀ (kV doc pm : Value) (an : Option Addr) (cdv ct : Value) (us : List Value), us.length = ps.length → bindArgs (PySem.W.fnOf x x (defArgs st) (defBody st) (defScope st) .none kV doc pm an cdv ct) ⟨us, []⟩ = pure (ps.zip us))
    (len : ∀ vs H Q E, sp vs H Q E → vs.length = ps.length)
    (body : ∀ (cdv : Value) (A : Around) (outer : List Env) (s : Shared) (H : Hp) (vs : List V) (Q : VK) (E : XK), (∀ oc od fd osl, K.lookup f = some ⟨oc, od, .func fd, osl⟩ → fd.code = cdv) → Room k (A.deeper (envOfC x (defScope st) s.heap.objs.size f cdv)) → (A.deeper (envOfC x (defScope st) s.heap.objs.size f cdv)).guards = some [] → sp vs H Q E →
      ∃ t, PSs (cxOf CX0 P w K mg base N x (defScope st) f cdv A outer s H E).nox (defBody st) t ∧ t { nx := fun _ H' => Q .non H', rt := Q } (start N vs) H) : CallD P w K mg base (k + 1) x ps sp := by
  have b := F.bindsN hb
  have kp := F.kp
  obtain ⟨oc, od, dV, kV, doc, pm, an, cdv, ct, osl, rfl, lk, hcd, _, _⟩ := F.ex
  refine ⟨f, _, fn_ofG lk hcd S len fun A outer s H vs Q E hr hG hsp => ?_, g, kp, b⟩
  obtain ⟨t, h, q⟩ := body cdv A outer s H vs Q E (fun oc2 od2 fd2 osl2 e => by rw [lk] at e; cases e; rfl) hr hG hsp
  exact ⟨t, h.nox, q⟩
end
section
variable {X : Cx} {k : Nat} {ps : List Str} {sp : Sp} {x : Str} {p pos : Pos} {e : Expr} {es : List Expr} {t : TA}
theorem pe_c (C : CallD X.prog X.w X.K X.mg X.base k x ps sp) (hr : Room k X.A) (hG : X.A.guards = some []) (ha : PA X (e :: es) t) (hg : Gl X x := by rfl) (hdb : (x == ("__debug__" : Str)) = false := by decide) (he : starEach (e :: es) X.env = (false, eval e X.env) :: starEach es X.env := by rfl) (hpl : (backTo pos (starEach es X.env)).any (·.1) = false := by rfl) :
    PE X (.Call (.Name x p) (e :: es) [] pos) (tCall sp [] E0 t) := by
  obtain ⟨f, fd, F, g, kp, b⟩ := C
  exact pe_callG F hr hG hg g kp b .nil pass0 ha hdb he hpl
end
end MM
namespace MM
open PySem PySem.Spec PyProof.Rows L2 GxR
/-! ### kinds of values -/
inductive Kd (K : PySem.W.Frag) (H : Hp) : V → String → Prop where
  | non : Kd K H .non "NoneType"
  | bl (b : Bool) : Kd K H (.bl b) "bool"
  | int (i : Int) : Kd K H (.int i) "int"
  | str (x : Str) : Kd K H (.str x) "str"
  | lst {a : Addr} {xs : List V} (e : H a = some (.lst xs)) : Kd K H (.ref a) "list"
  | tup {a : Addr} {xs : List V} (e : SqT K H a xs) : Kd K H (.ref a) "tuple"
  | dic {a : Addr} {kvs : List (Key × V)} (e : H a = some (.dK kvs)) : Kd K H (.ref a) "dict"
/-- is_whole of a value -/
def isW : V → Bool
  | .int _ => true
  | _ => false
section
variable {X : Cx} {pins : List (Addr × Obj)} {σ : L2.St} {H : Hp} {s : Shared}
theorem Kd.kit {x : V} {u : Value} {T : String} {h2 : Heap} (k : Kd X.K H x T) (I : Inv X pins σ H s) (r : RelV x u) (keep : ∀ b o, H b ≠ none ∨ (∃ o, X.K.lookup b = some o) → (∀ xs, o.data ≠ .fields xs) → s.heap.get? b = some o → h2.get? b = some o) :
    ∃ P : Heap → Prop, PySem.W.KitX X.K u (.type T) P ∧ P h2 ∧ (∀ h3 : Heap, (∀ b o, h2.get? b = some o → h3.get? b = some o) → P h3) ∧ u ≠ .builtin "__main__.__loader__#opaque" := by
  cases k with
  | non => cases (show u = Value.none from r); exact ⟨_, PySem.W.kitx_none, True.intro, fun _ _ => True.intro, fun z => nomatch z⟩
  | bl b => cases (show u = Value.bool b from r); exact ⟨_, PySem.W.kitx_bool, True.intro, fun _ _ => True.intro, fun z => nomatch z⟩
  | int i => obtain ⟨t, q⟩ := (show ∃ t, u = Value.int i t from r); cases q; exact ⟨_, PySem.W.kitx_int, True.intro, fun _ _ => True.intro, fun z => nomatch z⟩
  | str i => obtain ⟨t, q⟩ := (show ∃ t, u = Value.str i t from r); cases q; exact ⟨_, PySem.W.kitx_str, True.intro, fun _ _ => True.intro, fun z => nomatch z⟩
  | @lst a xs e =>
    cases (show u = Value.ref a from r)
    obtain ⟨_, _, n, _, h1⟩ := (show ObjOk X.prog X.w H s.heap a (.lst xs) from I.hok a _ e)
    have q := keep a _ (.inl (by rw [e]; exact fun z => nomatch z)) (by intro xs z; cases z) h1
    exact ⟨_, PySem.W.kitx_list, ⟨_, q, rfl⟩, fun h3 k => ⟨_, k _ _ q, rfl⟩, fun z => nomatch z⟩
  | @tup a xs e =>
    cases (show u = Value.ref a from r)
    obtain ⟨its, _, ⟨o, h1, h2, n, h3⟩, _⟩ := I.tuple e
    have q := keep a o ?_ (fun _ z => by rw [h3] at z; cases z) h1
    exact ⟨_, PySem.W.kitx_tuple, ⟨o, q, h2⟩, fun h3 k => ⟨_, k _ _ q, h2⟩, fun z => nomatch z⟩
    rcases e with (e | ⟨_, e⟩) | ⟨o, _, _, e, _⟩
    · exact .inl (by rw [e]; exact fun z => nomatch z)
    · exact .inl (by rw [e]; exact fun z => nomatch z)
    · exact .inr ⟨o, e⟩
  | @dic a kvs e =>
    cases (show u = Value.ref a from r)
    obtain ⟨_, _, vs, _, o, es, ep, h1, h2, h3⟩ := (show ObjOk X.prog X.w H s.heap a (.dK kvs) from I.hok a _ e)
    have q := keep a o (.inl (by rw [e]; exact fun z => nomatch z)) (fun _ z => by rw [h3.1] at z; cases z) h1
    exact ⟨_, PySem.W.kitx_dict, ⟨o, q, h2.1⟩, fun h3 k => ⟨_, k _ _ q, h2.1⟩, fun z => nomatch z⟩
end
/-- what a kind is among int, bool, tuple, list -/
def isI : V → Bool
  | .int _ => true
  | .bl _ => true
  | _ => false
def isB : V → Bool
  | .bl _ => true
  | _ => false
theorem isW_eq (x : V) : isW x = (isI x && !isB x) := by cases x <;> rfl
theorem kd_int {K : PySem.W.Frag} {H : Hp} {x : V} {T : String} (k : Kd K H x T) : PySem.W.kitOne K (.type T) (.type "int") = some (isI x) := by
  cases k <;> first | exact kit_ty (r := true) (by decide +kernel) | exact kit_ty (r := false) (by decide +kernel)
theorem kd_bool {K : PySem.W.Frag} {H : Hp} {x : V} {T : String} (k : Kd K H x T) : PySem.W.kitOne K (.type T) (.type "bool") = some (isB x) := by
  cases k <;> first | exact kit_ty (r := true) (by decide +kernel) | exact kit_ty (r := false) (by decide +kernel)
theorem kd_tuple {K : PySem.W.Frag} {H : Hp} {x : V} {T : String} (k : Kd K H x T) : PySem.W.kitOne K (.type T) (.type "tuple") = some (decide (T = "tuple")) := by
  cases k <;> first | exact kit_ty (r := true) (by decide +kernel) | exact kit_ty (r := false) (by decide +kernel)
theorem kd_list {K : PySem.W.Frag} {H : Hp} {x : V} {T : String} (k : Kd K H x T) : PySem.W.kitOne K (.type T) (.type "list") = some (decide (T = "list")) := by
  cases k <;> first | exact kit_ty (r := true) (by decide +kernel) | exact kit_ty (r := false) (by decide +kernel)
theorem Kd.ty {K : PySem.W.Frag} {H : Hp} {x : V} {T : String} (k : Kd K H x T) : TyX K H x (.type T) := by
  cases k with
  | non => exact .base .non
  | bl b => exact .base (.bl b)
  | int i => exact .base (.int i)
  | str i => exact .base (.str i)
  | lst e => exact .base (.lst e)
  | dic e => exact .base (.dK e)
  | tup e =>
    rcases e with (e | ⟨_, e⟩) | ⟨o, its, n, e, c, _⟩
    · exact .base (.tup e)
    · exact .fTuple e
    · exact .kTuple e c
end MM
namespace MM
open PySem PySem.Spec PyProof.Rows L2 GxR
/-! ### a call within a generator: the frames around it are not known, so the callee is walked by the machine's own rules -/
section
variable {prog : Program} {w : World} {A : Around} {E : Value → Shared → Prop} {s : Shared} {K : PySem.W.Frag} {mg : Str → Option Value} {env : Env}
/-- what a body at the machine's own level knows of the module -/
structure Lo (K : PySem.W.Frag) (mg : Str → Option Value) (env : Env) (h : Heap) : Prop where
  kin : K.In h
  glob : h.Ns mainGlobals mg
  blt : ∃ mb, h.Ns builtinsNs mb ∧ ∀ x : Str, x ≠ "__name__" → mb x = bootBuiltins x
  lim : h.NoLimit
  kind : env.scope.kind = .function
  eg : env.globals = mainGlobals
  eb : env.builtins = builtinsNs
theorem Lo.keeps {h h' : Heap} (L : Lo K mg env h) (k : ∀ b o, h.get? b = some o → h'.get? b = some o) : Lo K mg env h' :=
  ⟨L.kin.keeps k, L.glob.keeps k, let ⟨mb, a, b⟩ := L.blt; ⟨mb, a.keeps k, b⟩, L.lim.keeps k, L.kind, L.eg, L.eb⟩
theorem lo_glob {x : Str} {u : Value} {pos : Pos} {Q : Value → Shared → Prop} (L : Lo K mg env s.heap) (hg : env.kindOf x = some .globalImplicit) (hm : mg x = some u) (h : Q u s) (hd : (x == ("__debug__" : Str)) = false := by decide) :
    wpAny (model prog w) A (eval (.Name x pos) env) Q E s := Calls.Name_function_global L.kind hg (Calls.loadGlobal_global (by rw [L.eg]; exact L.glob) hm h) hd
theorem lo_blt {x : Str} {u : Value} {pos : Pos} {Q : Value → Shared → Prop} (L : Lo K mg env s.heap) (hg : env.kindOf x = some .globalImplicit) (hm : mg x = none) (hv : bootBuiltins x = some u) (h : Q u s) (hn : x ≠ "__name__" := by decide) (hd : (x == ("__debug__" : Str)) = false := by decide) :
    wpAny (model prog w) A (eval (.Name x pos) env) Q E s := by
  obtain ⟨mb, h1, h2⟩ := L.blt
  exact Calls.Name_function_global L.kind hg (Calls.loadGlobal_builtin (by rw [L.eg]; exact L.glob) hm (by rw [L.eb]; exact h1) ((h2 x hn).trans hv) h) hd
theorem lo_loc {x : Str} {u : Value} {pos : Pos} {m : Str → Option Value} {Q : Value → Shared → Prop} (hk : env.scope.kind = .function) (hl : env.kindOf x = some .local) (hn : s.heap.Ns env.locals m) (hm : m x = some u) (h : Q u s) (hd : (x == ("__debug__" : Str)) = false := by decide) :
    wpAny (model prog w) A (eval (.Name x pos) env) Q E s := wpAny_Name (wpAny_loadName_local hk hl hn hm h) hd
/-- isinstance(x, T), x a name of the frame, T a built-in class -/
theorem lo_isi {x T : Str} {Ts : String} {p1 p2 p3 pos : Pos} {m : Str → Option Value} {u : Value} {t : String} {Pk : Heap → Prop} {b : Bool} {Q : Value → Shared → Prop} (L : Lo K mg env s.heap) (hl : env.kindOf x = some .local) (hn : s.heap.Ns env.locals m) (hm : m x = some u)
    (hg : env.kindOf "isinstance" = some .globalImplicit) (hgT : env.kindOf T = some .globalImplicit) (mi : mg "isinstance" = none) (mT : mg T = none) (bT : bootBuiltins T = some (.type Ts))
    (Z : PySem.W.KitX K u (.type t) Pk) (pk : Pk s.heap) (e : PySem.W.kitOne K (.type t) (.type Ts) = some b) (hx : u ≠ .builtin "__main__.__loader__#opaque") (h : ∀ tk, Q (.bool b) { s with toks := tk })
    (hd : (x == ("__debug__" : Str)) = false := by decide) (hdT : (T == ("__debug__" : Str)) = false := by decide) (hnT : T ≠ "__name__" := by decide)
    (he : starEach [.Name x p2, .Name T p3] env = (false, eval (.Name x p2) env) :: starEach [.Name T p3] env := by rfl) (he2 : starEach [.Name T p3] env = (false, eval (.Name T p3) env) :: starEach [] env := by rfl) (hpl : (backTo pos (starEach [.Name T p3] env)).any (·.1) = false := by rfl) :
    wpAny (model prog w) A (eval (.Call (.Name "isinstance" p1) [.Name x p2, .Name T p3] [] pos) env) Q E s := by
  refine wpAny_Call_Name_kw (lo_blt L hg mi (u := .builtin "isinstance") (by decide +kernel) ?_)
  refine PyProof.Rows.callWith_builtin1 ?_ he hpl
  rw [he]
  show wpAny _ _ (spliced ((false, eval (.Name x p2) env) :: backTo pos (starEach [.Name T p3] env))) _ _ s
  refine Calls.spliced_cons (lo_loc L.kind hl hn hm ?_ hd)
  rw [he2]
  show wpAny _ _ (spliced ((false, _) :: backTo pos (starEach [] env))) _ _ s
  refine Calls.spliced_cons (lo_blt L hgT mT bT (Calls.spliced_nil ?_) hnT hdT)
  exact PySem.W.kia_one Z L.kin pk e hx h
/-- a frame's state goes on -/
theorem keeps_of {s s' : Shared} {h : Heap} {tk : Nat} (e : s' = { s with heap := h, toks := tk }) (k : ∀ b o, s.heap.get? b = some o → h.get? b = some o) : Keeps s s' := ⟨h, tk, e, k⟩
/-- is_whole's text -/
def wholeBody (p0 p1 p2 p3 p4 p5 p6 p7 p8 p9 p10 p11 : Pos) : List Stmt := [.Return (some (.BoolOp .And [.Call (.Name "isinstance" p0) [.Name "thing" p1, .Name "int" p2] [] p3, .UnaryOp .Not (.Call (.Name "isinstance" p4) [.Name "thing" p5, .Name "bool" p6] [] p7) p8] p9)) p10]
/-- the callee, at any depth -/
theorem lo_whole {f : Addr} {fd : FuncData} {st : Stmt} {u : Value} {t : String} {Pk : Heap → Prop} {x : V} {H : Hp} {Q : Value → Shared → Prop} {env : Env} (F : FnP K "is_whole" st f fd) (L : Lo K mg env s.heap) (hroom : A.depth < recursionLimit)
    (mi : mg "isinstance" = none) (m1 : mg "int" = none) (m2 : mg "bool" = none)
    (hs : (defScope st) = { kind := .function, names := [(Str.ofString "thing", .local), (Str.ofString "isinstance", .globalImplicit), (Str.ofString "int", .globalImplicit), (Str.ofString "bool", .globalImplicit)], isGenerator := false, isCoroutine := false, more := [] })
    (hb : ∃ p0 p1 p2 p3 p4 p5 p6 p7 p8 p9 p10 p11, defBody st = wholeBody p0 p1 p2 p3 p4 p5 p6 p7 p8 p9 p10 p11)
    (hbind : ∀ (kV doc pm : Value) (an : Option Addr) (cdv ct : Value) (us : List Value), us.length = 1 → bindArgs (PySem.W.fnOf "is_whole" "is_whole" (defArgs st) (defBody st) (defScope st) .none kV doc pm an cdv ct) ⟨us, []⟩ = pure ((["thing"] : List Str).zip us))
    (k : Kd K H x t) (Z : PySem.W.KitX K u (.type t) Pk) (pk : Pk s.heap) (pkm : ∀ h' : Heap, (∀ b o, s.heap.get? b = some o → h'.get? b = some o) → Pk h') (hx : u ≠ .builtin "__main__.__loader__#opaque") (h : ∀ s', Keeps s s' → Q (.bool (isW x)) s') :
    wpAny (model prog w) A (call (.ref f) [u]) Q E s := by
  have b := F.bindsN (ps := ["thing"]) hbind
  obtain ⟨oc, od, dV, kV, doc, pm, an, cdv, ct, osl, rfl, lk, hcd, _, _⟩ := F.ex
  have hbu := b s [u] L.kin rfl
  obtain ⟨p0, p1, p2, p3, p4, p5, p6, p7, p8, p9, p10, p11, hb⟩ := hb
  refine wpAny_call (Att.call_fn L.kin L.lim lk hcd hroom hbu (by rw [hs]; rfl) (fun s1 IC => ?_) (by rw [hs]) (by rw [hs]) (by rw [hs]))
  obtain ⟨h1, tk1, e1, k1⟩ := IC.done
  have hn := IC.toInCall.ns
  have k1' := IC.toInCall.keep
  rw [hb]
  have sc : (envOfC "is_whole" (defScope st) s.heap.objs.size f cdv).scope = defScope st := rfl
  have ko : ∀ y, (envOfC "is_whole" (defScope st) s.heap.objs.size f cdv).kindOf y = (defScope st).names.lookup y := fun _ => rfl
  have L1 : Lo K mg (envOfC "is_whole" (defScope st) s.heap.objs.size f cdv) s1.heap := ⟨L.kin.keeps k1', L.glob.keeps k1', let ⟨mb, a, b⟩ := L.blt; ⟨mb, a.keeps k1', b⟩, L.lim.keeps k1', by rw [sc, hs], rfl, rfl⟩
  have kk : ∀ y, (envOfC "is_whole" (defScope st) s.heap.objs.size f cdv).kindOf y = ([(Str.ofString "thing", NameKind.local), (Str.ofString "isinstance", .globalImplicit), (Str.ofString "int", .globalImplicit), (Str.ofString "bool", .globalImplicit)] : List (Str × NameKind)).lookup y := fun y => by rw [ko, hs]
  have hm : bindL (envOfC "is_whole" (defScope st) s.heap.objs.size f cdv).kindOf ((["thing"] : List Str).zip ([u] ++ [])) (fun _ => none) "thing" = some u := bindL_get (P := ["thing"]) (vs := [u]) (i := 0) (by decide) rfl rfl (by rw [kk]; rfl)
  show wpAny _ _ (execs [_] _) _ _ s1
  refine wpAny_execs_cons (wpAny_Return_some (BoolOp_and (lo_isi L1 (by rw [kk]; rfl) hn hm (by rw [kk]; rfl) (by rw [kk]; rfl) mi m1 (Ts := "int") (by decide +kernel) Z (pkm _ k1') (kd_int k) hx fun tk => wpAny_truthy_bool ?_)))
  have fin : ∀ (b : Bool) tk', Q (.bool b) { s1 with toks := tk' } ↔ Q (.bool b) { s1 with toks := tk' } := fun _ _ => Iff.rfl
  cases hI : isI x with
  | false =>
    refine (show Q (.bool false) { s1 with toks := tk } from ?_)
    have e : isW x = false := by rw [isW_eq, hI]; rfl
    rw [← e]; exact h _ (keeps_of (h := h1) (tk := tk) (by rw [e1]) k1)
  | true =>
    refine BoolOp_one (UnaryOp_ (lo_isi (s := { s1 with toks := tk }) L1 (by rw [kk]; rfl) hn hm (by rw [kk]; rfl) (by rw [kk]; rfl) mi m2 (Ts := "bool") (by decide +kernel) Z (pkm _ k1') (kd_bool k) hx fun tk2 => not_of (wpAny_truthy_bool ?_)))
    have e : isW x = !isB x := by rw [isW_eq, hI]; rfl
    show Q (.bool (!isB x)) { s1 with toks := tk2 }
    rw [← e]; exact h _ (keeps_of (h := h1) (tk := tk2) (by rw [e1]) k1)
end
end MM
namespace MM
open PySem PySem.Spec PyProof.Rows L2 GxR
theorem nofree_gen {l : List (Str × NameKind)} (h : (l.all fun y => y.2 != .free) = true) : ∀ y ∈ l, y.2 = .free → False := fun y hy e => by
  have := List.all_eq_true.mp h y hy; rw [e] at this; exact absurd this (by decide)
section
variable {X : Cx}
/-- what a generator's frame knows of the module -/
theorem GenIn.lo {P : Addr} {scope : Scope} {pins : List (Addr × Obj)} {σ : L2.St} {H1 : Hp} {s1 s2 : Shared} {cenv : Env} (G : GenIn X P scope s1 cenv s2) (I : Inv X pins σ H1 s1) (hP : H1 P ≠ none) (hk : scope.kind = .function) : Lo X.K X.mg cenv s2.heap := by
  have kb : ∀ b o, X.base.get? b = some o → s2.heap.get? b = some o := fun b o e => by
    obtain ⟨e1, e2⟩ := I.bs b o e
    exact G.keep b o (fun z => hP (by rw [← z]; exact e2)) e1
  obtain ⟨mb, b1, b2⟩ := I.mod.blt
  exact ⟨I.mod.kin.keeps kb, I.mod.glob.keeps kb, ⟨mb, b1.keeps kb, b2⟩, G.lim, by rw [G.sco]; exact hk, by rw [G.glob]; exact I.ok.glob, G.blt⟩
/-- the table is no object of the written part, no list, no tuple .. -/
theorem tab_ne {P : Addr} {pins : List (Addr × Obj)} {σ : L2.St} {H1 : Hp} {s1 : Shared} {ps : Array Value} (I : Inv X pins σ H1 s1) (hP : H1 P = some (.tbl ps)) {b : Addr} {o : Obj} (e : s1.heap.get? b = some o) (n : ∀ xs, o.data ≠ .fields xs) : b ≠ P := fun z => by
  have q : s1.heap.get? P = some { cls := .none, data := .fields ps } := I.hok P _ hP
  rw [z, q] at e; cases e; exact n ps rfl
def okKd (X : Cx) : L2.St → Hp → V → Prop := fun _ H v => ∃ T, Kd X.K H v T
/-- is_whole(x) of the generator's name -/
theorem elt_whole {P f : Addr} {fd : FuncData} {st : Stmt} {scope : Scope} {y : Str} {p1 p2 pos : Pos} {k : Nat} (F : FnP X.K "is_whole" st f fd) (hr : Room k X.A)
    (g : X.mg "is_whole" = some (.ref f)) (mi : X.mg "isinstance" = none) (m1 : X.mg "int" = none) (m2 : X.mg "bool" = none)
    (hs : (defScope st) = { kind := .function, names := [(Str.ofString "thing", .local), (Str.ofString "isinstance", .globalImplicit), (Str.ofString "int", .globalImplicit), (Str.ofString "bool", .globalImplicit)], isGenerator := false, isCoroutine := false, more := [] })
    (hb : ∃ p0 p1 p2 p3 p4 p5 p6 p7 p8 p9 p10 p11, defBody st = wholeBody p0 p1 p2 p3 p4 p5 p6 p7 p8 p9 p10 p11)
    (hbind : ∀ (kV doc pm : Value) (an : Option Addr) (cdv ct : Value) (us : List Value), us.length = 1 → bindArgs (PySem.W.fnOf "is_whole" "is_whole" (defArgs st) (defBody st) (defScope st) .none kV doc pm an cdv ct) ⟨us, []⟩ = pure ((["thing"] : List Str).zip us))
    (sk : scope.kind = .function) (sy : scope.names.lookup y = some .local) (sg : scope.names.lookup ("is_whole" : Str) = some .globalImplicit) (hd : (y == ("__debug__" : Str)) = false := by decide) :
    EltT X P scope y (.Call (.Name "is_whole" p1) [.Name y p2] [] pos) (okKd X) fun _ v => isW v := by
  intro pins σ H1 s1 I cenv A' E' v u s2 mm G ⟨ps, hPt, _⟩ hA hD hU rv ⟨T, kd⟩ hn hm
  have hP : H1 P ≠ none := by rw [hPt]; exact fun z => nomatch z
  have L := G.lo I hP sk
  have kk : ∀ z, cenv.kindOf z = scope.names.lookup z := fun z => by show cenv.scope.names.lookup z = _; rw [G.sco]
  obtain ⟨Pk, Z, pk, pkm, hx⟩ := kd.kit (h2 := s2.heap) I rv fun b o _ n e => G.keep b o (tab_ne I hPt e n) e
  have he : starEach [.Name y p2] cenv = (false, eval (.Name y p2) cenv) :: starEach [] cenv := rfl
  refine wpAny_Call_Name_kw (lo_glob L (by rw [kk]; exact sg) g ?_)
  refine PySem.W.callWith_K (h₀ := s2.heap) L.kin F.kp ?_ he rfl
  rw [he]
  show wpAny _ _ (spliced ((false, _) :: backTo pos (starEach [] cenv))) _ _ s2
  refine Calls.spliced_cons (lo_loc L.kind (by rw [kk]; exact sy) hn hm (Calls.spliced_nil ⟨L.kin, ?_⟩) hd)
  exact lo_whole F L (by have := hr.dp; omega) mi m1 m2 hs hb hbind kd Z pk pkm hx fun s' K' => ⟨rfl, K'⟩
end
end MM
/-! the layer's rules, the written part named (so that a block's context does not stand in a reading) -/
namespace MM
open PySem PySem.Spec PyProof.Rows L2 GxR
section
variable {X : Cx} {K : PySem.W.Frag} {e o a : Expr} {es : List Expr} {te to ta : TE} {t : TA} {T id : String} {name : Str} {r : V → List V → Hp → VK → Prop} {apos cpos pos p p2 : Pos}
theorem k_bm (hK : X.K = K) (pa : PlainAttrs T) (slot : Slot T name id) (hty : typeOf (.builtin id) = pure (.type "method_descriptor")) (hm : MtR X id r) (ho : PE X o to) (ha : PA X (e :: es) t) (hbase : attributeBase o name X.env (eval o X.env) = eval o X.env := by rfl)
    (hfew : ((backTo cpos (starEach (e :: es) X.env)).all (fun x => !x.1) && (backToKw cpos (keywordEach [] X.env)).all (fun x => x.1.isSome) && decide ((e :: es).length + ([] : List Keyword).length + (if ([] : List Keyword).isEmpty then 0 else 1) < 30)) = true := by rfl)
    (hline : (apos.endLine == cpos.line) = true := by rfl) (hs : starEach (e :: es) X.env = (false, eval e X.env) :: starEach es X.env := by rfl) (hplain : (backTo cpos (starEach es X.env)).any (·.1) = false := by rfl) : PE X (.Call (.Attribute o name apos) (e :: es) [] cpos) (tBM K T r to t) := hK ▸ pe_bm pa slot hty hm ho ha hbase hfew hline hs hplain
theorem k_bm0 (hK : X.K = K) (h : PE X (.Call (.Attribute o name apos) [] [] cpos) (tBM0 X.K T r to)) : PE X (.Call (.Attribute o name apos) [] [] cpos) (tBM0 K T r to) := hK ▸ h
theorem k_ixl (hK : X.K = K) : IxR X (rIxL K) := hK ▸ ix_list
theorem k_ixt (hK : X.K = K) : IxR X (rIxT K) := hK ▸ ix_tup
def rLenK (K : PySem.W.Frag) : List V → Hp → VK → Prop := fun xs H Q => ∃ p ys, xs = [.ref p] ∧ (SqL K H p ys ∨ SqT K H p ys) ∧ Q (.int ys.length) H
theorem k_len (hK : X.K = K) : CallR X (.builtin "len") (rLenK K) := hK ▸ call_len_seq
theorem k_eq (hK : X.K = K) (hu : X.A.units + 64 < cLine) : OpR X (compareOp .Eq) (rEqD K) := hK ▸ op_eqD hu
theorem k_ne (hK : X.K = K) (hu : X.A.units + 64 < cLine) : OpR X (compareOp .NotEq) (rNeD K) := hK ▸ op_neD hu
theorem k_isi (hK : X.K = K) : CallR X (.builtin "isinstance") (rIsi K) := hK ▸ call_isi
theorem k_repr (hK : X.K = K) (hG : X.A.guards = some []) (hu : X.A.units + 64 < cLine) : CallR X (.builtin "repr") (rReprD K) := hK ▸ call_reprD hG hu
theorem k_sortT (hK : X.K = K) : CallR X (.builtin "sorted") (rSortedTup K) := hK ▸ cr_sortedTup
theorem k_sortL (hK : X.K = K) : CallR X (.builtin "sorted") (rSortedI K) := hK ▸ cr_sortedI
theorem k_sum (hK : X.K = K) (hc : X.calm = true) : CallR X (.builtin "sum") (rSum K) := hK ▸ cr_sum hc
theorem k_all (hK : X.K = K) (hc : X.calm = true) : CallR X (.builtin "all") (rAll K) := hK ▸ cr_all hc
theorem k_any (hK : X.K = K) (hc : X.calm = true) : CallR X (.builtin "any") (rAny K) := hK ▸ cr_any hc
theorem k_in (hK : X.K = K) : OpR X (compareOp .In) (rIn K false) := hK ▸ op_in_seq
theorem k_notIn (hK : X.K = K) : OpR X (compareOp .NotIn) (rIn K true) := hK ▸ op_notIn_seq
theorem k_index (hK : X.K = K) : MtR X "list.index" (rIndex K) := hK ▸ mt_index
theorem k_sll (hK : X.K = K) : SlR X (rSlL K) := hK ▸ sl_list
theorem k_revT {k : Nat} {p1 p2 p3 pos : Pos} (hK : X.K = K) (he : PE X e te) : PE X (.Subscript e (.Slice none none (some (.UnaryOp .USub (.Constant (.int 1) k p1) p2)) p3) pos) (tRevT K te) := hK ▸ pe_revT he
theorem k_revL {k : Nat} {p1 p2 p3 pos : Pos} (hK : X.K = K) (he : PE X e te) : PE X (.Subscript e (.Slice none none (some (.UnaryOp .USub (.Constant (.int 1) k p1) p2)) p3) pos) (tRevL K te) := hK ▸ pe_revL he
theorem k_piL {tg l : Expr} {tl : TE} (hK : X.K = K) (hl : PE X l tl) : PI X tg l (iList K tl) := hK ▸ pi_list hl
theorem k_piT {tg l : Expr} {tl : TE} (hK : X.K = K) (hl : PE X l tl) : PI X tg l (iTup K tl) := hK ▸ pi_tup hl
theorem k_piE {elts : List Expr} {kk : Nat} {tpos : Pos} (hK : X.K = K) (h : PI X (.Tuple elts kk tpos) a (iEnum X.K t)) : PI X (.Tuple elts kk tpos) a (iEnum K t) := hK ▸ h
theorem k_piZ {elts : List Expr} {kk : Nat} {tpos : Pos} (hK : X.K = K) (h : PI X (.Tuple elts kk tpos) a (iZip X.K t)) : PI X (.Tuple elts kk tpos) a (iZip K t) := hK ▸ h
theorem k_piZA {elts : List Expr} {kk : Nat} {tpos : Pos} (hK : X.K = K) (h : PI X (.Tuple elts kk tpos) a (RZ.iZipA X.K t)) : PI X (.Tuple elts kk tpos) a (RZ.iZipA K t) := hK ▸ h
theorem k_tup {tgs : List Expr} {k n : Nat} {u : TGs} (hK : X.K = K) (h : PG X (.Tuple tgs k pos) (gTup X.K n u)) : PG X (.Tuple tgs k pos) (gTup K n u) := hK ▸ h
def rListOf (K : PySem.W.Frag) : List V → Hp → VK → Prop := fun xs H Q => ∃ p ys, xs = [.ref p] ∧ (SqL K H p ys ∨ SqT K H p ys) ∧ ∀ l, H l = none → Q (.ref l) (upd H l (.lst ys))
theorem k_listOf (hK : X.K = K) : CallR X (.type "list") (rListOf K) := hK ▸ call_list_of
/-! ### tuples: a new one, or the very same -/
def rSlE (K : PySem.W.Frag) : V → Option Int → Option Int → Hp → VK → Prop := fun x lo hi H Q => ∃ a xs, x = .ref a ∧ SqT K H a xs ∧ ∀ p H', Ex H H' → SqT K H' p (cutV xs lo hi) → Q (.ref p) H'
theorem k_slt (hK : X.K = K) : SlR X (rSlE K) := by
  subst hK
  intro pins s σ H x v vl vu lo hi sl Q I rx hs pl pu ⟨a, xs, ex, hT, q⟩
  refine sl_tupA pins s σ H x v vl vu lo hi sl Q I rx hs pl pu ⟨a, xs, ex, hT, fun hw => ?_, fun hw p np => q p _ (ex_new np) (SqT.of upd_same)⟩
  have e : cutV xs lo hi = xs := by unfold cutV; rw [hw.1, hw.2]; simp
  exact q a H ExB.refl (by rw [e]; exact hT)
def rCatE (K : PySem.W.Frag) : R2 := fun x y H Q => ∃ a b xs ys, x = .ref a ∧ y = .ref b ∧ SqT K H a xs ∧ SqT K H b ys ∧ xs.length + ys.length ≤ sizeLine ∧ ∀ p H', Ex H H' → SqT K H' p (xs ++ ys) → Q (.ref p) H'
theorem k_catT (hK : X.K = K) : OpR X (binaryOp .Add) (rCatE K) := by
  subst hK
  intro pins s σ H x y v u Q I rx ry ⟨a, b, xs, ys, ex, ey, hT, hT2, hz, q⟩
  refine op_catA pins s σ H x y v u Q I rx ry ⟨a, b, xs, ys, ex, ey, hT, hT2, hz, fun e => ?_, fun _ e => ?_, fun _ _ p np => q p _ (ex_new np) (SqT.of upd_same)⟩
  · subst e; exact q b H ExB.refl hT2
  · subst e; exact q a H ExB.refl (by rw [List.append_nil]; exact hT)
def tTupE (K : PySem.W.Frag) (te : TE) : TE := fun σ H Q => te σ H fun x H1 => ∃ p xs, x = .ref p ∧ ((SqL K H1 p xs ∧ ∀ q H', Ex H1 H' → H1 q = none → H' q = some (.tup xs) → Q (.ref q) H') ∨ (SqT K H1 p xs ∧ Q (.ref p) H1))
theorem k_tupOf {p pos : Pos} (hK : X.K = K) (hg : Gl X "tuple") (hm : X.mg "tuple" = none) (ha : PE X a ta) (na : starEach [a] X.env = (false, eval a X.env) :: starEach [] X.env := by rfl) : PE X (.Call (.Name "tuple" p) [a] [] pos) (tTupE K ta) := by
  subst hK
  refine ⟨fun pins s σ H Q I h => Call_ (ld_blt I hg hm boot_tuple (PyProof.Rows.callWith_type1 (one_arg ha I h (fun v s2 x H2 I2 r q => ?_) na) na))⟩
  obtain ⟨p, xs, ex, q⟩ := q
  refine rl_tuple pins s2 σ H2 x v Q I2 r ?_
  rcases q with ⟨h1, q⟩ | ⟨h1, q⟩
  · exact .inl ⟨p, xs, ex, h1, fun z nz => q z _ (ex_new nz) nz upd_same⟩
  · exact .inr ⟨p, xs, ex, h1, by rw [← ex] at *; first | exact q | (rw [ex]; exact q)⟩
end
end MM
namespace MM
open PySem PySem.Spec PyProof.Rows L2 GxR
/-! ### is_gap(x, many) within a generator -/
def gapV (m : Int) : V → Bool
  | .int i => decide (0 ≤ i ∧ i ≤ m - 2)
  | _ => false
theorem gapV_isW {m : Int} {x : V} (h : isW x = false) : gapV m x = false := by
  cases x <;> first | rfl | cases h
theorem isW_int {x : V} (h : isW x = true) : ∃ i, x = .int i := by
  cases x <;> first | exact ⟨_, rfl⟩ | cases h
section
variable {prog : Program} {w : World} {A : Around} {E : Value → Shared → Prop} {s : Shared} {K : PySem.W.Frag} {mg : Str → Option Value} {env : Env}
def gapBody (p0 p1 p2 p3 p4 p5 p6 p7 p8 p9 p10 : Pos) : List Stmt := [.Return (some (.BoolOp .And [.Call (.Name "is_whole" p0) [.Name "thing" p1] [] p2, .Compare (.Constant (.int 0) 0 p3) [.LtE, .LtE] [.Name "thing" p4, .BinOp (.Name "many" p5) .Sub (.Constant (.int 2) 0 p6) p7] p8] p9)) p10]
theorem lo_gap {f fW : Addr} {fd fdW : FuncData} {st stW : Stmt} {u : Value} {t : String} {Pk : Heap → Prop} {x : V} {m : Int} {tk : Tok} {H : Hp} {Q : Value → Shared → Prop} {env : Env} (F : FnP K "is_gap" st f fd) (FW : FnP K "is_whole" stW fW fdW) (gW : mg "is_whole" = some (.ref fW)) (L : Lo K mg env s.heap) (hroom : A.depth + 1 < recursionLimit)
    (mi : mg "isinstance" = none) (m1 : mg "int" = none) (m2 : mg "bool" = none)
    (hs : (defScope st) = { kind := .function, names := [(Str.ofString "thing", .local), (Str.ofString "many", .local), (Str.ofString "is_whole", .globalImplicit)], isGenerator := false, isCoroutine := false, more := [] })
    (hb : ∃ p0 p1 p2 p3 p4 p5 p6 p7 p8 p9 p10, defBody st = gapBody p0 p1 p2 p3 p4 p5 p6 p7 p8 p9 p10)
    (hbind : ∀ (kV doc pm : Value) (an : Option Addr) (cdv ct : Value) (us : List Value), us.length = 2 → bindArgs (PySem.W.fnOf "is_gap" "is_gap" (defArgs st) (defBody st) (defScope st) .none kV doc pm an cdv ct) ⟨us, []⟩ = pure ((["thing", "many"] : List Str).zip us))
    (hsW : (defScope stW) = { kind := .function, names := [(Str.ofString "thing", .local), (Str.ofString "isinstance", .globalImplicit), (Str.ofString "int", .globalImplicit), (Str.ofString "bool", .globalImplicit)], isGenerator := false, isCoroutine := false, more := [] })
    (hbW : ∃ p0 p1 p2 p3 p4 p5 p6 p7 p8 p9 p10 p11, defBody stW = wholeBody p0 p1 p2 p3 p4 p5 p6 p7 p8 p9 p10 p11)
    (hbindW : ∀ (kV doc pm : Value) (an : Option Addr) (cdv ct : Value) (us : List Value), us.length = 1 → bindArgs (PySem.W.fnOf "is_whole" "is_whole" (defArgs stW) (defBody stW) (defScope stW) .none kV doc pm an cdv ct) ⟨us, []⟩ = pure ((["thing"] : List Str).zip us))
    (k : Kd K H x t) (rv : RelV x u) (Z : PySem.W.KitX K u (.type t) Pk) (pk : Pk s.heap) (pkm : ∀ h' : Heap, (∀ b o, s.heap.get? b = some o → h'.get? b = some o) → Pk h') (hx : u ≠ .builtin "__main__.__loader__#opaque") (h : ∀ s', Keeps s s' → Q (.bool (gapV m x)) s') :
    wpAny (model prog w) A (call (.ref f) [u, .int m tk]) Q E s := by
  have b := F.bindsN (ps := ["thing", "many"]) hbind
  obtain ⟨oc, od, dV, kV, doc, pm, an, cdv, ct, osl, rfl, lk, hcd, _, _⟩ := F.ex
  have hbu := b s [u, .int m tk] L.kin rfl
  obtain ⟨p0, p1, p2, p3, p4, p5, p6, p7, p8, p9, p10, hb⟩ := hb
  refine wpAny_call (Att.call_fn L.kin L.lim lk hcd (by omega) hbu (by rw [hs]; rfl) (fun s1 IC => ?_) (by rw [hs]) (by rw [hs]) (by rw [hs]))
  obtain ⟨h1, tk1, e1, k1⟩ := IC.done
  have hn := IC.toInCall.ns
  have k1' := IC.toInCall.keep
  rw [hb]
  have sc : (envOfC "is_gap" (defScope st) s.heap.objs.size f cdv).scope = defScope st := rfl
  have ko : ∀ y, (envOfC "is_gap" (defScope st) s.heap.objs.size f cdv).kindOf y = (defScope st).names.lookup y := fun _ => rfl
  have L1 : Lo K mg (envOfC "is_gap" (defScope st) s.heap.objs.size f cdv) s1.heap := ⟨L.kin.keeps k1', L.glob.keeps k1', let ⟨mb, a, b⟩ := L.blt; ⟨mb, a.keeps k1', b⟩, L.lim.keeps k1', by rw [sc, hs], rfl, rfl⟩
  have kk : ∀ y, (envOfC "is_gap" (defScope st) s.heap.objs.size f cdv).kindOf y = ([(Str.ofString "thing", NameKind.local), (Str.ofString "many", .local), (Str.ofString "is_whole", .globalImplicit)] : List (Str × NameKind)).lookup y := fun y => by rw [ko, hs]
  have hm : bindL (envOfC "is_gap" (defScope st) s.heap.objs.size f cdv).kindOf ((["thing", "many"] : List Str).zip ([u, .int m tk] ++ [])) (fun _ => none) "thing" = some u := bindL_get (P := ["thing", "many"]) (vs := [u, .int m tk]) (i := 0) (by decide) rfl rfl (by rw [kk]; rfl)
  have hm2 : bindL (envOfC "is_gap" (defScope st) s.heap.objs.size f cdv).kindOf ((["thing", "many"] : List Str).zip ([u, .int m tk] ++ [])) (fun _ => none) "many" = some (.int m tk) := bindL_get (P := ["thing", "many"]) (vs := [u, .int m tk]) (i := 1) (by decide) rfl rfl (by rw [kk]; rfl)
  show wpAny _ _ (execs [_] _) _ _ s1
  have he : starEach [.Name "thing" p1] (envOfC "is_gap" (defScope st) s.heap.objs.size f cdv) = (false, eval (.Name "thing" p1) (envOfC "is_gap" (defScope st) s.heap.objs.size f cdv)) :: starEach [] (envOfC "is_gap" (defScope st) s.heap.objs.size f cdv) := rfl
  refine wpAny_execs_cons (wpAny_Return_some (BoolOp_and ?_))
  refine wpAny_Call_Name_kw (lo_glob L1 (by rw [kk]; rfl) gW ?_)
  refine PySem.W.callWith_K (h₀ := s1.heap) L1.kin FW.kp ?_ he rfl
  rw [he]
  show wpAny _ _ (spliced ((false, _) :: backTo p2 (starEach [] _))) _ _ s1
  refine Calls.spliced_cons (lo_loc L1.kind (by rw [kk]; rfl) hn hm (Calls.spliced_nil ⟨L1.kin, ?_⟩))
  refine lo_whole FW L1 (by show A.depth + 1 < recursionLimit; exact hroom) mi m1 m2 hsW hbW hbindW k Z (pkm _ k1') (fun h' k' => pkm h' fun b o e => k' b o (k1' b o e)) hx fun s2 K2 => wpAny_truthy_bool ?_
  obtain ⟨h2, tk2, e2, k2⟩ := K2
  have kall : ∀ b o, s.heap.get? b = some o → s2.heap.get? b = some o := fun b o e => by rw [e2]; exact k2 b o (k1' b o e)
  cases hI : isW x with
  | false =>
    rw [show gapV m x = false from gapV_isW hI] at h
    refine (show Q (.bool false) s2 from h _ ⟨h2, tk2, by rw [e2, e1], fun b o e => k2 b o (k1' b o e)⟩)
  | true =>
    obtain ⟨i, rfl⟩ := isW_int hI
    obtain ⟨ti, rfl⟩ : ∃ ti, u = .int i ti := rv
    have L2' : Lo K mg (envOfC "is_gap" (defScope st) s.heap.objs.size f cdv) s2.heap := L1.keeps fun b o e => by rw [e2]; exact k2 b o e
    have hn2 : s2.heap.Ns (envOfC "is_gap" (defScope st) s.heap.objs.size f cdv).locals (bindL (envOfC "is_gap" (defScope st) s.heap.objs.size f cdv).kindOf ((["thing", "many"] : List Str).zip ([.int i ti, .int m tk] ++ [])) (fun _ => none)) := by rw [e2]; exact hn.keeps k2
    refine BoolOp_one (Compare_chain (wpAny_Constant_int (chain_link (lo_loc L2'.kind (by rw [kk]; rfl) hn2 hm (le_int (wpAny_truthy_bool ?_))))) rfl)
    have fin : ∀ (b : Bool) tk', b = gapV m (.int i) → Q (.bool b) { s2 with toks := tk' } := fun b tk' e => by
      rw [e]; exact h _ ⟨h2, tk', by rw [e2, e1], fun b o e => k2 b o (k1' b o e)⟩
    by_cases h0 : (0 : Int) ≤ i
    · rw [decide_eq_true h0]
      refine ite_tt (chain_last (wpAny_BinOp (lo_loc L2'.kind (by rw [kk]; rfl) hn2 hm2 (wpAny_Constant_int (sub_int (le_int ?_))))))
      exact fin _ _ (by unfold gapV; rw [Bool.eq_iff_iff]; simp [h0])
    · rw [decide_eq_false h0]
      refine ite_ff ?_
      exact fin _ _ (by unfold gapV; rw [Bool.eq_iff_iff]; simp [h0])
/-- a name of the def's frame, seen from the generator -/
theorem cap_loc {X : Cx} {P : Addr} {scope : Scope} {pins : List (Addr × Obj)} {σ : L2.St} {H1 : Hp} {s1 s2 : Shared} {cenv : Env} {z : Str} {i : Nat} {v : V} {pos : Pos} {A' : Around} {E' : Value → Shared → Prop} {Q : Value → Shared → Prop} (G : GenIn X P scope s1 cenv s2) (I : Inv X pins σ H1 s1) (hP : ∃ ps, H1 P = some (.tbl ps)) (hk : scope.kind = .function)
    (hz : scope.names.lookup z = some .free) (hc : X.env.kindOf z = some .cell) (cl : ∀ c, X.env.cells.lookup z = some c → (cloFrom X.env.cells scope.names []).lookup z = some c) (hi : X.N[i]? = some z) (hv : σ[i]? = some (some v))
    (h : ∀ u, RelV v u → Q u s2) (hd : (z == ("__debug__" : Str)) = false := by decide) (hn : (z == ("__classdict__" : Str)) = false := by decide) : wpAny (model X.prog X.w) A' (eval (.Name z pos) cenv) Q E' s2 := by
  obtain ⟨mm, _, hl⟩ := I.loc
  obtain ⟨u, ru, hu⟩ := hl i z v hi hv (.inr (.inl hc))
  rcases hu with ⟨k1, _⟩ | ⟨_, c, hcl, hcell⟩
  · rw [hc] at k1; cases k1
  · obtain ⟨ps, hP⟩ := hP
    have cell2 : s2.heap.IsCell c (some u) := by
      obtain ⟨o, eo, ed⟩ := hcell
      exact ⟨o, G.keep c o (tab_ne I hP eo fun xs z => by rw [ed] at z; cases z) eo, ed⟩
    refine wpAny_Name (wpAny_loadName_free (c := c) (by rw [G.sco]; exact hk) (by show cenv.scope.names.lookup z = _; rw [G.sco]; exact hz) (by rw [G.cells]; exact cl c hcl) cell2 (h u ru) hn) hd
end
section
variable {X : Cx}
def gapAt (j : Nat) (σ : L2.St) (v : V) : Bool := match σ[j]? with
  | some (some (.int m)) => gapV m v
  | _ => false
/-- is_gap(x, many) of the generator's name and a name of the def -/
theorem elt_gap {P f fW : Addr} {fd fdW : FuncData} {st stW : Stmt} {scope : Scope} {y z : Str} {p1 p2 p3 pos : Pos} {k j : Nat} (F : FnP X.K "is_gap" st f fd) (FW : FnP X.K "is_whole" stW fW fdW) (hr : Room k X.A)
    (g : X.mg "is_gap" = some (.ref f)) (gW : X.mg "is_whole" = some (.ref fW)) (mi : X.mg "isinstance" = none) (m1 : X.mg "int" = none) (m2 : X.mg "bool" = none)
    (hs : (defScope st) = { kind := .function, names := [(Str.ofString "thing", .local), (Str.ofString "many", .local), (Str.ofString "is_whole", .globalImplicit)], isGenerator := false, isCoroutine := false, more := [] })
    (hb : ∃ p0 p1 p2 p3 p4 p5 p6 p7 p8 p9 p10, defBody st = gapBody p0 p1 p2 p3 p4 p5 p6 p7 p8 p9 p10)
    (hbind : ∀ (kV doc pm : Value) (an : Option Addr) (cdv ct : Value) (us : List Value), us.length = 2 → bindArgs (PySem.W.fnOf "is_gap" "is_gap" (defArgs st) (defBody st) (defScope st) .none kV doc pm an cdv ct) ⟨us, []⟩ = pure ((["thing", "many"] : List Str).zip us))
    (hsW : (defScope stW) = { kind := .function, names := [(Str.ofString "thing", .local), (Str.ofString "isinstance", .globalImplicit), (Str.ofString "int", .globalImplicit), (Str.ofString "bool", .globalImplicit)], isGenerator := false, isCoroutine := false, more := [] })
    (hbW : ∃ p0 p1 p2 p3 p4 p5 p6 p7 p8 p9 p10 p11, defBody stW = wholeBody p0 p1 p2 p3 p4 p5 p6 p7 p8 p9 p10 p11)
    (hbindW : ∀ (kV doc pm : Value) (an : Option Addr) (cdv ct : Value) (us : List Value), us.length = 1 → bindArgs (PySem.W.fnOf "is_whole" "is_whole" (defArgs stW) (defBody stW) (defScope stW) .none kV doc pm an cdv ct) ⟨us, []⟩ = pure ((["thing"] : List Str).zip us))
    (sk : scope.kind = .function) (sy : scope.names.lookup y = some .local) (sg : scope.names.lookup ("is_gap" : Str) = some .globalImplicit)
    (hz : scope.names.lookup z = some .free) (hc : X.env.kindOf z = some .cell) (cl : ∀ c, X.env.cells.lookup z = some c → (cloFrom X.env.cells scope.names []).lookup z = some c) (hj : X.N[j]? = some z)
    (hd : (y == ("__debug__" : Str)) = false := by decide) (hdz : (z == ("__debug__" : Str)) = false := by decide) (hnz : (z == ("__classdict__" : Str)) = false := by decide) :
    EltT X P scope y (.Call (.Name "is_gap" p1) [.Name y p2, .Name z p3] [] pos) (fun σ H v => (∃ T, Kd X.K H v T) ∧ ∃ m : Int, σ[j]? = some (some (.int m))) (gapAt j) := by
  intro pins σ H1 s1 I cenv A' E' v u s2 mm G ⟨ps, hPt, _⟩ hA hD hU rv ⟨⟨T, kd⟩, m, hm0⟩ hn hm
  have hP : H1 P ≠ none := by rw [hPt]; exact fun z => nomatch z
  have L := G.lo I hP sk
  have kk : ∀ z, cenv.kindOf z = scope.names.lookup z := fun z => by show cenv.scope.names.lookup z = _; rw [G.sco]
  obtain ⟨Pk, Z, pk, pkm, hx⟩ := kd.kit (h2 := s2.heap) I rv fun b o _ n e => G.keep b o (tab_ne I hPt e n) e
  have he : starEach [.Name y p2, .Name z p3] cenv = (false, eval (.Name y p2) cenv) :: starEach [.Name z p3] cenv := rfl
  have he2 : starEach [.Name z p3] cenv = (false, eval (.Name z p3) cenv) :: starEach [] cenv := rfl
  refine wpAny_Call_Name_kw (lo_glob L (by rw [kk]; exact sg) g ?_)
  refine PySem.W.callWith_K (h₀ := s2.heap) L.kin F.kp ?_ he (by rw [he2]; rfl)
  rw [he]
  show wpAny _ _ (spliced ((false, _) :: backTo pos (starEach [.Name z p3] cenv))) _ _ s2
  refine Calls.spliced_cons (lo_loc L.kind (by rw [kk]; exact sy) hn hm ?_ hd)
  rw [he2]
  show wpAny _ _ (spliced ((false, _) :: backTo pos (starEach [] cenv))) _ _ s2
  refine Calls.spliced_cons (cap_loc G I ⟨ps, hPt⟩ sk hz hc cl hj hm0 (fun um rum => Calls.spliced_nil ⟨L.kin, ?_⟩) hdz hnz)
  obtain ⟨tk, rfl⟩ : ∃ tk, um = .int m tk := rum
  have e : gapAt j σ v = gapV m v := by unfold gapAt; rw [hm0]
  rw [e]
  exact lo_gap F FW gW L (by have := hr.dp; omega) mi m1 m2 hs hb hbind hsW hbW hbindW kd rv Z pk pkm hx fun s' K' => ⟨rfl, K'⟩
end
end MM
namespace MM
open PySem PySem.Spec PyProof.Rows L2 GxR
/-! ### isinstance(x, bool) within a generator; t * k; t.index(x) -/
section
variable {X : Cx}
theorem elt_isB {P : Addr} {scope : Scope} {y : Str} {p1 p2 p3 pos : Pos} (mi : X.mg "isinstance" = none) (mb : X.mg "bool" = none)
    (sk : scope.kind = .function) (sy : scope.names.lookup y = some .local) (si : scope.names.lookup ("isinstance" : Str) = some .globalImplicit) (sb : scope.names.lookup ("bool" : Str) = some .globalImplicit) (hd : (y == ("__debug__" : Str)) = false := by decide) :
    EltT X P scope y (.Call (.Name "isinstance" p1) [.Name y p2, .Name "bool" p3] [] pos) (okKd X) fun _ v => isB v := by
  intro pins σ H1 s1 I cenv A' E' v u s2 mm G ⟨ps, hPt, _⟩ hA hD hU rv ⟨T, kd⟩ hn hm
  have hP : H1 P ≠ none := by rw [hPt]; exact fun z => nomatch z
  have L := G.lo I hP sk
  have kk : ∀ z, cenv.kindOf z = scope.names.lookup z := fun z => by show cenv.scope.names.lookup z = _; rw [G.sco]
  obtain ⟨Pk, Z, pk, pkm, hx⟩ := kd.kit (h2 := s2.heap) I rv fun b o _ n e => G.keep b o (tab_ne I hPt e n) e
  exact lo_isi L (by rw [kk]; exact sy) hn hm (by rw [kk]; exact si) (by rw [kk]; exact sb) mi mb (Ts := "bool") (by decide +kernel) Z pk (kd_bool kd) hx (fun tk => ⟨rfl, keeps_tok _ _⟩) hd
theorem free_one {l : List (Str × NameKind)} {cells : List (Str × Addr)} {z : Str} {c : Addr} (h : (l.all fun y => y.2 != .free || y.1 == z) = true) (hc : cells.lookup z = some c) : ∀ y ∈ l, y.2 = .free → ∃ c, cells.lookup y.1 = some c := fun y hy e => by
  have := List.all_eq_true.mp h y hy
  rw [e] at this
  have e2 : y.1 = z := by simpa using this
  exact ⟨c, by rw [e2]; exact hc⟩
/-- t * k of any number -/
theorem tuple_mul_same (l : Addr) (items : Array Value) (n : Nat) (dd : Option Addr) (sl : Array (Option Value)) (x : Int) (u : Tok) (c0 : (decide (x < -(2 ^ 63)) || decide (x ≥ 2 ^ 63)) = false) (c1 : (items.isEmpty || x == 1) = true) :
    Meets (Builtin.«tuple.__mul__» ⟨[.ref l, .int x u], []⟩) (fun _ R s => s.heap.get? l = some { cls := .type "tuple", dict := dd, data := .seq items n, slots := sl } ∧ R (.ok (.ret (Value.ref l))) s) :=
  .of_wp fun prog w A R s h => by
    obtain ⟨hp, g, d, tk, os⟩ := s
    obtain ⟨hl, h⟩ := h
    have f1 := AutoSeq1.idx_int
    wp_walk using wpAny_loadPart' hl
    refine wpAny_ite_false (decide_eq_false (by rw [c0]; exact Bool.false_ne_true)) ?_
    wp_walk using wpAny_loadPart' hl
    exact ⟨_, rfl, h⟩
theorem tuple_mul_nil (l : Addr) (items : Array Value) (n : Nat) (dd : Option Addr) (sl : Array (Option Value)) (x : Int) (u : Tok) (c0 : (decide (x < -(2 ^ 63)) || decide (x ≥ 2 ^ 63)) = false) (c1 : (items.isEmpty || x == 1) = false) (c2 : (decide (x ≤ 0) || items.isEmpty) = true) :
    Meets (Builtin.«tuple.__mul__» ⟨[.ref l, .int x u], []⟩) (fun _ R s => s.heap.get? l = some { cls := .type "tuple", dict := dd, data := .seq items n, slots := sl } ∧
      R (.ok (.ret (Value.ref s.heap.objs.size))) { s with heap := s.heap.push { cls := Value.type "tuple", data := Data.seq #[] }, toks := s.toks }) :=
  .of_wp fun prog w A R s h => by
    obtain ⟨hp, g, d, tk, os⟩ := s
    obtain ⟨hl, h⟩ := h
    have f1 := AutoSeq1.idx_int
    wp_walk using wpAny_loadPart' hl
    refine wpAny_ite_false (decide_eq_false (by rw [c0]; exact Bool.false_ne_true)) ?_
    wp_walk using wpAny_loadPart' hl
    exact ⟨_, rfl, h⟩
def rRepE (K : PySem.W.Frag) : R2 := fun x y H Q => ∃ l k xs, x = .ref l ∧ y = .int k ∧ H l = some (.tup xs) ∧ xs ≠ [] ∧ 0 ≤ k ∧ k ≤ 1000 ∧ xs.length ≤ 1000 ∧ ∀ p H', Ex H H' → SqT K H' p (List.replicate k.toNat xs).flatten → Q (.ref p) H'
theorem k_repT {K : PySem.W.Frag} (hK : X.K = K) : OpR X (binaryOp .Mult) (rRepE K) := by
  subst hK
  intro pins s σ H x y v u Q I rx ry h
  obtain ⟨l, k, xs, rfl, rfl, hT, hne, h1, h2, hz, q⟩ := h
  by_cases k2 : 2 ≤ k
  · exact op_repT pins s σ H _ _ v u Q I rx ry ⟨l, k, xs, rfl, rfl, SqT.of hT, hne, k2, h2, hz, fun p np => q p _ (ex_new np) (SqT.of upd_same)⟩
  cases rx
  obtain ⟨t, rfl⟩ := ry
  obtain ⟨its, r, ⟨⟨cls, dd, data, sl⟩, ho, hc, n, hd⟩, hs⟩ := I.tuple (SqT.of (K := X.K) hT)
  simp only at hc hd
  subst hc hd
  have hle : its.length = xs.length := r.length.symm
  have hn : its ≠ [] := fun e => hne (by
    rw [e] at hle
    exact List.eq_nil_of_length_eq_zero hle.symm)
  have hi : its.toArray.isEmpty = false := by
    cases its with
    | nil => exact absurd rfl hn
    | cons a b => rfl
  have c0 : (decide (k < -(2 ^ 63)) || decide (k ≥ 2 ^ 63)) = false := by
    rw [decide_eq_false (by omega), decide_eq_false (by omega)] <;> rfl
  by_cases k1 : k = 1
  · subst k1
    have c1 : (its.toArray.isEmpty || (1 : Int) == 1) = true := by rw [hi]; rfl
    refine wpAny_binaryOp_repeat_ref (T := "tuple") (U := "int") (by decide) ⟨_, ho, rfl⟩ (fun s' => typeIs_int s' 1 t) noFill_tuple_mul F.fills_int_mul F.slot_int_rmul repeat_tuple F.slot_int_index.lookup
      (call_meets F.slot_int_rmul (typeIs_int s 1 t) F.entry_int_rmul (F.args_int_rmul_2 _ _) (int_rmul_tuple 1 t l its.toArray n dd sl)
        ⟨ho, rfl, ⟨_, ho, rfl⟩, call_meets F.slot_tuple_mul ⟨_, ho, rfl⟩ F.entry_tuple_mul (F.args_tuple_mul_2 _ _) (tuple_mul_same l its.toArray n dd sl 1 t c0 c1) ⟨ho, ?_⟩⟩)
    refine ⟨.ref l, H, I, rfl, q l H ExB.refl (SqT.of ?_)⟩
    rw [show (List.replicate (1 : Int).toNat xs).flatten = xs by simp]; exact hT
  · have k0 : k = 0 := by omega
    subst k0
    have c1 : (its.toArray.isEmpty || (0 : Int) == 1) = false := by rw [hi]; rfl
    have c2 : (decide ((0 : Int) ≤ 0) || its.toArray.isEmpty) = true := rfl
    refine wpAny_binaryOp_repeat_ref (T := "tuple") (U := "int") (by decide) ⟨_, ho, rfl⟩ (fun s' => typeIs_int s' 0 t) noFill_tuple_mul F.fills_int_mul F.slot_int_rmul repeat_tuple F.slot_int_index.lookup
      (call_meets F.slot_int_rmul (typeIs_int s 0 t) F.entry_int_rmul (F.args_int_rmul_2 _ _) (int_rmul_tuple 0 t l its.toArray n dd sl)
        ⟨ho, rfl, ⟨_, ho, rfl⟩, call_meets F.slot_tuple_mul ⟨_, ho, rfl⟩ F.entry_tuple_mul (F.args_tuple_mul_2 _ _) (tuple_mul_nil l its.toArray n dd sl 0 t c0 c1 c2) ⟨ho, ?_⟩⟩)
    refine ⟨.ref s.heap.objs.size, _, I.laid (t' := s.toks) (o := .tup []) (fun b ob q => Heap.get?_push_of_some _ q) (Nat.le_refl _) ?_, rfl, q _ _ (ex_new (I.hok.fresh (Nat.le_refl _))) (SqT.of upd_same)⟩
    exact ⟨by simp, [], .nil, IsTup.new _ _⟩
/-- t.index(x), of flat values -/
def rIndexT (K : PySem.W.Frag) : V → List V → Hp → VK → Prop := fun x xs H Q => ∃ (a : Addr) (ys : List V) (y : V) (j : Nat) (z : V), x = V.ref a ∧ xs = [y] ∧ SqT K H a ys ∧ flatV y = true ∧ ys.all flatV = true ∧ ys[j]? = some z ∧ eqV z y = true ∧
  (∀ (m : Nat) (z' : V), m < j → ys[m]? = some z' → eqV z' y = false) ∧ Q (.int (j : Nat)) H
theorem k_indexT {K : PySem.W.Frag} (hK : X.K = K) : MtR X "tuple.index" (rIndexT K) := by
  subst hK
  intro pins s σ H x xs v us Q I rx rxs h
  obtain ⟨a, ys, y, j, z, rfl, rfl, hs, fy, fys, hz, hzj, hno, q⟩ := h
  cases rx
  cases rxs with
  | cons ry rt =>
    rename_i uy ut
    cases rt
    obtain ⟨its, rv, ⟨⟨cls, dd, data, sl⟩, ho, hc, n, hd⟩, hlen⟩ := I.tuple hs
    simp only at hc hd
    subst hc hd
    obtain ⟨u, hu, ru⟩ := rv.get hz
    obtain ⟨hjl, hje⟩ := List.getElem?_eq_some_iff.mp hu
    have hvl := rv.length
    have hj : j < its.toArray.size := by simpa using hjl
    refine call_meets PySem.F.slot_tuple_index ⟨_, ho, rfl⟩ PySem.F.entry_tuple_index (PySem.F.args_tuple_index_2 _ _) (TI.tuple_indexAt a its.toArray n dd sl uy (eqU y) j hj ?_ ?_) ⟨ho, fun u' hu' => mem_eqAt ry fy rv fys u' (by simpa using hu'), ?_⟩
    · have e1 : its.toArray[j] = u := by simpa using hje
      rw [e1, eqU_of ru (flat_at fys hz)]
      exact hzj
    · intro m hm hmj
      have hml : m < its.length := by simpa using hm
      have hmy : m < ys.length := by omega
      have hy' : ys[m]? = some ys[m] := List.getElem?_eq_getElem hmy
      obtain ⟨u2, hu2, ru2⟩ := rv.get hy'
      obtain ⟨_, hme⟩ := List.getElem?_eq_some_iff.mp hu2
      have e1 : its.toArray[m] = u2 := by simpa using hme
      rw [e1, eqU_of ru2 (flat_at fys hy')]
      exact hno m _ hmj hy'
    · exact ⟨.int (j : Nat), H, I.tok _, ⟨_, rfl⟩, q⟩
end
/-- a block within a block -/
theorem blkOk_in {X : Cx} {s : Shared} {H : Hp} {scope inner sc : Scope} {cl : List (Str × Addr)} {C : Addr} {fp : List Addr} {own : List (Str × Nat)} {N : List Str} (hN : X.N = N) (hs : X.env.scope = sc) (h : blkC N (relS scope sc) inner own = true) : BlkOk (X.blk s H scope (compEnvC scope cl C X.env) fp).N (X.blk s H scope (compEnvC scope cl C X.env) fp).env.scope inner own := by
  subst hN
  subst hs
  exact blkOk_by h
end MM
namespace MM
open PySem PySem.Spec PyProof.Rows L2 GxR
/-! ### a new tuple whose object is known; a method of it -/
/-- a tuple of no dict -/
def FTup (H : Hp) (a : Addr) (xs : List V) : Prop := ∃ ob : Obj, ob.cls = .type "tuple" ∧ ob.dict = none ∧ H a = some (.frz ob (.tup xs))
theorem FTup.sqt {K : PySem.W.Frag} {H : Hp} {a : Addr} {xs : List V} (h : FTup H a xs) : SqT K H a xs := let ⟨o, _, _, e⟩ := h; .inl (.inr ⟨o, e⟩)
theorem FTup.ex {B : Addr → Prop} {H H' : Hp} {a : Addr} {xs : List V} (h : FTup H a xs) (e : ExB B H H') : FTup H' a xs := let ⟨o, c, d, q⟩ := h; ⟨o, c, d, e.fix _ _ q trivial⟩
section
variable {X : Cx} {K : PySem.W.Frag} {e o a : Expr} {es : List Expr} {te to ta : TE} {t : TA} {id : String} {name : Str} {r : V → List V → Hp → VK → Prop} {apos cpos pos p p2 : Pos}
def tTupF (K : PySem.W.Frag) (te : TE) : TE := fun σ H Q => te σ H fun x H1 => ∃ p xs, x = .ref p ∧ SqL K H1 p xs ∧ ∀ q H', Ex H1 H' → H1 q = none → FTup H' q xs → Q (.ref q) H'
theorem k_tupOfF {p pos : Pos} (hK : X.K = K) (hg : Gl X "tuple") (hm : X.mg "tuple" = none) (ha : PE X a ta) (na : starEach [a] X.env = (false, eval a X.env) :: starEach [] X.env := by rfl) : PE X (.Call (.Name "tuple" p) [a] [] pos) (tTupF K ta) := by
  subst hK
  refine ⟨fun pins s σ H Q I h => Call_ (ld_blt I hg hm boot_tuple (PyProof.Rows.callWith_type1 (one_arg ha I h (fun v s2 x H2 I2 r q => ?_) na) na))⟩
  obtain ⟨p, xs, ex, hs, q⟩ := q
  subst ex
  obtain rfl : v = .ref p := r
  obtain ⟨its, rv, pl, hz⟩ := I2.list hs
  refine call_tuple_list pl.isList (fun h' hk => ?_) (by rw [List.size_toArray, ← rv.length]; exact hz)
  have I1 : Inv X pins σ H2 { s2 with heap := h' } := I2.kept (t' := s2.toks) hk
  have I3 : Inv X pins σ (upd H2 h'.objs.size (.frz { cls := .type "tuple", data := .seq its.toArray } (.tup xs))) { s2 with heap := h'.push { cls := .type "tuple", data := .seq its.toArray } } :=
    I1.laid (t' := s2.toks) (fun b o e => Heap.get?_push_of_some _ e) (Nat.le_refl _) (show ObjOk X.prog X.w _ _ _ (.frz _ (.tup xs)) from ⟨Heap.get?_push_size _ rfl, hz, its, rv, IsTup.new _ _⟩)
  exact ⟨.ref h'.objs.size, _, I3, rfl, q _ _ (ex_new (I1.hok.fresh (Nat.le_refl _))) (I1.hok.fresh (Nat.le_refl _)) ⟨_, rfl, rfl, upd_same⟩⟩
def tBMF (r : V → List V → Hp → VK → Prop) (to : TE) (t : TA) : TE := fun σ H Q => to σ H fun x H1 => (∃ a xs, x = .ref a ∧ FTup H1 a xs) ∧ t σ H1 fun xs H2 => r x xs H2 Q
theorem k_bmF (pa : PlainAttrs "tuple") (slot : Slot "tuple" name id) (hty : typeOf (.builtin id) = pure (.type "method_descriptor")) (hm : MtR X id r) (ho : PE X o to) (ha : PA X (e :: es) t) (hbase : attributeBase o name X.env (eval o X.env) = eval o X.env := by rfl)
    (hfew : ((backTo cpos (starEach (e :: es) X.env)).all (fun x => !x.1) && (backToKw cpos (keywordEach [] X.env)).all (fun x => x.1.isSome) && decide ((e :: es).length + ([] : List Keyword).length + (if ([] : List Keyword).isEmpty then 0 else 1) < 30)) = true := by rfl)
    (hline : (apos.endLine == cpos.line) = true := by rfl) (hs : starEach (e :: es) X.env = (false, eval e X.env) :: starEach es X.env := by rfl) (hplain : (backTo cpos (starEach es X.env)).any (·.1) = false := by rfl) : PE X (.Call (.Attribute o name apos) (e :: es) [] cpos) (tBMF r to t) := by
  refine ⟨fun pins s σ H Q I h => ?_⟩
  refine wpAny_Call_method_late hbase hfew hline rfl (thn (ho.run pins s σ H _ I h) fun v s1 ⟨x, H1, I1, r1, ⟨a, xs, ex, ob, oc, od, hob⟩, q1⟩ => ?_)
  subst ex
  obtain rfl : v = .ref a := r1
  obtain ⟨e1, _⟩ := I1.hok a _ hob
  refine ⟨"tuple", id, pa, slot, hty, ⟨ob, e1, oc⟩, fun b eb => by cases eb; exact ⟨ob, e1, od⟩, ?_⟩
  have hA := ha.run cpos pins s1 σ H1 _ I1 q1
  rw [hs] at hA ⊢
  refine Calls.callWith_builtin (by show (false || (backTo cpos (starEach es X.env)).any (·.1)) = false; rw [hplain] <;> rfl) (Calls.evalArgs_plain ?_)
  exact thn hA fun us s2 ⟨vs, H2, I2, r2, q2⟩ => hm pins s2 σ H2 (.ref a) vs _ us Q I2 rfl r2 q2
end
end MM
namespace MM
open PySem PySem.Spec PyProof.Rows L2 GxR
/-! ### a call by keywords alone; isinstance of one of two classes; s[i] of either kind; a def that calls itself -/
section
variable {X : Cx} {K : PySem.W.Frag} {a b : Expr} {pos : Pos}
theorem k_isiT (hK : X.K = K) : CallR X (.builtin "isinstance") (rIsiT K) := hK ▸ call_isiT
def rIxE (K : PySem.W.Frag) : R2 := fun x y H Q => rIxL K x y H Q ∨ rIxT K x y H Q
theorem k_ixS (hK : X.K = K) : IxR X (rIxE K) := by
  subst hK
  intro value slice pins s σ H x y v u Q I rx ry h hs
  rcases h with h | h
  · exact ix_list value slice pins s σ H x y v u Q I rx ry h hs
  · exact ix_tup value slice pins s σ H x y v u Q I rx ry h hs
end
section
variable {P : Program} {w : World} {K : PySem.W.Frag} {mg : Str → Option Value} {base : Heap} {f : Addr} {fd : FuncData} {x : Str} {st : Stmt} {ps N ks : List Str} {k : Nat} {sp : Sp} {g : List Value → List Value → List Value} {gV : List V → List V → List V}
/-- a def that is called by keywords -/
def CallK (P : Program) (w : World) (K : PySem.W.Frag) (mg : Str → Option Value) (base : Heap) (k : Nat) (x : Str) (ps ks : List Str) (g : List Value → List Value → List Value) (gV : List V → List V → List V) (sp : Sp) : Prop :=
  ∃ f fd, FnG P w K mg base CX0 k f fd ps sp ∧ mg x = some (.ref f) ∧ PySem.W.keepIn K (.ref f) = true ∧ KBinds K fd ps ks g gV
theorem CallK.le {j : Nat} (C : CallK P w K mg base j x ps ks g gV sp) (h : j ≤ k) : CallK P w K mg base k x ps ks g gV sp := let ⟨f, fd, F, r⟩ := C; ⟨f, fd, F.mono h, r⟩
theorem callK (F : FnP K x st f fd) (hg : mg x = some (.ref f)) (S : FnScope N ps (defScope st))
    (hb : ∀ (kV doc pm : Value) (an : Option Addr) (cdv ct : Value) (us ws : List Value), (g us ws).length = ps.length → bindArgs (PySem.W.fnOf x x (defArgs st) (defBody st) (defScope st) .none kV doc pm an cdv ct) ⟨us, ks.zip ws⟩ = pure (ps.zip (g us ws)))
    (rel : ∀ {vs : List V} {us : List Value} {zs : List V} {ws : List Value}, Vals vs us → Vals zs ws → Vals (gV vs zs) (g us ws))
    (len : ∀ vs H Q E, sp vs H Q E → vs.length = ps.length)
    (body : ∀ (cdv : Value) (A : Around) (outer : List Env) (s : Shared) (H : Hp) (vs : List V) (Q : VK) (E : XK), (∀ oc od fd osl, K.lookup f = some ⟨oc, od, .func fd, osl⟩ → fd.code = cdv) → Room k (A.deeper (envOfC x (defScope st) s.heap.objs.size f cdv)) → (A.deeper (envOfC x (defScope st) s.heap.objs.size f cdv)).guards = some [] → sp vs H Q E →
      ∃ t, PSs (cxOf CX0 P w K mg base N x (defScope st) f cdv A outer s H E).nox (defBody st) t ∧ t { nx := fun _ H' => Q .non H', rt := Q } (start N vs) H) : CallK P w K mg base (k + 1) x ps ks g gV sp := by
  have kp := F.kp
  obtain ⟨oc, od, dV, kV, doc, pm, an, cdv, ct, osl, rfl, lk, hcd, hD, _⟩ := F.ex
  rcases hD with ⟨_, rfl⟩ | ⟨e, _⟩
  · refine ⟨f, _, fn_ofG lk hcd S len fun A outer s H vs Q E hr hG hsp => ?_, hg, kp, ⟨fun s us ws _ hl => .of_eq (hb kV doc pm an cdv ct us ws hl), rel⟩⟩
    obtain ⟨t, h1, h2⟩ := body cdv A outer s H vs Q E (fun _ _ _ _ e => by rw [lk] at e; cases e; rfl) hr hG hsp
    exact ⟨t, h1.nox, h2⟩
  · exact absurd rfl e
end
section
variable {X : Cx} {k : Nat} {x : Str} {ps ks : List Str} {sp : Sp} {g : List Value → List Value → List Value} {gV : List V → List V → List V} {kws : List Keyword} {tk : TA} {p pos : Pos}
/-- f(k = v, ..) -/
theorem pe_ck (C : CallK X.prog X.w X.K X.mg X.base k x ps ks g gV sp) (hr : Room k X.A) (hG : X.A.guards = some []) (hkw : PK X kws tk) (hg : Gl X x := by rfl) (hall : (backToKw pos (keywordEach kws X.env)).all (·.1.isSome) = true := by rfl) (hks : (backToKw pos (keywordEach kws X.env)).filterMap (·.1) = ks := by rfl)
    (hdb : (x == ("__debug__" : Str)) = false := by decide) (hpl : ((backTo pos (starEach [] X.env)).any (·.1) || (backToKw pos (keywordEach kws X.env)).any (·.1.isNone)) = false := by rfl) :
    PE X (.Call (.Name x p) [] kws pos) (tCallK sp gV E0 tNil tk) := by
  obtain ⟨f, fd, F, hm, hk, hb⟩ := C
  refine ⟨fun pins s σ H Q I h => ?_⟩
  refine wpAny_Call_Name_kw (ld_glob I hg hm ?_ hdb)
  refine PySem.W.callWith_KW0 (h₀ := X.base) I.ok.mod.kin hk hall (thn (hkw.run pos pins s σ H _ I h) fun ws s2 ⟨zs, H2, I2, rz, q2⟩ => ⟨I2.kIn, ?_⟩) hpl
  rw [hks]
  have r2 := hb.rel (.nil : Vals [] []) rz
  have hl : (g [] ws).length = ps.length := by rw [← r2.length]; exact F.len _ _ _ _ q2
  refine wpAny_call (codeAny_mono (F.run X.A X.stack s2 H2 ⟨[], ks.zip ws⟩ (g [] ws) (gV [] zs) Q E0 hr hG I2.env0 (hb.to s2 [] ws I2.kIn hl) r2 q2) fun r s' hq => ?_)
  match r, hq with
  | .error e, hq => exact pass0 pins σ H2 s2 e s' I2 hq
  | .ok (.ret u), hq => exact I2.after hq
end
end MM
namespace MM
open PySem PySem.Spec PyProof.Rows L2 GxR
/-! ### sums and slices of tuples that the program made: what comes of them is such a tuple -/
section
variable {X : Cx}
def rCatU : R2 := fun x y H Q => ∃ a b xs ys, x = .ref a ∧ y = .ref b ∧ H a = some (.tup xs) ∧ H b = some (.tup ys) ∧ xs.length + ys.length ≤ sizeLine ∧ ∀ p H', Ex H H' → H' p = some (.tup (xs ++ ys)) → Q (.ref p) H'
theorem k_catU : OpR X (binaryOp .Add) rCatU := by
  intro pins s σ H x y v u Q I rx ry ⟨a, b, xs, ys, ex, ey, hT, hT2, hz, q⟩
  refine op_catA pins s σ H x y v u Q I rx ry ⟨a, b, xs, ys, ex, ey, SqT.of hT, SqT.of hT2, hz, fun e => ?_, fun _ e => ?_, fun _ _ p np => q p _ (ex_new np) upd_same⟩
  · subst e; exact q b H ExB.refl hT2
  · subst e; exact q a H ExB.refl (by rw [List.append_nil]; exact hT)
def rSlU : V → Option Int → Option Int → Hp → VK → Prop := fun x lo hi H Q => ∃ a xs, x = .ref a ∧ H a = some (.tup xs) ∧ ∀ p H', Ex H H' → H' p = some (.tup (cutV xs lo hi)) → Q (.ref p) H'
theorem k_slU : SlR X rSlU := by
  intro pins s σ H x v vl vu lo hi sl Q I rx hs pl pu ⟨a, xs, ex, hT, q⟩
  refine sl_tupA pins s σ H x v vl vu lo hi sl Q I rx hs pl pu ⟨a, xs, ex, SqT.of hT, fun hw => ?_, fun hw p np => q p _ (ex_new np) upd_same⟩
  have e : cutV xs lo hi = xs := by unfold cutV; rw [hw.1, hw.2]; simp
  exact q a H ExB.refl (by rw [e]; exact hT)
end
end MM
namespace MM
open PySem PySem.Spec PyProof.Rows L2 GxR
/-! ### a dict written with one pair, whose key is a tuple that the program made -/
def tDisp1T (tk tv : TE) : TE := fun σ H Q => ∀ p, H p = none → tk σ (upd H p (.dT [])) fun x H1 => tv σ H1 fun y H2 => H2 p = some (.dT []) ∧ ∃ (b : Addr) (k : List Key), x = .ref b ∧ H2 b = some (.tup (k.map kV)) ∧ Q (.ref p) (upd H2 p (.dT (putK [] k y)))
theorem pe_disp1T {X : Cx} {pos : Pos} {k v : Expr} {tk tv : TE} (hu : X.A.units + 1 < cLine) (hk : PE X k tk) (hv : PE X v tv) : PE X (.Dict [some k] [v] pos) (tDisp1T tk tv) := by
  refine ⟨fun pins s σ H Q I q => ?_⟩
  have hn := I.hok.fresh (Nat.le_refl s.heap.objs.size)
  have I1 := I.laid (a := s.heap.objs.size) (o := .dT []) (h' := s.heap.push { cls := .type "dict", data := .dict #[] }) (t' := s.toks) (fun _ _ q => Heap.get?_push_of_some _ q) (Nat.le_refl _) (dt_empty s.heap I.big)
  refine wpAny_Dict_any (by rfl) (by rfl) (by simp) (by show 1 ≤ 15; omega) (pairTrees_cons_walk (thn (hk.run pins _ σ _ _ I1 (q _ hn)) fun u s1 ⟨x, H1, I1', rx, q1⟩ => thn (hv.run pins s1 σ H1 _ I1' q1) fun w2 s2 ⟨y, H2, I2, ry, e, b, kk, ex, eb, q2⟩ => pairTrees_nil_walk ?_))
  subst ex
  cases (show u = Value.ref b from rx)
  obtain ⟨z, hd, xs, rel, dd⟩ := dt_of I2.hok e
  cases rel
  show wpAny _ _ (storeAll _ [(Value.ref b, w2)]) _ _ _
  unfold storeAll
  rw [List.forIn_cons]
  refine wpAny_bind (wpAny_bind (wpAny_dictSet_heap (hsz := Nat.zero_le _) (show (tupleKind (mixKind X.prog X.w)).room X.A from (show X.A.units < cLine by omega)) (key_of I2.hok eb) dd fun h' dd' hs => wpAny_pure ?_))
  show wpAny _ _ (forIn [] PUnit.unit _) _ _ _
  rw [List.forIn_nil]
  refine wpAny_pure ⟨.ref s.heap.objs.size, _, ?_, rfl, q2⟩
  obtain ⟨o, es, ep, hq, h2, h3, h4, _, h5⟩ := dd'
  refine d_write I2 (by rw [e]; exact True.intro) hs ⟨o, hq⟩ ⟨?_, hd, _, ((show KT H2 [] [] from .nil).put kk eb ry).keeps fun c ys ec => ?_, o, es, ep, hq, h2, h3, h4, h5⟩
  · have := length_putK ([] : List (List Key × V)) kk y
    rw [List.length_nil] at this
    rw [sizeLine_eq]; omega
  · rw [upd_ne (ne_of ec e (fun z => nomatch z))]
    exact ec
end MM
namespace MM
open PySem PySem.Spec PyProof.Rows L2 GxR
/-! ### a generator over a tuple or a range, with tests and values, handed to tuple or sum -/
/-- what the generator goes through: xs -/
def SrcG (X : Cx) (P : Addr) (s1 : Shared) (u : Value) (xs : List V) : Prop := ∃ (o : Obj) (fpx : List Addr) (Pf : Nat → Value → Prop) (St0 : Nat → Heap → Prop), o.isFreed = false ∧
  (∀ Q : Value → Shared → Prop, Q (.ref s1.heap.objs.size) { s1 with heap := s1.heap.push o } → wpAny (model X.prog X.w) X.A (pyIter u) Q X.xe s1) ∧
  (∀ b ∈ fpx, b < s1.heap.objs.size ∧ b ≠ P) ∧
  (∀ A' : Around, A'.handled = none → Walks X.prog X.w A' s1.heap.objs.size (s1.heap.objs.size :: fpx) [s1.heap.objs.size] xs.length Pf St0) ∧
  (∀ h : Heap, h.get? s1.heap.objs.size = some o → (∀ b ∈ fpx, ∀ ob, s1.heap.get? b = some ob → h.get? b = some ob) → St0 0 h) ∧
  (∀ i u, Pf i u → ∃ x, xs[i]? = some x ∧ RelV x u)
theorem src_tup {X : Cx} {pins : List (Addr × Obj)} {σ : L2.St} {H1 : Hp} {s1 : Shared} {P a : Addr} {xs : List V} (I1 : Inv X pins σ H1 s1) (hP : ∃ ps, H1 P = some (.tbl ps)) (hT : SqT X.K H1 a xs) : SrcG X P s1 (.ref a) xs := by
  obtain ⟨ps, hP⟩ := hP
  obtain ⟨its, rv, htup, hsz⟩ := I1.tuple hT
  have htl : s1.heap.IsTuple a its.toArray := by first | exact htup | (obtain ⟨o, e1, e2, e3⟩ := htup; exact ⟨o, e1, e2, e3⟩)
  have hPs : s1.heap.get? P = some { cls := .none, data := .fields ps } := I1.hok P _ hP
  have alt : a < s1.heap.objs.size := by obtain ⟨_, e1, _⟩ := htl; exact Heap.lt_size e1
  have aneP : a ≠ P := by
    intro z; obtain ⟨oo, e1, e2, _⟩ := htl; rw [z, hPs] at e1; cases e1; cases e2
  refine ⟨{ cls := .type "tuple_iterator", data := .fields #[.ref a, .int 0 0] }, [a], (fun i u => its.toArray[i]? = some u), (fun i h => h.IsTupleIter s1.heap.objs.size a i ∧ h.IsTuple a its.toArray), rfl, fun Q q => wpAny_pyIter_tuple htl q, fun b hb => ?_, fun A' hA => ?_, fun h e1 e2 => ?_, fun i u e => ?_⟩
  · rw [List.mem_singleton.mp hb]; exact ⟨alt, aneP⟩
  · have W := Walks.tuple (prog := X.prog) (w := X.w) (A := A') hA s1.heap.objs.size a (Nat.ne_of_lt alt) its.toArray
    have : its.toArray.size = xs.length := by rw [List.size_toArray]; exact rv.length.symm
    rw [this] at W; exact W
  · refine ⟨⟨_, e1, rfl, rfl⟩, htl.at fun u e => e2 a List.mem_cons_self u e⟩
  · have hi2 : i < its.length := by have := (Array.getElem?_eq_some_iff.mp e).1; simpa using this
    have hix : i < xs.length := by rw [rv.length]; exact hi2
    obtain ⟨u', hu', ru⟩ := rv.get (List.getElem?_eq_getElem hix)
    have eu : u' = u := by
      have q : its.toArray[i]? = some u := e
      rw [List.getElem?_toArray, hu'] at q; exact Option.some.inj q
    subst eu
    exact ⟨_, List.getElem?_eq_getElem hix, ru⟩
theorem src_rng {X : Cx} {pins : List (Addr × Obj)} {σ : L2.St} {H1 : Hp} {s1 : Shared} {P a : Addr} {n : Nat} (I1 : Inv X pins σ H1 s1) (hn : n ≤ 1000000) (hT : H1 a = some (.rng 0 n)) : SrcG X P s1 (.ref a) ((List.range n).map fun (k : Nat) => V.int (k : Int)) := by
  obtain ⟨t, u, v, hr⟩ := (show ObjOk X.prog X.w H1 s1.heap a (.rng 0 n) from I1.hok a _ hT)
  have hsz : Builtin.Range.rangeSize 0 (n : Int) 1 = (n : Int) := by
    unfold Builtin.Range.rangeSize
    simp
    try omega
  have hsm : Builtin.Range.small 0 (n : Int) 1 = true := by
    unfold Builtin.Range.small
    rw [hsz]
    unfold Builtin.Range.rangeFitsLong
    simp
    try omega
  refine ⟨_, [], (fun i v => i < n ∧ ∃ t, v = .int (0 + i * 1) t), (fun i h => IsRangeIter h s1.heap.objs.size (0 + (i : Nat) * 1) ((n : Int) - (i : Nat)) 1), rfl, fun Q q => wpAny_pyIter_range hr hsm q, (fun _ h => nomatch h), fun A' hA => ?_, fun h e1 _ => ?_, fun i u ⟨hi, t, e⟩ => ?_⟩
  · have W := (Walks.range (prog := X.prog) (w := X.w) (A := A') hA s1.heap.objs.size 0 1 n).bound
    rw [List.length_map, List.length_range]; exact W
  · show IsRangeIter _ _ _ _ _
    rw [hsz] at e1; simpa using e1
  · subst e
    refine ⟨.int (i : Int), by rw [List.getElem?_map, List.getElem?_range hi]; rfl, t, ?_⟩
    rw [Int.zero_add, Int.mul_one]

def SrcV (K : PySem.W.Frag) (H1 : Hp) (v : V) (xs : List V) : Prop := (∃ a, v = .ref a ∧ SqT K H1 a xs) ∨ ∃ (a : Addr) (n : Nat), v = .ref a ∧ n ≤ 1000000 ∧ H1 a = some (.rng 0 n) ∧ xs = (List.range n).map fun (k : Nat) => V.int (k : Int)
theorem SrcV.g {X : Cx} {σ : L2.St} {P : Addr} {H1 : Hp} {v : V} {xs : List V} (h : SrcV X.K H1 v xs) (hP : TabG H1 P) (pins' : List (Addr × Obj)) (s1 : Shared) (u : Value) (I : Inv X pins' σ H1 s1) (r : RelV v u) : SrcG X P s1 u xs := by
  rcases h with ⟨a, rfl, hT⟩ | ⟨a, n, rfl, hn, ha, rfl⟩
  · obtain rfl : u = .ref a := r
    exact src_tup I ⟨_, hP.choose_spec.1⟩ hT
  · obtain rfl : u = .ref a := r
    exact src_rng I hn ha
/-- the element at an item v: nothing where a test fails, else the value y -/
def EltG (X : Cx) (P : Addr) (scope : Scope) (x : Str) (ifs : List Expr) (elt : Expr) (ok : L2.St → Hp → V → Option V → Prop) : Prop :=
  ∀ (pins : List (Addr × Obj)) (σ : L2.St) (H1 : Hp) (s1 : Shared), Inv X pins σ H1 s1 → ∀ (cenv : Env) (A' : Around) (E' : Value → Shared → Prop) (v : V) (u : Value) (s2 : Shared) (m2 : Str → Option Value) (r : Option V), GenIn X P scope s1 cenv s2 → TabG H1 P → A'.handled = none → A'.depth ≤ X.A.depth + 1 → A'.units ≤ X.A.units + 8 →
    RelV v u → ok σ H1 v r → s2.heap.Ns cenv.locals m2 → m2 x = some u →
    wpAny (model X.prog X.w) A' (forIn ifs true fun c r => if r = true then do let ok ← isTrue c cenv (eval c cenv); pure (ForInStep.yield ok) else pure (ForInStep.yield r)) (fun b s3 => b = r.isSome ∧ Keeps s2 s3) E' s2 ∧
    ∀ y, r = some y → wpAny (model X.prog X.w) A' (eval elt cenv) (fun w s3 => RelV y w ∧ Keeps s2 s3) E' s2
/-- the generator g, ready to tell ys -/
def ReadyG (X : Cx) (pins : List (Addr × Obj)) (σ : L2.St) (H1 : Hp) (P : Addr) (ys : List V) (g : Addr) (s5 : Shared) : Prop :=
  ∃ (fp wr : List Addr) (G : Array GenState → Array GenState → Prop) (F : Nat → Value → Prop) (St : Nat → Shared → Prop),
    WalksS X.prog X.w X.A.in4 g fp wr G ys.length F St ∧ St 0 s5 ∧ g ∈ fp ∧ (∀ b ∈ fp, b < s5.heap.objs.size) ∧ (∀ i s, St i s → s.TypeIs (.ref g) "generator") ∧ (∀ j y, F j y → ∃ v, ys[j]? = some v ∧ RelV v y) ∧ ∀ s', Moved wr G s5 s' → ∃ H2, Tabbed P H1 H2 ∧ Inv X pins σ H2 s'
theorem pass_all (f : Nat → Option V) : ∀ l : List Nat, (l.filter fun i => (f i).isSome).map f = (l.filterMap f).map some
  | [] => rfl
  | i :: l => by
    have h := pass_all f l
    cases e : f i with
    | none => rw [List.filter_cons_of_neg (by rw [e]; decide), List.filterMap_cons_none e]; exact h
    | some y => rw [List.filter_cons_of_pos (by rw [e]; rfl), List.filterMap_cons_some e, List.map_cons, List.map_cons, h, e]
theorem pass_at {rs : List (Option V)} : (passing (fun i => ((rs[i]?).getD none).isSome) rs.length 0).map (fun i => (rs[i]?).getD none) = (rs.filterMap id).map some := by
  have e : rs = (List.range rs.length).map fun i => (rs[i]?).getD none := by
    refine List.ext_getElem (by simp) fun i h1 h2 => ?_
    rw [List.getElem_map, List.getElem_range, List.getElem?_eq_getElem h1]; rfl
  unfold passing
  rw [List.drop_zero, pass_all]
  have e2 : rs.filterMap id = (List.range rs.length).filterMap fun i => (rs[i]?).getD none := by
    conv => lhs; rw [e]
    rw [List.filterMap_map]; rfl
  rw [e2]
section
variable {X : Cx} {pins : List (Addr × Obj)} {σ : L2.St} {H : Hp} {s : Shared}
theorem gen_any {c P : Addr} {elt iter : Expr} {ifs : List Expr} {x : Str} {px gpos : Pos} {scope : Scope} {ok : L2.St → Hp → V → Option V → Prop} {te : TE} {k : Nat} {Q' : Value → Shared → Prop} {R : List (Option V) → Hp → Prop}
    (hr : Room k X.A) (TB : TabB X.base X.mg c P) (hcode : X.env.code = .ref c) (S : GenS X.env scope x) (hi : PE X iter te) (hel : EltG X P scope x ifs elt ok)
    (hs : ∀ v, genFold iter X.env v = pure v) (I : Inv X pins σ H s) (h : te σ H fun v H1 => TabG H1 P ∧ ∃ (xs : List V) (rs : List (Option V)), SrcV X.K H1 v xs ∧ rs.length = xs.length ∧ (∀ (j : Nat) (x : V) (r : Option V), xs[j]? = some x → rs[j]? = some r → ok σ H1 x r) ∧ R rs H1)
    (hQ : ∀ rs H1 g s5, R rs H1 → ReadyG X pins σ H1 P (rs.filterMap id) g s5 → Q' (.ref g) s5) :
    wpAny (model X.prog X.w) X.A (eval (.GeneratorExp elt [⟨.Name x px, iter, ifs, 0⟩] scope gpos) X.env) Q' X.xe s := by
  refine wpAny_GeneratorExp_walksQD hr.hd S.co (closure_ok S.free) S.cell S.dot S.loc S.kind (by have := hr.dp; omega) ?_ hs
  refine thn (hi.run pins s σ H _ I h) fun xv s1 ⟨v, H1, I1, r1, ⟨ps, hP, ht⟩, xs, rs, hsrc, hlen, hok, q1⟩ => ?_
  obtain ⟨o, fpx, Pf, St0, hfr, hit, hlow, hW, hst0, hitem⟩ := hsrc.g ⟨ps, hP, ht⟩ pins s1 xv I1 r1
  refine hit _ ?_
  have hPs : s1.heap.get? P = some { cls := .none, data := .fields ps } := I1.hok P _ hP
  have sz2 : (s1.heap.push o).objs.size = s1.heap.objs.size + 1 := Heap.size_push ..
  have hPlt := Heap.lt_size hPs
  have old : ∀ b u, s1.heap.get? b = some u → (s1.heap.push o).get? b = some u := fun b u e => Heap.get?_push_of_some _ e
  have cd : PySem.W.CodeHd (s1.heap.push o) c P := TB.code.keeps fun b u e => old b u (I1.bk b u e)
  have lim2 : (s1.heap.push o).NoLimit := I1.nolimit.push o
  have cont : ∀ (code : Value) (h3 : Heap) (tk : Nat) (ps' : Array Value), Heap.ExtBut P (s1.heap.push o) h3 → (s1.heap.push o).objs.size ≤ h3.objs.size → h3.get? P = some { cls := .none, data := .fields ps' } → (∃ more, ps' = ps ++ more) → TriplesOk ps'.toList → wpAny (model X.prog X.w) X.A (builtinsFor X.env.globals X.env.builtins) (fun bi s₄ =>
        ∃ Ia fp wr n₀ Pf St₀ pz F, Value.ref s1.heap.objs.size = .ref Ia ∧ (∀ A' : Around, A'.handled = none → Walks X.prog X.w A' Ia fp wr n₀ Pf St₀) ∧ St₀ 0 s₄.heap ∧ (∀ b ∈ fp, b < s₄.heap.objs.size) ∧ s₄.heap.NoLimit ∧ cStatics ∉ wr ∧
          (∀ href : Heap, (∀ b o, s₄.heap.get? b = some o → href.get? b = some o) → QuietGenD X.prog X.w (genEnv scope (cloFrom X.env.cells scope.names []) s₄.heap.objs.size code bi X.env) x ifs elt (List.range s₄.heap.objs.size) wr Pf pz F href (X.A.depth + 1) (X.A.units + 8)) ∧
          (∀ a h₅ tk gs, gs.bare = true → s₄.heap.objs.size < a → h₅.objs.size = a + 1 → (∀ b o, s₄.heap.get? b = some o → h₅.get? b = some o) →
            WalksS X.prog X.w X.A.in4 a (a :: s₄.heap.objs.size :: List.range s₄.heap.objs.size) (s₄.heap.objs.size :: wr) (GenOnlyQ s₄.gens.size) (passing pz n₀ 0).length (fun j y => ∃ i, (passing pz n₀ 0)[j]? = some i ∧ F i y) (GenAt X.prog X.w X.A.in4 a s₄.gens.size s₄.heap.objs.size (List.range s₄.heap.objs.size) wr pz n₀ F) →
            GenAt X.prog X.w X.A.in4 a s₄.gens.size s₄.heap.objs.size (List.range s₄.heap.objs.size) wr pz n₀ F 0 { s₄ with gens := s₄.gens.push gs, toks := tk, heap := h₅ } → Q' (.ref a) { s₄ with gens := s₄.gens.push gs, toks := tk, heap := h₅ })) X.xe { s1 with heap := h3, toks := tk } := by
    intro code h3 tk ps' hx hsz3 hP3 hmore ht3
    obtain ⟨bm, ob, e1, e2, e3, e4, e5, e6, e7, e8⟩ := TB.bm
    have hcP : cStatics ≠ P := by
      intro e; obtain ⟨_, ⟨o', es, ep, ho', hd', _⟩, _⟩ := I1.nolimit; rw [e, hPs] at ho'; cases ho'; cases hd'
    have hsz4 : s1.heap.objs.size + 1 ≤ h3.objs.size := by rw [← sz2]; exact hsz3
    have hcl : cStatics < s1.heap.objs.size := let ⟨_, hns, _⟩ := I1.nolimit; hns.lt
    have keep3 : ∀ b u, b ≠ P → s1.heap.get? b = some u → h3.get? b = some u := fun b u hb e => hx b u hb (old b u e)
    have lim3 : h3.NoLimit := lim2.extBut hx hcP
    refine wpAny_builtinsFor (m := X.mg) (by rw [I1.ok.glob]; exact ((I1.mod.glob.keeps I1.bk).push o).extBut hx TB.gP) e1 e2 (keep3 _ _ e4 (I1.bk _ _ e5)) e6 e7 e8 ?_
    refine ⟨s1.heap.objs.size, s1.heap.objs.size :: fpx, [s1.heap.objs.size], xs.length, Pf, St0, (fun i => ((rs[i]?).getD none).isSome), (fun i y => ∃ v, rs[i]? = some (some v) ∧ RelV v y), rfl, hW, ?_, ?_, lim3, ?_, ?_, ?_⟩
    · exact hst0 _ (hx _ _ (Nat.ne_of_gt hPlt) (Heap.get?_push_size _ hfr)) fun b hb ob e => keep3 b ob (hlow b hb).2 e
    · intro b hb
      show b < h3.objs.size
      rcases List.mem_cons.mp hb with z | z
      · rw [z]; exact hsz4
      · exact Nat.lt_of_lt_of_le (hlow b z).1 (Nat.le_trans (Nat.le_succ _) hsz4)
    · intro z; exact Nat.ne_of_lt hcl (List.mem_singleton.mp z)
    · intro href hhref
      have item : ∀ i u, Pf i u → ∃ y r, RelV y u ∧ rs[i]? = some r ∧ ok σ H1 y r := fun i u e => by
        obtain ⟨y, hy, ry⟩ := hitem i u e
        have hil : i < rs.length := by rw [hlen]; exact (List.getElem?_eq_some_iff.mp hy).1
        exact ⟨y, rs[i], ry, List.getElem?_eq_getElem hil, hok i y _ hy (List.getElem?_eq_getElem hil)⟩
      refine ⟨fun A' E' i u s₂ m₂ hA hD hU hPv hn hm hk => ?_, fun A' E' i u s₂ m₂ hA hD hU hPv hpz hn hm hk => ?_⟩
      all_goals
        obtain ⟨y, r, ry, hri, hyr⟩ := item i u hPv
        have kp : ∀ b ob, b ≠ P → s1.heap.get? b = some ob → s₂.heap.get? b = some ob := fun b ob hb e => by
          have hlt := Heap.lt_size e
          exact hk b (List.mem_range.mpr (Nat.lt_of_lt_of_le hlt (Nat.le_trans (Nat.le_succ _) hsz4))) (fun z => Nat.ne_of_lt hlt (List.mem_singleton.mp z)) ob (hhref b ob (keep3 b ob hb e))
        have hlimS : s₂.heap.NoLimit := I1.nolimit.at fun ob e => kp _ ob hcP e
        obtain ⟨t1, t2⟩ := hel pins σ H1 s1 I1 (genEnv scope (cloFrom X.env.cells scope.names []) h3.objs.size code builtinsNs X.env) A' E' y u s₂ m₂ r ⟨rfl, rfl, rfl, rfl, kp, hlimS⟩ ⟨ps, hP, ht⟩ hA hD hU ry hyr hn hm
      · refine wpAny_mono t1 (fun b s3 q => ⟨?_, q.2⟩) fun _ _ e => e
        rw [q.1]
        show r.isSome = ((rs[i]?).getD none).isSome
        rw [hri]; rfl
      · have hpz' : ((rs[i]?).getD none).isSome = true := hpz
        rw [hri] at hpz'
        cases r with
        | none => cases hpz'
        | some z => exact wpAny_mono (t2 z rfl) (fun w s3 q => ⟨⟨z, hri, q.1⟩, q.2⟩) fun _ _ e => e
    · intro g h5 tk5 gs hgb hag hsz5 hk5 W5 hat
      have pl : (passing (fun i => ((rs[i]?).getD none).isSome) xs.length 0).length = (rs.filterMap id).length := by
        have := congrArg List.length (pass_at (rs := rs))
        rw [List.length_map, List.length_map, hlen] at this; exact this
      rw [pl] at W5
      refine hQ rs H1 g _ q1 ⟨_, _, _, _, _, W5, hat, List.mem_cons_self, fun b hb => ?_, fun i s' hst => ?_, fun j y hy => ?_, fun s' hm => ?_⟩
      · show b < h5.objs.size
        rcases List.mem_cons.mp hb with z | z
        · rw [z, hsz5]; exact Nat.lt_succ_self _
        · have h2 : h3.objs.size < g := hag
          rw [hsz5]
          rcases List.mem_cons.mp z with z | z
          · rw [z]; exact Nat.lt_succ_of_lt h2
          · exact Nat.lt_succ_of_lt (Nat.lt_trans (show b < h3.objs.size from List.mem_range.mp z) h2)
      · obtain ⟨⟨o, _, _, e1, e2, _⟩, _⟩ := hst
        exact ⟨o, e1, e2⟩
      · obtain ⟨i, hij, v, hv, rv⟩ := hy
        refine ⟨v, ?_, rv⟩
        have h1 := congrArg (fun l => l[j]?) (pass_at (rs := rs))
        simp only [List.getElem?_map] at h1
        rw [hlen, hij] at h1
        simp only [Option.map_some, hv, Option.getD_some] at h1
        cases e : (rs.filterMap id)[j]? with
        | none => rw [e] at h1; cases h1
        | some y' => rw [e] at h1; simp at h1; rw [h1]
      · obtain ⟨more, em⟩ := hmore
        have nwr : ∀ b u, s1.heap.get? b = some u → b ∉ h3.objs.size :: [s1.heap.objs.size] := fun b u e hb => by
          have hl := Heap.lt_size e
          rcases List.mem_cons.mp hb with z | z
          · exact absurd (Nat.lt_of_lt_of_le hl (Nat.le_trans (Nat.le_succ _) hsz4)) (by rw [z]; exact Nat.lt_irrefl _)
          · exact Nat.ne_of_lt hl (List.mem_singleton.mp z)
        have J := inv_tab (more := more) (h' := s'.heap) (g' := s'.gens) (d' := s'.drawn) (t' := s'.toks) I1 hP (fun b u hb e => hm.heap b u (nwr b u e) (hk5 b u (keep3 b u hb e))) (by rw [← em]; exact hm.heap P _ (nwr P _ hPs) (hk5 P _ hP3)) (AllBare.movedS (I1.bare.push hgb) hm)
        rw [sh_eta s1 s' hm.os] at J
        exact ⟨upd H1 P (.tbl (ps ++ more)), ⟨⟨ps ++ more, upd_same, by rw [← em]; exact ht3⟩, fun b hb => upd_ne hb⟩, J⟩
  refine ⟨lim2, ?_⟩
  have hP2 := old P _ hPs
  cases hf : codeAmong gpos ps.toList with
  | none =>
    refine wpAny_genexprCodeX hcode (cd.code hP2 ht) (cd.tab hP2) hf fun c' h' tk hx hge hlt hco' _ htab' _ => ?_
    obtain ⟨_, _, _, _, _, _, _, _, _, _, _, _, _, _, _, _, _, _, _, htr, _⟩ := hco'
    exact cont _ h' tk _ hx (Nat.le_trans hge (Nat.le_of_lt hlt)) htab'.2 ⟨_, rfl⟩ htr
  | some cv => exact wpAny_genexprCode_hit hcode (cd.code hP2 ht) hf (cont cv (s1.heap.push o) s1.toks ps (Heap.ExtBut.refl _ _) (Nat.le_refl _) hP2 ⟨#[], by simp⟩ ht)
/-- tuple(elt for x in e if ..) -/
def tGen (K : PySem.W.Frag) (P : Addr) (ok : L2.St → Hp → V → Option V → Prop) (te : TE) (R : List (Option V) → Hp → VK → Prop) : TE := fun σ H Q => te σ H fun v H1 => TabG H1 P ∧ ∃ (xs : List V) (rs : List (Option V)), SrcV K H1 v xs ∧ rs.length = xs.length ∧ (∀ (j : Nat) (x : V) (r : Option V), xs[j]? = some x → rs[j]? = some r → ok σ H1 x r) ∧ R rs H1 Q
def rTupG (P : Addr) : List (Option V) → Hp → VK → Prop := fun rs H1 Q => rs.length ≤ 1000000 ∧ ∀ H2, Tabbed P H1 H2 → ∀ q H3, Ex H2 H3 → H2 q = none → FTup H3 q (rs.filterMap id) → Q (.ref q) H3
def rSumG (P : Addr) : List (Option V) → Hp → VK → Prop := fun rs H1 Q => ∃ is : List Int, rs.filterMap id = is.map V.int ∧ ∀ H2, Tabbed P H1 H2 → Q (.int is.sum) H2
theorem vals_acc {ys : List V} {acc : Array Value} {F : Nat → Value → Prop} (h : ItemsOf F acc ys.length) (hF : ∀ j y, F j y → ∃ v, ys[j]? = some v ∧ RelV v y) : Vals ys acc.toList := by
  have go : ∀ (ys : List V) (us : List Value), ys.length = us.length → (∀ (j : Nat) (u : Value), us[j]? = some u → ∃ v, ys[j]? = some v ∧ RelV v u) → Vals ys us := by
    intro ys
    induction ys with
    | nil => intro us hl _; rw [List.length_eq_zero_iff.mp hl.symm]; exact .nil
    | cons y ys ih =>
      intro us hl h
      cases us with
      | nil => cases hl
      | cons u us =>
        obtain ⟨v, hv, rv⟩ := h 0 u rfl
        cases hv
        exact .cons rv (ih us (by simpa using hl) fun j u' hu' => h (j + 1) u' hu')
  refine go ys acc.toList (by rw [Array.length_toList]; exact h.1.symm) fun j u hu => hF j u (h.2 j u (by rw [← Array.getElem?_toList]; exact hu))
theorem pe_tupG {K : PySem.W.Frag} {c P : Addr} {elt iter : Expr} {ifs : List Expr} {x : Str} {px p pos gpos : Pos} {scope : Scope} {ok : L2.St → Hp → V → Option V → Prop} {te : TE} {k : Nat} (hK : X.K = K)
    (hr : Room k X.A) (hg : Gl X "tuple") (hm : X.mg "tuple" = none) (TB : TabB X.base X.mg c P) (hcode : X.env.code = .ref c) (S : GenS X.env scope x) (hi : PE X iter te) (hel : EltG X P scope x ifs elt ok)
    (hs : ∀ v, genFold iter X.env v = pure v) (he : starEach [.GeneratorExp elt [⟨.Name x px, iter, ifs, 0⟩] scope gpos] X.env = (false, eval (.GeneratorExp elt [⟨.Name x px, iter, ifs, 0⟩] scope gpos) X.env) :: starEach [] X.env := by rfl) :
    PE X (.Call (.Name "tuple" p) [.GeneratorExp elt [⟨.Name x px, iter, ifs, 0⟩] scope gpos] [] pos) (tGen K P ok te (rTupG P)) := by
  subst hK
  refine ⟨fun pins s σ H Q I h => wpAny_Call_Name_kw (ld_blt I hg hm boot_tuple (PyProof.Rows.callWith_type1 ?_ he))⟩
  rw [he]
  show wpAny _ _ (spliced ((false, eval (.GeneratorExp elt [⟨.Name x px, iter, ifs, 0⟩] scope gpos) X.env) :: backTo pos (starEach [] X.env))) _ _ s
  refine Calls.spliced_cons (gen_any (R := fun rs H1 => rTupG P rs H1 Q) hr TB hcode S hi hel hs I h fun rs H1 g s5 hR hG => Calls.spliced_nil ?_)
  obtain ⟨fp, wr, G, F, St, W, hst, hgm, hb, hT, hF, hI⟩ := hG
  obtain ⟨hl, hR⟩ := hR
  have hle : (rs.filterMap id).length ≤ 1000000 := Nat.le_trans (List.length_filterMap_le _ _) hl
  have hsz : (rs.filterMap id).length ≤ sizeLine := by rw [sizeLine_eq]; omega
  refine call_tuple_gen W.in4_3 hT hst hb hgm (fun s' acc hmv hacc => ?_) hsz
  obtain ⟨H2, tb, J⟩ := hI s' hmv
  have rv := vals_acc hacc hF
  have J2 : Inv X pins σ (upd H2 s'.heap.objs.size (.frz { cls := .type "tuple", data := .seq acc } (.tup (rs.filterMap id)))) { s' with heap := s'.heap.push { cls := .type "tuple", data := .seq acc } } :=
    J.laid (t' := s'.toks) (fun b o e => Heap.get?_push_of_some _ e) (Nat.le_refl _) (show ObjOk X.prog X.w _ _ _ (.frz _ (.tup (rs.filterMap id))) from ⟨Heap.get?_push_size _ rfl, hsz, acc.toList, rv, IsTup.new _ _⟩)
  exact ⟨.ref s'.heap.objs.size, _, J2, rfl, hR H2 tb _ _ (ex_new (J.hok.fresh (Nat.le_refl _))) (J.hok.fresh (Nat.le_refl _)) ⟨_, rfl, rfl, upd_same⟩⟩
theorem pre_sum (is : List Int) : preSum (fun j => (is[j]?).getD 0) is.length = is.sum := by
  have go : ∀ k, k ≤ is.length → preSum (fun j => (is[j]?).getD 0) k = (is.take k).sum := by
    intro k
    induction k with
    | zero => intro _; rfl
    | succ k ih =>
      intro hk
      have hk' : k < is.length := hk
      rw [List.take_add_one, List.sum_append, ← ih (by omega), List.getElem?_eq_getElem hk']
      show preSum _ k + ((is[k]?).getD 0) = _
      rw [List.getElem?_eq_getElem hk']; simp
  rw [go _ (Nat.le_refl _), List.take_length]
theorem pe_sumG {K : PySem.W.Frag} {c P : Addr} {elt iter : Expr} {ifs : List Expr} {x : Str} {px p pos gpos : Pos} {scope : Scope} {ok : L2.St → Hp → V → Option V → Prop} {te : TE} {k : Nat} (hK : X.K = K)
    (hr : Room k X.A) (hg : Gl X "sum") (hm : X.mg "sum" = none) (hb : bootBuiltins "sum" = some (.builtin "sum")) (TB : TabB X.base X.mg c P) (hcode : X.env.code = .ref c) (S : GenS X.env scope x) (hi : PE X iter te) (hel : EltG X P scope x ifs elt ok)
    (hs : ∀ v, genFold iter X.env v = pure v) (he : starEach [.GeneratorExp elt [⟨.Name x px, iter, ifs, 0⟩] scope gpos] X.env = (false, eval (.GeneratorExp elt [⟨.Name x px, iter, ifs, 0⟩] scope gpos) X.env) :: starEach [] X.env := by rfl) :
    PE X (.Call (.Name "sum" p) [.GeneratorExp elt [⟨.Name x px, iter, ifs, 0⟩] scope gpos] [] pos) (tGen K P ok te (rSumG P)) := by
  subst hK
  refine ⟨fun pins s σ H Q I h => wpAny_Call_Name_kw (ld_blt I hg hm hb (PyProof.Rows.callWith_builtin1 ?_ he (by rfl)))⟩
  rw [he]
  show wpAny _ _ (spliced ((false, eval (.GeneratorExp elt [⟨.Name x px, iter, ifs, 0⟩] scope gpos) X.env) :: backTo pos (starEach [] X.env))) _ _ s
  refine Calls.spliced_cons (gen_any (R := fun rs H1 => rSumG P rs H1 Q) hr TB hcode S hi hel hs I h fun rs H1 g s5 hR hG => Calls.spliced_nil ?_)
  obtain ⟨fp, wr, G, F, St, W, hst, hgm, hbd, hT, hF, hI⟩ := hG
  obtain ⟨is, eis, hR⟩ := hR
  rw [eis] at W hF
  rw [List.length_map] at W
  refine call_sum_walkAnyS ((W.in4_1).self 0 _ _ _ hst ⟨g, fp, wr, G, is.length, F, St, (fun j => (is[j]?).getD 0), rfl, W.in4_1, hst, hbd, fun j y hy => ?_, fun s' t' hmv => ?_⟩)
  · obtain ⟨v, hv, rv⟩ := hF j y hy
    rw [List.getElem?_map] at hv
    cases e : is[j]? with
    | none => rw [e] at hv; cases hv
    | some i =>
      rw [e] at hv
      cases hv
      obtain ⟨t, e2⟩ := (show ∃ t, y = .int i t from rv)
      exact ⟨t, by rw [e2]; show _ = Value.int ((is[j]?).getD 0) t; rw [e]; rfl⟩
  · obtain ⟨H2, tb, J⟩ := hI s' hmv
    rw [pre_sum]
    exact ⟨.int is.sum, H2, J, ⟨t', rfl⟩, hR H2 tb⟩
end
end MM
namespace MM
open PySem PySem.Spec PyProof.Rows L2 GxR
/-! ### what a generator of the program tells of its item -/
section
variable {X : Cx}
/-- t.index(x), by the machine's own rules -/
theorem index_raw {prog : Program} {w : World} {A : Around} {E : Value → Shared → Prop} {Q : Value → Shared → Prop} {s : Shared} {a : Addr} {ys : List V} {its : List Value} {y : V} {uy : Value} {j : Nat} {z : V} (ht : IsTup s.heap a its.toArray) (rv : Vals ys its) (ry : RelV y uy) (fy : flatV y = true) (fys : ys.all flatV = true) (hz : ys[j]? = some z) (hzj : eqV z y = true)
    (hno : ∀ (m : Nat) (z' : V), m < j → ys[m]? = some z' → eqV z' y = false) (q : ∀ t k, Q (.int (j : Nat) t) { s with toks := k }) : wpAny (model prog w) A (call (.builtin "tuple.index") [.ref a, uy]) Q E s := by
  obtain ⟨⟨cls, dd, data, sl⟩, ho, hc, n, hd⟩ := ht
  simp only at hc hd
  subst hc hd
  obtain ⟨u, hu, ru⟩ := rv.get hz
  obtain ⟨hjl, hje⟩ := List.getElem?_eq_some_iff.mp hu
  have hvl := rv.length
  have hj : j < its.toArray.size := by simpa using hjl
  refine call_meets PySem.F.slot_tuple_index ⟨_, ho, rfl⟩ PySem.F.entry_tuple_index (PySem.F.args_tuple_index_2 _ _) (TI.tuple_indexAt a its.toArray n dd sl uy (eqU y) j hj ?_ ?_) ⟨ho, fun u' hu' => mem_eqAt ry fy rv fys u' (by simpa using hu'), ?_⟩
  · have e1 : its.toArray[j] = u := by simpa using hje
    rw [e1, eqU_of ru (flat_at fys hz)]
    exact hzj
  · intro m hm hmj
    have hml : m < its.length := by simpa using hm
    have hmy : m < ys.length := by omega
    have hy' : ys[m]? = some ys[m] := List.getElem?_eq_getElem hmy
    obtain ⟨u2, hu2, ru2⟩ := rv.get hy'
    obtain ⟨_, hme⟩ := List.getElem?_eq_some_iff.mp hu2
    have e1 : its.toArray[m] = u2 := by simpa using hme
    rw [e1, eqU_of ru2 (flat_at fys hy')]
    exact hno m _ hmj hy'
  · exact q _ _
theorem ints_flat (ns : List Int) : (ns.map V.int).all flatV = true := by
  rw [List.all_eq_true]; intro x hx; obtain ⟨i, _, rfl⟩ := List.mem_map.mp hx; rfl
/-- row.index(person): row a name of the def, person the generator's -/
def okIndex (j : Nat) : L2.St → Hp → V → Option V → Prop := fun σ H v r => ∃ (a : Addr) (ns : List Int) (p : Int) (k : Nat), σ[j]? = some (some (.ref a)) ∧ FTup H a (ns.map V.int) ∧ v = .int p ∧ ns[k]? = some p ∧ (∀ m, m < k → ns[m]? ≠ some p) ∧ r = some (.int (k : Nat))
theorem elt_index {P : Addr} {scope : Scope} {z y : Str} {p1 p2 apos cpos : Pos} {j : Nat}
    (sk : scope.kind = .function) (sy : scope.names.lookup y = some .local)
    (hz : scope.names.lookup z = some .free) (hc : X.env.kindOf z = some .cell) (cl : ∀ c, X.env.cells.lookup z = some c → (cloFrom X.env.cells scope.names []).lookup z = some c) (hj : X.N[j]? = some z) (hline : (apos.endLine == cpos.line) = true)
    (hd : (y == ("__debug__" : Str)) = false := by decide) (hdz : (z == ("__debug__" : Str)) = false := by decide) (hnz : (z == ("__classdict__" : Str)) = false := by decide) :
    EltG X P scope y [] (.Call (.Attribute (.Name z p1) "index" apos) [.Name y p2] [] cpos) (okIndex j) := by
  intro pins σ H1 s1 I cenv A' E' v u s2 mm r G ⟨ps, hPt, _⟩ hA hD hU rv ⟨a, ns, p, k, hs, ⟨ob, oc, od, hob⟩, ev, hk, hno, er⟩ hn hm
  refine ⟨by simp only [List.forIn_nil]; exact wpAny_pure ⟨by rw [er]; rfl, keeps_refl _⟩, fun w hw => ?_⟩
  have kk : ∀ z, cenv.kindOf z = scope.names.lookup z := fun z => by show cenv.scope.names.lookup z = _; rw [G.sco]
  have sk' : cenv.scope.kind = .function := by rw [G.sco]; exact sk
  refine wpAny_Call_method_late (by rfl) (by rfl) hline rfl (cap_loc G I ⟨ps, hPt⟩ sk hz hc cl hj hs (fun ur rr => ?_) hdz hnz)
  obtain rfl : ur = .ref a := rr
  obtain ⟨e1, hlen, its, rvs, htup⟩ := I.hok a _ hob
  have aneP : a ≠ P := fun z => by
    have q : s1.heap.get? P = some { cls := .none, data := .fields ps } := I.hok P _ hPt
    rw [z, q] at e1; cases e1; cases oc
  have e2 := G.keep a _ aneP e1
  have htup2 : IsTup s2.heap a its.toArray := by
    obtain ⟨o, t1, t2, t3⟩ := htup
    exact ⟨o, G.keep a o aneP t1, t2, t3⟩
  refine ⟨"tuple", "tuple.index", PySem.F.plainAttrs_tuple, PySem.F.slot_tuple_index, PySem.F.type_tuple_index, ⟨ob, e2, oc⟩, fun b eb => by cases eb; exact ⟨ob, e2, od⟩, ?_⟩
  have he : starEach [.Name y p2] cenv = (false, eval (.Name y p2) cenv) :: starEach [] cenv := rfl
  rw [he]
  refine Calls.callWith_builtin (by rfl) (Calls.evalArgs_plain ?_)
  show wpAny _ _ (spliced ((false, eval (.Name y p2) cenv) :: backTo cpos (starEach [] cenv))) _ _ s2
  refine Calls.spliced_cons (lo_loc sk' (by rw [kk]; exact sy) hn hm (Calls.spliced_nil ?_) hd)
  subst ev
  refine index_raw (ys := ns.map V.int) (y := .int p) (j := k) (z := .int p) htup2 rvs rv rfl (ints_flat ns) (by rw [List.getElem?_map, hk]; rfl) (by show (p == p) = true; simp) (fun m z' hmk hz' => ?_) fun t kk => ?_
  · rw [List.getElem?_map] at hz'
    cases e : ns[m]? with
    | none => rw [e] at hz'; cases hz'
    | some q =>
      rw [e] at hz'
      cases hz'
      have := hno m hmk
      show (q == p) = false
      rw [beq_eq_false_iff_ne]
      intro z; exact this (by rw [e, z])
  · rw [er] at hw
    cases hw
    exact ⟨⟨t, rfl⟩, keeps_tok _ _⟩
/-- 1, where x < y: x the generator's, y a name of the def -/
def okLess (j : Nat) : L2.St → Hp → V → Option V → Prop := fun σ H v r => ∃ a b : Int, v = .int a ∧ σ[j]? = some (some (.int b)) ∧ r = if a < b then some (.int 1) else none
theorem elt_less {P : Addr} {scope : Scope} {z y : Str} {p1 p2 p3 p4 : Pos} {j n : Nat}
    (sk : scope.kind = .function) (sy : scope.names.lookup y = some .local)
    (hz : scope.names.lookup z = some .free) (hc : X.env.kindOf z = some .cell) (cl : ∀ c, X.env.cells.lookup z = some c → (cloFrom X.env.cells scope.names []).lookup z = some c) (hj : X.N[j]? = some z)
    (hd : (y == ("__debug__" : Str)) = false := by decide) (hdz : (z == ("__debug__" : Str)) = false := by decide) (hnz : (z == ("__classdict__" : Str)) = false := by decide) :
    EltG X P scope y [.Compare (.Name y p1) [.Lt] [.Name z p2] p3] (.Constant (.int 1) n p4) (okLess j) := by
  intro pins σ H1 s1 I cenv A' E' v u s2 mm r G ⟨ps, hPt, _⟩ hA hD hU rv ⟨a, b, ev, hs, er⟩ hn hm
  have kk : ∀ z, cenv.kindOf z = scope.names.lookup z := fun z => by show cenv.scope.names.lookup z = _; rw [G.sco]
  have sk' : cenv.scope.kind = .function := by rw [G.sco]; exact sk
  subst ev
  obtain ⟨tu, rfl⟩ : ∃ t, u = .int a t := rv
  refine ⟨?_, fun w hw => ?_⟩
  · simp only [List.forIn_cons, List.forIn_nil, if_true]
    refine wpAny_bind (wpAny_bind (wpAny_isTrue_Compare1 (lo_loc sk' (by rw [kk]; exact sy) hn hm (cap_loc G I ⟨ps, hPt⟩ sk hz hc cl hj hs (fun ub rb => ?_) hdz hnz) hd)))
    obtain ⟨tb, rfl⟩ : ∃ t, ub = .int b t := rb
    refine wpAny_lt_int (wpAny_truthy_bool (wpAny_pure ?_))
    refine wpAny_pure ⟨?_, keeps_refl _⟩
    rw [er]
    by_cases h : a < b
    · rw [if_pos h, decide_eq_true h]; rfl
    · rw [if_neg h, decide_eq_false h]; rfl
  · rw [er] at hw
    by_cases h : a < b
    · rw [if_pos h] at hw
      cases hw
      exact wpAny_Constant_int ⟨⟨_, rfl⟩, keeps_tok _ _⟩
    · rw [if_neg h] at hw; cases hw
end
end MM
namespace MM
open PySem PySem.Spec PyProof.Rows L2 GxR
/-! ### displays, sums and slices whose object is known to have no dict -/
section
variable {X : Cx} {t : TA} {es : List Expr} {pos : Pos}
def tTupD (t : TA) : TE := fun σ H Q => t σ H fun xs H1 => xs.length ≤ sizeLine ∧ ∀ p H', Ex H1 H' → H1 p = none → FTup H' p xs → Q (.ref p) H'
theorem laidF {pins : List (Addr × Obj)} {σ : L2.St} {H : Hp} {s : Shared} {xs : List V} {us : List Value} (I : Inv X pins σ H s) (hz : xs.length ≤ sizeLine) (rv : Vals xs us) :
    Inv X pins σ (upd H s.heap.objs.size (.frz { cls := .type "tuple", data := .seq us.toArray } (.tup xs))) { s with heap := s.heap.push { cls := .type "tuple", data := .seq us.toArray } } ∧ Ex H (upd H s.heap.objs.size (.frz { cls := .type "tuple", data := .seq us.toArray } (.tup xs))) ∧ H s.heap.objs.size = none ∧ FTup (upd H s.heap.objs.size (.frz { cls := .type "tuple", data := .seq us.toArray } (.tup xs))) s.heap.objs.size xs :=
  have hf : H s.heap.objs.size = none := I.hok.fresh (Nat.le_refl _)
  ⟨I.laid (t' := s.toks) (fun _ _ e => Heap.get?_push_of_some _ e) (Nat.le_refl _) (show ObjOk X.prog X.w _ _ _ (.frz _ (.tup xs)) from ⟨Heap.get?_push_size _ rfl, hz, us, rv, IsTup.new _ _⟩), ex_new hf, hf, ⟨_, rfl, rfl, upd_same⟩⟩
theorem pe_tupF {x1} (h : PA X es t) : PE X (.Tuple es x1 pos) (tTupD t) := by
  refine ⟨fun pins s σ H Q I hq => ?_⟩
  refine wpAny_Tuple_spliced (thn (h.run pos pins s σ H _ I hq) fun us s1 ⟨xs, H1, I1, r, z, q⟩ => ⟨by rw [← r.length]; exact z, ?_⟩)
  obtain ⟨J, x, hf, f⟩ := laidF I1 z r
  exact ⟨.ref s1.heap.objs.size, _, J, rfl, q _ _ x hf f⟩
def rCatF : R2 := fun x y H Q => ∃ a b xs ys, x = .ref a ∧ y = .ref b ∧ FTup H a xs ∧ FTup H b ys ∧ xs.length + ys.length ≤ sizeLine ∧ ∀ p H', Ex H H' → FTup H' p (xs ++ ys) → Q (.ref p) H'
theorem k_catF : OpR X (binaryOp .Add) rCatF := by
  intro pins s σ H x y v u Q I rx ry ⟨a, b, xs, ys, ex, ey, hT, hT2, hz, q⟩
  subst ex ey
  cases rx
  cases ry
  obtain ⟨its, r1, p1, _⟩ := I.tuple hT.sqt
  obtain ⟨its2, r2, p2, _⟩ := I.tuple hT2.sqt
  by_cases hx : xs = []
  · subst hx
    cases r1
    exact cat_tup0 p1 p2 ⟨.ref b, H, I, rfl, q b H ExB.refl hT2⟩
  · refine HT.cat_tup p1 p2 (fun z => hx (r1.nil_iff.mp z)) (fun z => ⟨.ref a, H, I, rfl, q a H ExB.refl (by rw [r2.nil_iff.mp z, List.append_nil]; exact hT)⟩) (fun z => ?_) (by rw [← r1.length, ← r2.length]; exact hz)
    obtain ⟨J, x, hf, f⟩ := laidF I (by rw [List.length_append]; exact hz) (r1.append r2)
    exact ⟨.ref s.heap.objs.size, _, J, rfl, q _ _ x f⟩
def rSlF : V → Option Int → Option Int → Hp → VK → Prop := fun x lo hi H Q => ∃ a xs, x = .ref a ∧ FTup H a xs ∧ ∀ p H', Ex H H' → FTup H' p (cutV xs lo hi) → Q (.ref p) H'
theorem k_slF : SlR X rSlF := by
  intro pins s σ H x v vl vu lo hi sl Q I rx hs pl pu ⟨a, xs, ex, hT, q⟩
  subst ex
  cases rx
  obtain ⟨its, r, ht, hz⟩ := I.tuple hT.sqt
  have hlen : its.toArray.size = xs.length := by rw [List.size_toArray]; exact r.length.symm
  refine ⟨"tuple", _, PyProof.Rows.slot_tuple_getitem.lookup, ht.typeIs, ?_⟩
  by_cases hw : HT.sIx xs.length 0 lo = 0 ∧ HT.sIx xs.length xs.length hi = xs.length
  · have e : cutV xs lo hi = xs := by unfold cutV; rw [hw.1, hw.2]; simp
    exact getItem_tuple_whole ht hs pl pu (by rw [hlen]; exact hw) ⟨.ref a, H, I, rfl, q a H ExB.refl (by rw [e]; exact hT)⟩
  · refine HT.getItem_tuple_cut ht hs pl pu (by rw [hlen]; exact hw) ?_ (by rw [hlen]; exact hz)
    rw [hlen]
    obtain ⟨J, x, hf, f⟩ := laidF I (Nat.le_trans (cutV_length xs lo hi) hz) ((r.drop (HT.sIx xs.length 0 lo)).take (HT.sIx xs.length xs.length hi - HT.sIx xs.length 0 lo))
    exact ⟨.ref s.heap.objs.size, _, J, rfl, q _ _ x f⟩
end
end MM
namespace MM
open PySem PySem.Spec PyProof.Rows L2 GxR
/-! ### sorted(set(l)), l a list of ints -/
abbrev newSet (w : World) : Obj := { cls := .type "set", dict := none, data := .set #[] 0 (.fresh 0 0 (!w.params.followText "set-order")) }
section
variable {P : Program} {w : World} {A : Around} {E : Value → Shared → Prop} {s : Shared}
theorem set_of_list {l : Addr} {vs : Array Value} (ns : List Int) {Q : Value → Shared → Prop} (quiet : A.handled = none) (lst : s.heap.IsList l vs) (isI : IntsAre vs.toList ns) (few : ns.length + 1 < scanBound)
    (q : ∀ (g : Heap) (k c : Nat), SetR w g s.heap.objs.size (fun j => decide (j ∈ ns)) c → c ≤ ns.length → (∀ b o, s.heap.get? b = some o → g.get? b = some o) → Q (.ref s.heap.objs.size) { s with heap := g, toks := k }) :
    wpAny (model P w) A (call (.type "set") [.ref l]) Q E s := by
  have len : vs.size = ns.length := (Array.length_toList (xs := vs)).symm.trans (IntsAre.length isI)
  obtain ⟨u1, u2, u3⟩ := F.called_set.mro
  have u4 := F.called_set.made; have u5 := F.called_set.sub
  refine wpAny_call (codeAny_of_tree (show wpAny _ _ (callAny (.type "set") _) _ _ _ from wpAny_pure ⟨Code.quiet_builtin _ (by decide +kernel), codeAny_builtin F.entry_type_call ?_⟩))
  rw [Around.under_plain (weight_type_call_type "set" [.ref l] []) rfl]
  have u6 := F.called_set.notType; have u7 := F.called_set.canCreate; have u8 := F.typeCall_set_1 (.ref l)
  repeat (any_goals (first | assumption | wp_step))
  refine codeAny_mono (code_set_led1 (.ref l) (E := E) (Q₁ := fun y z => y = .ref s.heap.objs.size ∧ z = { s with heap := s.heap.push (newSet w) }) ⟨rfl, rfl⟩) fun r z hr => ?_
  cases r with
  | error _ => exact hr
  | ok f =>
    cases f with
    | next => exact hr.elim
    | brk => exact hr.elim
    | cont => exact hr.elim
    | ret y =>
      obtain ⟨e1, e2⟩ := hr
      subst e1 e2
      have at0 : (s.heap.push (newSet w)).get? s.heap.objs.size = some (newSet w) := Heap.get?_push_size _ rfl
      have ty0 : Shared.TypeIs { s with heap := s.heap.push (newSet w) } (.ref s.heap.objs.size) "set" := ⟨_, at0, rfl⟩
      have u9 := F.called_set.init.lookup; have u10 := F.called_set.init.bind (.ref s.heap.objs.size)
      repeat (any_goals (first | assumption | wp_step))
      refine codeAny_mono (codeAny_call_builtin (R := wants (fun a b => a = .none ∧ ∃ g k c, b = { s with heap := g, toks := k } ∧ SetR w g s.heap.objs.size (fun j => decide (j ∈ ns)) c ∧ c ≤ ns.length ∧ (∀ b o, s.heap.get? b = some o → g.get? b = some o)) E) F.called_set.init.plain F.entry_set_init (check_set_init_1 ty0 ?_)) fun a b hab => ?_
      · obtain ⟨⟨k1, k2, k3, k4⟩, lo, lc, ln, ld⟩ := lst
        simp only at lc ld
        subst lc ld
        have lo' : (s.heap.push (newSet w)).get? l = some { cls := .type "list", dict := k2, data := .seq vs ln, slots := k4 } := Heap.get?_push_of_some _ lo
        have v1 := F.sub_list_set; have v2 := F.sub_list_frozenset
        have v3 : (Value.type "list" == Value.type "dict") = false := by decide
        have lst' : (s.heap.push (newSet w)).IsList l vs := ⟨_, lo', rfl, ln, rfl⟩
        unfold Builtin.«set.__init__» noKeywords Builtin.Frozenset.updateFrom
        generalize ePI : pyIter = PI
        wp_walk
        subst ePI
        refine wpAny_pyIter_list lst' (wpAny_bind (wpAny_runValue ?_))
        have ll : l < s.heap.objs.size := Heap.lt_size lo
        have sz : (s.heap.push (newSet w)).objs.size = s.heap.objs.size + 1 := Heap.size_push ..
        have ne1 : l ≠ (s.heap.push (newSet w)).objs.size := by rw [sz]; exact Nat.ne_of_lt (Nat.lt_succ_of_lt ll)
        have ne2 : s.heap.objs.size ∉ [(s.heap.push (newSet w)).objs.size, l] := by
          rw [sz]; intro z; rcases List.mem_cons.mp z with z | z
          · exact absurd z (Nat.ne_of_lt (Nat.lt_succ_self _))
          · exact absurd (List.mem_singleton.mp z) (Nat.ne_of_gt ll)
        have each : ∀ (i : Nat) (v : Value), vs[i]? = some v → ∃ k t, ns[i]? = some k ∧ v = .int k t := fun i v hv => by
          have hi : i < ns.length := by rw [← len]; exact (Array.getElem?_eq_some_iff.mp hv).1
          obtain ⟨t, e⟩ := PyProof.Rows.IntsAre.int_at isI i v ((Array.getElem?_toList).trans hv)
          exact ⟨ns[i], t, List.getElem?_eq_getElem hi, by rw [e, List.getD_eq_getElem?_getD, List.getElem?_eq_getElem hi]; rfl⟩
        refine set_update_ints ((Walks.list (by simp [quiet]) _ l ne1 vs).toS) s.heap.objs.size ne2 ns len few each (vs.size - 0) 0 _ (by omega) (Nat.zero_le _) ⟨⟨_, Heap.get?_push_size _ rfl, rfl, rfl⟩, lst'.push _⟩ ⟨0, Nat.le_refl 0, setR_new_at (Heap.get?_push_of_some _ at0)⟩ ?_
        rintro ⟨g, g2, g3, g4, g5⟩ c mv hc R
        have a1 : g2 = s.gens := mv.gens; have a2 : g3 = s.drawn := mv.drawn; have a3 : g5 = s.os := mv.os
        subst a1 a2 a3
        rw [len] at hc
        show wpAny _ _ _ _ _ _; refine wpAny_pure ?_; show wpAny _ _ (ret Value.none) _ _ _; refine wpAny_pure ⟨rfl, g, g4, c, rfl, R, hc, fun b o e => ?_⟩
        have lb : b < s.heap.objs.size := Heap.lt_size e
        refine mv.heap b o (fun z => ?_) (Heap.get?_push_of_some _ (Heap.get?_push_of_some _ e))
        rcases List.mem_cons.mp z with z | z
        · exact absurd z (Nat.ne_of_lt lb)
        · have z := List.mem_singleton.mp z; rw [sz] at z; exact absurd z (Nat.ne_of_lt (Nat.lt_succ_of_lt lb))
      · cases a with
        | error _ => exact hab
        | ok f2 =>
          cases f2 with
          | next => exact hab.elim
          | brk => exact hab.elim
          | cont => exact hab.elim
          | ret y2 =>
            obtain ⟨e3, g, k, c, e4, R, hc, hk⟩ := hab
            subst e3 e4
            repeat (any_goals (first | assumption | wp_step))
            exact q g k c R hc hk
end
end MM
namespace MM
open PySem PySem.Spec PyProof.Rows L2 GxR
theorem rise_eq : ∀ {a b : List Int}, a.Pairwise (· < ·) → b.Pairwise (· < ·) → (∀ x, x ∈ a ↔ x ∈ b) → a = b
  | [], [], _, _, _ => rfl
  | [], y :: b, _, _, h => absurd ((h y).mpr List.mem_cons_self) (by simp)
  | x :: a, [], _, _, h => absurd ((h x).mp List.mem_cons_self) (by simp)
  | x :: a, y :: b, ha, hb, h => by
    obtain ⟨a1, a2⟩ := List.pairwise_cons.mp ha
    obtain ⟨b1, b2⟩ := List.pairwise_cons.mp hb
    have e : x = y := by
      rcases List.mem_cons.mp ((h x).mp List.mem_cons_self) with z | z
      · exact z
      · rcases List.mem_cons.mp ((h y).mpr List.mem_cons_self) with w | w
        · exact w.symm
        · have := b1 x z; have := a1 y w; omega
    subst e
    rw [rise_eq a2 b2 fun z => ⟨fun hz => ?_, fun hz => ?_⟩]
    · rcases List.mem_cons.mp ((h z).mp (List.mem_cons_of_mem _ hz)) with w | w
      · have := a1 z hz; omega
      · exact w
    · rcases List.mem_cons.mp ((h z).mpr (List.mem_cons_of_mem _ hz)) with w | w
      · have := b1 z hz; omega
      · exact w
section
variable {X : Cx} {a : Expr} {ta : TE} {p p2 q pos : Pos}
/-- sorted(set(l)) of a list that rises -/
def tSortSet (K : PySem.W.Frag) (ta : TE) : TE := fun σ H Q => ta σ H fun x H1 => ∃ (l : Addr) (ns : List Int), x = V.ref l ∧ SqL K H1 l (ns.map V.int) ∧ ns.length < 64 ∧ ns.Pairwise (· < ·) ∧ ∀ r H', Ex H1 H' → H1 r = none → H' r = some (.lst (ns.map V.int)) → Q (.ref r) H'
theorem pe_sortSet {K : PySem.W.Frag} (hK : X.K = K) (hc : X.calm = true) (hg : Gl X "sorted") (hm : X.mg "sorted" = none) (hb : bootBuiltins "sorted" = some (.builtin "sorted")) (hg2 : Gl X "set") (hm2 : X.mg "set" = none) (ha : PE X a ta)
    (na : starEach [a] X.env = (false, eval a X.env) :: starEach [] X.env := by rfl) : PE X (.Call (.Name "sorted" p) [.Call (.Name "set" p2) [a] [] q] [] pos) (tSortSet K ta) := by
  subst hK
  refine ⟨fun pins s σ H Q I h => Call_ (ld_blt I hg hm hb (PyProof.Rows.callWith_builtin1 (PyProof.Rows.args_cons ?_ rfl) rfl rfl))⟩
  refine Call_ (ld_blt I hg2 hm2 PyProof.Rows.boot_set (PyProof.Rows.callWith_type1 (PyProof.Rows.args_cons (thn (ha.run pins s σ H _ I h) fun v s1 ⟨x, H1, I1, r1, w1⟩ => PyProof.Rows.args_nil ?_) na) na rfl))
  obtain ⟨l, ns, ex, hq, h64, hri, w1⟩ := w1
  subst ex
  obtain rfl : v = .ref l := r1
  obtain ⟨its, rv, pl, hz⟩ := I1.list hq
  refine set_of_list ns (I1.ok.hd hc) pl.isList (by simpa using rv.ints) (by unfold scanBound; omega) fun g k c R hcl hk => PyProof.Rows.args_nil ?_
  have I2 : Inv X pins σ H1 { s1 with heap := g, toks := k } := I1.kept hk
  have hcn : c ≤ 63 := by omega
  have R2 : SetR X.w ({ s1 with heap := g, toks := k } : Shared).heap s1.heap.objs.size (fun j => decide (j ∈ ns)) c := R
  generalize ({ s1 with heap := g, toks := k } : Shared) = s2 at I2 R2 ⊢
  refine sorted_set R2 (I2.ok.hd hc) (by omega) fun s' r out c2 ms k2 g2 o2 hp hg3 hi hs2 hm3 hl2 => ?_
  have em : ms = ns := rise_eq hs2 hri fun x => by rw [hm3 x, decide_eq_true_iff]
  subst em
  have hf : H1 r = none := I2.hok.fresh hp
  have hlen : (ms.map V.int).length ≤ sizeLine := by rw [List.length_map, sizeLine_eq]; omega
  have J : Inv X pins σ (upd H1 r (.lst (ms.map V.int))) { s2 with heap := s'.heap, gens := s'.gens, drawn := s'.drawn, toks := s'.toks } :=
    Inv.call (ch := []) I2 (Un.laid k2 hp hf) (I2.hok.laid k2 hp ⟨hlen, out.toList, c2, vals_of_ints hi, hg3⟩) (by rw [g2]; exact I2.bare) (fun _ z => nomatch z)
  have es : s' = { s2 with heap := s'.heap, gens := s'.gens, drawn := s'.drawn, toks := s'.toks } := by
    cases s'; cases s2; cases o2; rfl
  rw [es]
  exact ⟨.ref r, _, J, rfl, w1 r _ (ex_new hf) hf upd_same⟩
end
end MM
namespace MM
open PySem PySem.Spec PyProof.Rows L2 GxR
/-! ### enumerate(t), t a tuple -/
def EnT (K : PySem.W.Frag) (a : Addr) : It :=
  ⟨fun i H => ∃ (xs : List V) (x : V), SqT K H a xs ∧ xs[i]? = some x, fun i H v H' => ∃ T x, v = .ref T ∧ H T = none ∧ H' = upd H T (.tup [.int (i : Nat), x]) ∧ ∀ xs, SqT K H a xs → xs[i]? = some x, fun i H => ∃ xs : List V, SqT K H a xs ∧ xs.length ≤ i⟩
theorem turn_enT {P : Program} {w : World} {K : PySem.W.Frag} {elts : List Expr} {kk : Nat} {tpos : Pos} (a e it : Addr) (na : a ≠ it) (nae : a ≠ e) :
    Turn P w K (.Tuple elts kk tpos) (EnT K a) [e, it] e (fun i h => (∃ old, IsEnum h e it ((i : Nat) : Int) old) ∧ h.IsTupleIter it a i ∧ e ≠ it) where
  mem := by simp
  obj := by
    rintro i h ⟨⟨old, he⟩, ⟨o, ho, hc, hd⟩, _⟩ b hb
    rcases List.mem_cons.mp hb with z | z
    · subst z; exact ⟨_, he, fun v q => nomatch q⟩
    · rw [List.mem_singleton.mp z]; exact ⟨o, ho, fun v q => by rw [hd] at q; cases q⟩
  keep := by
    rintro i h h' ⟨⟨old, he⟩, hi, hne⟩ k
    exact ⟨⟨old, k e (by simp) _ he⟩, hi.at fun o q => k it (by simp) o q, hne⟩
  item := by
    intro X hP hw hK hc i pins s σ H E I hf st hg
    subst hP hw hK
    obtain ⟨⟨old, he⟩, hit, hne⟩ := st
    obtain ⟨xs, x, hq, hx⟩ := hg
    obtain ⟨its, rv, pt, hz⟩ := I.tuple hq
    have pt' : s.heap.IsTuple a its.toArray := by first | exact pt | (obtain ⟨o, e1, e2, e3⟩ := pt; exact ⟨o, e1, e2, e3⟩)
    obtain ⟨u, hu, ru⟩ := rv.get hx
    have hil : i < its.toArray.size := by obtain ⟨h1, _⟩ := List.getElem?_eq_some_iff.mp hu; simpa using h1
    have elt : e < s.heap.objs.size := Heap.lt_size he
    have ilt : it < s.heap.objs.size := by obtain ⟨_, q, _⟩ := hit; exact Heap.lt_size q
    have D := Draws.tuple (prog := X.prog) (w := X.w) (A := X.A.in1) (by simp [I.ok.hd hc]) it a na its.toArray
    refine wpAny_pyNext_enum_itemD D he ⟨hit, pt'⟩ hil hne (by intro z; rcases List.mem_cons.mp z with z | z; exact hne z; exact nae (List.mem_singleton.mp z).symm) fun y g tk hy ho hst hT hsz hk => ?_
    have ey : y = u := by
      rw [List.getElem?_toArray, hu] at hy; exact (Option.some.inj hy).symm
    subst ey
    refine ⟨_, rfl, wpAny_letOwnedTupleGo_enum (s := { s with heap := g, toks := tk + 1 }) ho fun g2 he' sb => ?_⟩
    have hT2 : g2.get? s.heap.objs.size = some { cls := .type "tuple", data := .seq #[.int i tk, y] } := (sb.2 _ (Nat.ne_of_gt elt)).trans hT
    have I1 : Inv X pins σ (upd H s.heap.objs.size (.tup [.int (i : Nat), x])) { s with heap := g2, toks := tk + 1 } :=
      I.turnedNew (ch := [e, it]) (fun b ob hb q => (sb.2 b (fun z => hb (by simp [z]))).trans (hk b ob (fun z => hb (by simp [z])) (fun z => hb (by simp [z])) q)) hf (Nat.le_refl _) ⟨by show 2 ≤ sizeLine; decide, [.int i tk, y], .cons ⟨_, rfl⟩ (.cons ru .nil), ⟨_, hT2, rfl, _, rfl⟩⟩
    refine ⟨.ref s.heap.objs.size, _, I1, rfl, ⟨_, x, rfl, I.hok.fresh (Nat.le_refl _), rfl, fun ys hy => by rw [I.tuple_inj hy hq]; exact hx⟩, ⟨⟨y, by rw [show ((i + 1 : Nat) : Int) = (i : Int) + 1 by omega]; exact he'⟩, hst.1.at fun o q => (sb.2 it (Ne.symm hne)).trans q, hne⟩, fun b hb => ?_⟩
    have lt : b < s.heap.objs.size := by
      rcases List.mem_cons.mp hb with z | z
      · rw [z]; exact elt
      · rw [List.mem_singleton.mp z]; exact ilt
    rw [upd_ne (Nat.ne_of_lt lt)]
    exact (hf b hb).1
  done := by
    intro X hP hw hK hc i pins s σ H E I hf st hg
    subst hP hw hK
    obtain ⟨⟨old, he⟩, hit, hne⟩ := st
    obtain ⟨xs, hq, hx⟩ := hg
    obtain ⟨its, rv, pt, hz⟩ := I.tuple hq
    have pt' : s.heap.IsTuple a its.toArray := by first | exact pt | (obtain ⟨o, e1, e2, e3⟩ := pt; exact ⟨o, e1, e2, e3⟩)
    obtain ⟨f0, f1, f2, f3, f4, f5⟩ := hf it (by simp)
    have over : its.toArray[i]? = none := by
      rw [List.getElem?_toArray]; exact List.getElem?_eq_none (by have := rv.length; omega)
    have D : Draws X.prog X.w X.A.in1 it [it, a] 0 (fun _ _ => True) (fun _ h => h.IsTupleIter it a i ∧ h.IsTuple a its.toArray) :=
      ⟨fun _ _ st => let ⟨o, ho, _⟩ := st.1; ⟨o, ho⟩, fun _ _ _ st hk => ⟨st.1.at fun o e => hk it (by simp) o e, st.2.at fun o e => hk a (by simp) o e⟩, fun _ _ _ _ h => absurd h (Nat.not_lt_zero _), fun s Q E st hE => wpAny_nextOf_tuple_end (by simp [I.ok.hd hc]) st.1 st.2 over hE⟩
    exact wpAny_pyNext_enum_endD D he ⟨hit, pt'⟩ fun g eb => ⟨rfl, I.turned (t' := s.toks) (fun b o hb q => eb b o hb q) f0 f1 f3 f4 f5⟩
  self := by
    rintro A i s Q E ⟨⟨_, he⟩, _⟩ q
    exact wpAny_pyIter_enum he q
/-- enumerate(v): its two new cells -/
abbrev enumO (it : Addr) : Obj := { cls := .type "enumerate", data := .fields #[.none, .bool false, .ref it, rawInt 0, .none, .none] }
theorem enum_new1 {v : Value} {o : Obj} {G : Heap → Prop} (B : Begins v o G) : Meets (Builtin.«enumerate.__new__» ⟨[.type "enumerate", v], []⟩) (fun _ R s => G s.heap ∧ R (.ok (.ret (.ref (s.heap.push o).objs.size))) { s with heap := (s.heap.push o).push (enumO s.heap.objs.size) }) := .of_wp fun prog w A R s h => by
  obtain ⟨hp, g, d, tk, os⟩ := s; obtain ⟨g1, h⟩ := h; have sub := sub_enumerate
  have it1 : ∀ {A' : Around} {E : Value → Shared → Prop} {Q : Value → Shared → Prop}, Q (.ref hp.objs.size) ⟨hp.push o, g, d, tk, os⟩ → wpAny (model prog w) A' (pyIter v) Q E ⟨hp, g, d, tk, os⟩ := fun q => B.iter prog w _ _ ⟨hp, g, d, tk, os⟩ _ g1 q
  wp_walk using it1
  refine wpAny_stack_any fun st => wpAny_pure ?_; split
  · rename_i c _ _ _ _ _; cases (c == Value.type "enumerate")
    all_goals (wp_walk using it1; exact ⟨_, rfl, h⟩)
  · wp_walk using it1; exact ⟨_, rfl, h⟩
theorem enum_call1 {prog : Program} {w : World} {A : Around} {E : Value → Shared → Prop} {s : Shared} {v : Value} {o : Obj} {G : Heap → Prop} {Q : Value → Shared → Prop} (B : Begins v o G) (g1 : G s.heap)
    (q : ∀ g, IsEnum g (s.heap.objs.size + 1) s.heap.objs.size 0 .none → g.get? s.heap.objs.size = some o → (∀ b o, s.heap.get? b = some o → g.get? b = some o) → Q (.ref (s.heap.objs.size + 1)) { s with heap := g }) : wpAny (model prog w) A (call (.type "enumerate") [v]) Q E s := by
  refine callType_new F.called_enumerate (by decide) (F.typeCall_enumerate_1 _) (F.newCall_enumerate_1 _) (fun y => F.args_object_init_2 y _) F.entry_enumerate_new (enum_new1 B) ⟨g1, ?_⟩
  have sz : (s.heap.push o).objs.size = s.heap.objs.size + 1 := Heap.size_push ..
  have at1 : IsEnum ((s.heap.push o).push (enumO s.heap.objs.size)) (s.heap.objs.size + 1) s.heap.objs.size 0 .none := by
    have := Heap.get?_push_size (s.heap.push o) (o := enumO s.heap.objs.size) rfl
    rw [sz] at this; exact this
  show _ ∧ _
  rw [sz]
  exact ⟨⟨_, at1, rfl⟩, q _ at1 (Heap.get?_push_of_some _ (Heap.get?_push_size _ B.free)) fun b u x => Heap.get?_push_of_some _ (Heap.get?_push_of_some _ x)⟩
def iEnT (K : PySem.W.Frag) (ta : TA) : TI := fun σ H R => ta σ H fun vs H1 => ∃ a xs, vs = [.ref a] ∧ SqT K H1 a xs ∧ R (EnT K a) H1
theorem pi_enT {X : Cx} {K : PySem.W.Frag} {e : Expr} {ta : TA} {p pos tpos : Pos} {elts : List Expr} {kk : Nat} (hK : X.K = K) (hg : Gl X "enumerate") (hm : X.mg "enumerate" = none) (ha : PA X [e] ta) (hs : starEach [e] X.env = [(false, eval e X.env)] := by rfl) :
    PI X (.Tuple elts kk tpos) (.Call (.Name "enumerate" p) [e] [] pos) (iEnT K ta) := by
  subst hK
  refine ⟨fun pins s σ H R I h => Call_ (ld_blt I hg hm boot_enumerate (PyProof.Rows.callWith_type1 (thn (ha.run pos pins s σ H _ I h) fun us s1 ⟨vs, H1, I1, r1, a, xs, ex, hq, q⟩ => ?_) hs rfl))⟩
  subst ex
  cases r1 with
  | cons r rr =>
    cases rr
    cases r
    obtain ⟨its, rv, pt, hz⟩ := I1.tuple hq
    have pt' : s1.heap.IsTuple a its.toArray := by first | exact pt | (obtain ⟨o, e1, e2, e3⟩ := pt; exact ⟨o, e1, e2, e3⟩)
    have alt : a < s1.heap.objs.size := by obtain ⟨_, e1, _⟩ := pt'; exact Heap.lt_size e1
    refine enum_call1 (begins_tuple a its.toArray) pt' fun g he hit hk => wpAny_pyIter_enum he ?_
    have I2 : Inv X pins σ H1 { s1 with heap := g } := I1.kept (t' := s1.toks) hk
    refine ⟨s1.heap.objs.size + 1, [s1.heap.objs.size + 1, s1.heap.objs.size], _, _, H1, rfl, I2, turn_enT a (s1.heap.objs.size + 1) s1.heap.objs.size (Nat.ne_of_lt alt) (Nat.ne_of_lt (Nat.lt_succ_of_lt alt)), ⟨⟨.none, he⟩, ⟨_, hit, rfl, rfl⟩, Nat.succ_ne_self _⟩, fun b hb => ?_, q⟩
    have le : s1.heap.objs.size ≤ b := by
      rcases List.mem_cons.mp hb with z | z
      · rw [z]; exact Nat.le_succ _
      · rw [List.mem_singleton.mp z]; exact Nat.le_refl _
    exact I1.fpOk le (I1.hok.fresh le)
theorem walk_enT {K : PySem.W.Frag} {a : Addr} {xs : List V} : Walk (EnT K a) xs.length (fun H => SqT K H a xs) (YPair (fun i => some (.int (i : Nat))) (fun i => xs[i]?)) := by
  refine ⟨fun i _ hi q => ⟨xs, xs[i], q, List.getElem?_eq_getElem hi⟩, fun _ q => ⟨xs, q, Nat.le_refl _⟩, fun i H v H' _ q ⟨T, x, h1, h2, h3, h4⟩ => ⟨T, .int (i : Nat), x, h1, h2, h3, rfl, h4 xs q⟩⟩
end MM
namespace MM
open PySem PySem.Spec PyProof.Rows L2 GxR
/-! ### tuple(range(a, b, c)) -/
def tTupR3 (ta : TA) : TE := fun σ H Q => ta σ H fun vs H1 => ∃ (i j c : Int) (n : Nat), vs = [.int i, .int j, .int c] ∧ RgC i j c n ∧ n ≤ 1000000 ∧ ∀ q H', Ex H1 H' → H1 q = none → FTup H' q ((List.range n).map fun (k : Nat) => V.int (i + (k : Int) * c)) → Q (.ref q) H'
section
variable {X : Cx} {a b c : Expr} {ta : TA} {p p2 pos pos2 : Pos}
theorem pe_tupR3 (hc : X.calm = true) (hg : Gl X "tuple") (hm : X.mg "tuple" = none) (hg2 : Gl X "range") (hm2 : X.mg "range" = none) (ha : PA X [a, b, c] ta)
    (hs : starEach [a, b, c] X.env = (false, eval a X.env) :: starEach [b, c] X.env := by rfl) (hpl : (backTo pos2 (starEach [b, c] X.env)).any (·.1) = false := by rfl) :
    PE X (.Call (.Name "tuple" p) [.Call (.Name "range" p2) [a, b, c] [] pos2] [] pos) (tTupR3 ta) := by
  refine ⟨fun pins s σ H Q I h => Call_ (ld_blt I hg hm boot_tuple (PyProof.Rows.callWith_type1 (PyProof.Rows.args_cons ?_ rfl) rfl))⟩
  refine Call_ (ld_blt I hg2 hm2 boot_range (PyProof.Rows.callWith_type1 (thn (ha.run pos2 pins s σ H _ I h) fun us s1 ⟨vs, H1, I1, r1, q1⟩ => ?_) hs hpl))
  obtain ⟨i, j, k, n, ev, ⟨c0, c1, c2, c3⟩, hn, q⟩ := q1
  subst ev
  cases r1 with
  | cons r rr =>
    cases rr with
    | cons r' rr =>
      cases rr with
      | cons r'' rr =>
        cases rr
        obtain ⟨t, rfl⟩ := r
        obtain ⟨t', rfl⟩ := r'
        obtain ⟨t'', rfl⟩ := r''
        refine call_range_3 c0 (PyProof.Rows.args_nil ?_) (.inl (PyProof.noPylong_small c1))
        have I2 : Inv X pins σ H1 { s1 with heap := s1.heap.push { cls := .type "range", data := .fields #[.int i t, .int j t', .int k t''] } } := I1.kept (t' := s1.toks) fun b o e => Heap.get?_push_of_some _ e
        refine call_tuple_range (n := n) (I2.ok.hd hc) (IsRange.new _ _ _ _ _ _ _) c2 c3 (by omega) fun g tk acc hk hi => ?_
        have I3 : Inv X pins σ H1 { s1 with heap := g, toks := tk } := I2.kept (t' := tk) hk
        have rv : Vals ((List.range n).map fun (m : Nat) => V.int (i + (m : Int) * k)) acc.toList := vals_acc (F := fun m v => ∃ t, v = .int (i + (m : Int) * k) t ∧ m < n) (by
            rw [List.length_map, List.length_range]
            refine ⟨hi.1, fun m v hv => ?_⟩
            obtain ⟨t, e⟩ := hi.2 m v hv
            have := (Array.getElem?_eq_some_iff.mp hv).1
            rw [hi.1] at this
            exact ⟨t, e, this⟩) fun m v ⟨t, e, hm⟩ => ⟨.int (i + (m : Int) * k), by rw [List.getElem?_map, List.getElem?_range hm]; rfl, t, e⟩
        obtain ⟨J, x, hf, f⟩ := laidF I3 (by rw [List.length_map, List.length_range, sizeLine_eq]; omega) rv
        rw [Array.toArray_toList] at J x f
        exact ⟨.ref g.objs.size, _, J, rfl, q _ _ x hf f⟩
theorem walk_revT {K : PySem.W.Frag} {a : Addr} {xs : List V} : Walk (RT.ItvT K a xs.length) xs.length (fun H => SqT K H a xs) (fun i H x H' => H' = H ∧ xs[xs.length - 1 - i]? = some x) :=
  ⟨fun i _ hi q => ⟨hi, xs, xs[xs.length - 1 - i]'(by omega), q, List.getElem?_eq_getElem _⟩, fun _ _ => Nat.le_refl _, fun _ _ _ _ _ q y => ⟨y.1, y.2 xs q⟩⟩
theorem k_revA {K : PySem.W.Frag} {X : Cx} {tg e : Expr} {te : TE} (hK : X.K = K) (h : PI X tg e (RT.iRevA X.K te)) : PI X tg e (RT.iRevA K te) := hK ▸ h
end
end MM
namespace MM
open PySem PySem.Spec PyProof.Rows L2 GxR
/-! ### data that can be compared and shown -/
structure Nice (k L : Nat) (d : PyData) : Prop where
  lay : d.canLay0 = true
  dep : d.depth ≤ k
  dic : d.hasDict = false
  sho : d.showable = true
  len : d.shown.length ≤ L
theorem Nice.mono {k L k' L' : Nat} {d : PyData} (n : Nice k L d) (h : k ≤ k') (h' : L ≤ L') : Nice k' L' d := ⟨n.lay, Nat.le_trans n.dep h, n.dic, n.sho, Nat.le_trans n.len h'⟩
theorem Nice.shaped {k L : Nat} {d : PyData} (n : Nice k L d) (h : k ≤ 64) : SeqAt.shaped d = true := by unfold SeqAt.shaped; rw [n.lay, decide_eq_true (Nat.le_trans n.dep h)]; rfl
theorem Nice.refl {k L : Nat} {d : PyData} (n : Nice k L d) : PyData.eqv d d = true := SeqAt.eqv_refl d n.lay
theorem small_log {i : Int} (h : i.natAbs < 10 ^ 15) : i.natAbs.log2 < 50 := by
  by_cases h0 : i.natAbs = 0
  · rw [h0]; decide
  · exact (Nat.log2_lt h0).mpr (Nat.lt_trans h (by decide))
theorem nice_int {i : Int} (h : i.natAbs < 10 ^ 15) : Nice 0 51 (.int i) := by
  have hl := small_log h
  refine ⟨rfl, Nat.le_refl _, by simp only [PyData.hasDict], ?_, ?_⟩
  · simp only [PyData.showable, decide_eq_true_eq]; omega
  · simp only [PyData.shown]
    have e : (Str.ofString (toString i)).length = (toString i).length := by
      exact PySem.ofString_length _
    rw [e]; exact int_text_length_le (by decide) hl
theorem nice_none : Nice 0 5 .none := ⟨rfl, Nat.le_refl _, by simp only [PyData.hasDict], by simp only [PyData.showable], by simp only [PyData.shown]; decide⟩
theorem nice_bool (b : Bool) : Nice 0 5 (.bool b) := ⟨rfl, Nat.le_refl _, by simp only [PyData.hasDict], by simp only [PyData.showable], by cases b <;> simp only [PyData.shown] <;> decide⟩
theorem nice_all {k L : Nat} : ∀ {ds : List PyData}, (∀ d ∈ ds, Nice k L d) → PyData.canLayAll0 ds = true ∧ PyData.depthAll ds ≤ k ∧ PyData.hasDictAll ds = false ∧ PyData.showableAll ds = true ∧ ((PyData.shownAll ds).map (·.length)).sum ≤ ds.length * L ∧ (PyData.shownAll ds).length = ds.length
  | [], _ => ⟨rfl, Nat.zero_le _, by simp only [PyData.hasDictAll], by simp only [PyData.showableAll], by simp [PyData.shownAll], by simp [PyData.shownAll]⟩
  | d :: ds, h => by
    have n := h d List.mem_cons_self
    obtain ⟨a, b, c, e, f, g⟩ := nice_all (ds := ds) fun x hx => h x (List.mem_cons_of_mem _ hx)
    refine ⟨by show (d.canLay0 && PyData.canLayAll0 ds) = true; rw [n.lay, a]; rfl, by show max d.depth (PyData.depthAll ds) ≤ k; have := n.dep; omega, by simp only [PyData.hasDictAll, n.dic, c, Bool.or_self], by simp only [PyData.showableAll, n.sho, e, Bool.and_self], ?_, by simp only [PyData.shownAll, List.length_cons, g]⟩
    simp only [PyData.shownAll, List.map_cons, List.sum_cons, List.length_cons, Nat.succ_mul]
    have := n.len; omega
theorem nice_list {k L m : Nat} {ds : List PyData} (h : ∀ d ∈ ds, Nice k L d) (hm : ds.length ≤ m) : Nice (k + 1) (m * (L + 2) + 3) (.list ds) := by
  obtain ⟨a, b, c, e, f, g⟩ := nice_all h
  refine ⟨a, Nat.succ_le_succ b, by simp only [PyData.hasDict, c], by simp only [PyData.showable, e], ?_⟩
  simp only [PyData.shown]
  refine Nat.le_trans (listText_len_le _) ?_
  rw [g]
  have h1 : ds.length * (L + 2) ≤ m * (L + 2) := Nat.mul_le_mul_right _ hm
  have h2 : ds.length * (L + 2) = ds.length * L + ds.length * 2 := Nat.mul_add ..
  omega
theorem nice_tuple {k L m : Nat} {ds : List PyData} (h : ∀ d ∈ ds, Nice k L d) (hm : ds.length ≤ m) : Nice (k + 1) (m * (L + 2) + 3) (.tuple ds) := by
  obtain ⟨a, b, c, e, f, g⟩ := nice_all h
  refine ⟨a, Nat.succ_le_succ b, by simp only [PyData.hasDict, c], by simp only [PyData.showable, e], ?_⟩
  simp only [PyData.shown]
  refine Nat.le_trans (tupleText_len_le _) ?_
  rw [g]
  have h1 : ds.length * (L + 2) ≤ m * (L + 2) := Nat.mul_le_mul_right _ hm
  have h2 : ds.length * (L + 2) = ds.length * L + ds.length * 2 := Nat.mul_add ..
  omega
theorem nice_ints {ns : List Int} (h : ∀ i ∈ ns, i.natAbs < 10 ^ 15) : ∀ d ∈ ns.map PyData.int, Nice 0 51 d := fun d hd => by
  obtain ⟨i, hi, rfl⟩ := List.mem_map.mp hd; exact nice_int (h i hi)
/-! ### ints compared -/
theorem eqv_ints : ∀ ns ms : List Int, PyData.eqv (.list (ns.map PyData.int)) (.list (ms.map PyData.int)) = decide (ns = ms) := by
  have key : ∀ ns ms : List Int, PyData.eqvAll (ns.map PyData.int) (ms.map PyData.int) = decide (ns = ms) := by
    intro ns
    induction ns with
    | nil => intro ms; cases ms <;> simp [PyData.eqvAll]
    | cons n ns ih =>
      intro ms
      cases ms with
      | nil => simp [PyData.eqvAll]
      | cons m ms =>
        simp only [List.map_cons, PyData.eqvAll, PyData.eqv, ih, List.cons.injEq]
        by_cases h1 : n = m <;> by_cases h2 : ns = ms <;> simp [h1, h2]
  intro ns ms
  rw [PyData.eqv]; exact key ns ms
theorem eqv_rows (ns ms : List Int) : PyData.eqv (.tuple (ns.map PyData.int)) (.tuple (ms.map PyData.int)) = decide (ns = ms) := by
  rw [← eqv_ints]; simp only [PyData.eqv]
/-! ### rows -/
def IsRow (ns : List Int) : Prop := 1 ≤ ns.length ∧ ns.length ≤ 9 ∧ ns.Perm ((List.range ns.length).map Int.ofNat)
theorem rgV_ints (n : Nat) : rgV 0 n = ((List.range n).map Int.ofNat).map V.int := by
  unfold rgV
  rw [List.map_map]
  have e : ((n : Int) - 0).toNat = n := by omega
  rw [e]
  apply List.map_congr_left
  intro i _
  show V.int (0 + (i : Int)) = V.int (Int.ofNat i)
  rw [Int.zero_add]; rfl
theorem range_up (n : Nat) : ((List.range n).map Int.ofNat).Pairwise (· ≤ ·) := by
  rw [List.pairwise_map]
  exact (List.pairwise_lt_range (n := n)).imp fun {a b} h => Int.ofNat_le.mpr (Nat.le_of_lt h)
theorem sorted_same {a b : List Int} (hp : a.Perm b) (ha : a.Pairwise (· ≤ ·)) (hb : b.Pairwise (· ≤ ·)) : a = b :=
  List.Perm.eq_of_pairwise (fun _ _ _ _ h1 h2 => Int.le_antisymm h1 h2) ha hb hp
theorem IsRow.sorted {ns ns' : List Int} (r : IsRow ns) (hp : ns'.Perm ns) (hs : ns'.Pairwise (· ≤ ·)) : ns' = (List.range ns.length).map Int.ofNat := sorted_same (hp.trans r.2.2) hs (range_up _)
theorem IsRow.mem {ns : List Int} (r : IsRow ns) {i : Int} (h : i ∈ ns) : 0 ≤ i ∧ i < ns.length := by
  have := r.2.2.mem_iff.mp h
  obtain ⟨j, hj, rfl⟩ := List.mem_map.mp this
  have := List.mem_range.mp hj
  exact ⟨Int.natCast_nonneg _, by show (j : Int) < _; omega⟩
end MM
namespace MM
open PySem PySem.Spec PyProof.Rows L2 GxR
/-! ### rows known to have no dict of their own as keys (read only) -/
theorem key_ofF {P : Program} {w : World} {H : Hp} {h : Heap} {a : Addr} {ks : List Key} (ok : HOk P w H h) (e : FTup H a (ks.map kV)) : (tupleKind (mixKind P w)).is h ks a := by
  obtain ⟨ob, _, _, e⟩ := e
  obtain ⟨_, its, r, o, h1, h2, n, h3⟩ := (show ObjOk P w H h a (.tup (ks.map kV)) from rd_of ok (.inr ⟨ob, e⟩))
  exact ⟨o, its.toArray, n, h1, h2, h3, by simpa using items_are r⟩
def DGetF (H : Hp) (a : Addr) (y : V) (r : Option V) : Prop := ∃ kvs k b, H a = some (.dT kvs) ∧ y = .ref b ∧ FTup H b (k.map kV) ∧ r = valV kvs k
section
variable {X : Cx} {pins : List (Addr × Obj)} {σ : L2.St} {H : Hp} {s : Shared} {a : Addr} {y v : V} {u r : Value} {o : Option V} {A : Around} {E : Value → Shared → Prop}
theorem d_getItemF {Q : Value → Shared → Prop} (hu : A.units + 1 < cLine) (I : Inv X pins σ H s) (g : DGetF H a y (some v)) (ry : RelV y u) (h : ∀ w' s', Inv X pins σ H s' → RelV v w' → Q w' s') :
    wpAny (model X.prog X.w) A (getItem (.ref a) u) Q E s := by
  obtain ⟨kvs, k, b, e, ey, eb, l⟩ := g
  subst ey
  cases (show u = Value.ref b from ry)
  obtain ⟨z, hd, xs, rel, dd⟩ := dt_of I.hok e
  obtain ⟨w', hw, rw'⟩ := RelO.some_of (v := v) (o := (atKey xs k).map (·.2)) (by rw [l]; exact rel.val k)
  obtain ⟨p, hp, hp2⟩ := Option.map_eq_some_iff.mp hw
  refine wpAny_getItem_heap (tupleKind_room_in1 hu) (key_ofF I.hok eb) dd hp ?_
  rw [hp2]
  exact h w' _ (I.tok _) rw'
theorem d_inF {Q : Value → Shared → Prop} (hu : A.units + 1 < cLine) (I : Inv X pins σ H s) (g : DGetF H a y o) (ry : RelV y u) (h : ∀ s', Inv X pins σ H s' → Q (.bool o.isSome) s') :
    wpAny (model X.prog X.w) A (compareOp .In u (.ref a)) Q E s := by
  obtain ⟨kvs, k, b, e, ey, eb, l⟩ := g
  subst ey
  cases (show u = Value.ref b from ry)
  obtain ⟨z, hd, xs, rel, dd⟩ := dt_of I.hok e
  refine wpAny_in_heap (tupleKind_room_in1 hu) (key_ofF I.hok eb) hd dd ?_
  have q := (rel.val k).isSome_eq
  rw [Option.isSome_map] at q
  rw [← q, ← l]
  exact h _ (I.tok _)
end
def tDGetF (td ty : TE) : TE := fun σ H Q => td σ H fun x H1 => ty σ H1 fun y H2 => ∃ a v, x = .ref a ∧ DGetF H2 a y (some v) ∧ Q v H2
def tDInF (ty td : TE) : TE := fun σ H Q => ty σ H fun y H1 => td σ H1 fun x H2 => ∃ a o, x = .ref a ∧ DGetF H2 a y o ∧ Q (.bl o.isSome) H2
section
variable {X : Cx} {o i : Expr} {pos : Pos} {td ty : TE}
theorem pe_dgetF (hu : X.A.units + 1 < cLine) (ho : PE X o td) (hi : PE X i ty) (hs : NoSl i) : PE X (.Subscript o i pos) (tDGetF td ty) := by
  refine ⟨fun pins s σ H Q I h => ?_⟩
  refine subD_of PySem.F.slot_dict_getitem.lookup hs (thn (ho.run pins s σ H _ I h) fun u s1 ⟨x, H1, I1, rx, q1⟩ => thn (hi.run pins s1 σ H1 _ I1 q1) fun iv s2 ⟨y, H2, I2, ry, a, v, ex, g, q2⟩ => ?_)
  subst ex
  obtain rfl : u = Value.ref a := rx
  refine ⟨?_, d_getItemF hu I2 g ry fun w' s3 I3 rw' => ⟨v, H2, I3, rw', q2⟩⟩
  obtain ⟨kvs, k, b, e, _, _, _⟩ := g
  obtain ⟨_, _, xs, _, dd⟩ := dt_of I2.hok e
  exact dd.typeIs
theorem pc_dinF (hu : X.A.units + 1 < cLine) (hi : PE X i ty) (ho : PE X o td) : PC X .In i o (tDInF ty td) := by
  refine ⟨fun pins s σ H Q I h => ?_⟩
  refine thn (hi.run pins s σ H _ I h) fun iv s1 ⟨y, H1, I1, ry, q1⟩ => thn (ho.run pins s1 σ H1 _ I1 q1) fun u s2 ⟨x, H2, I2, rx, a, ov, ex, g, q2⟩ => ?_
  subst ex
  obtain rfl : u = Value.ref a := rx
  exact d_inF hu I2 g ry fun s3 I3 => ⟨.bl ov.isSome, H2, I3, rfl, q2⟩
end
/-! ### < of data -/
def rLtD (K : PySem.W.Frag) : R2 := fun x y H Q => ∃ d e, Dp K H x d ∧ Dp K H y e ∧ PySem.W.alike d e = true ∧ d ≠ .none ∧ min d.depth e.depth ≤ 63 ∧ Q (.bl (PySem.W.dataLt d e)) H
section
variable {X : Cx} {K : PySem.W.Frag}
theorem op_ltD (hu : X.A.units + 64 < cLine) : OpR X (compareOp .Lt) (rLtD X.K) := by
  intro pins s σ H x y v u Q I rx ry h
  obtain ⟨d, e, hd, he, ha, hn, hz, q⟩ := h
  obtain ⟨as, r1⟩ := Dp.reads I d x v hd rx
  obtain ⟨bs, r2⟩ := Dp.reads I e y u he ry
  exact PySem.W.lt_data r1 r2 ha hn (by omega) ⟨.bl _, H, I, rfl, q⟩
theorem k_ltD (hK : X.K = K) (hu : X.A.units + 64 < cLine) : OpR X (compareOp .Lt) (rLtD K) := hK ▸ op_ltD hu
end
/-! ### (number, list of numbers): the one less than the other -/
def pd (c : Int) (l : List Int) : PyData := .tuple [.int c, .list (l.map PyData.int)]
theorem alike_ints : ∀ xs ys : List Int, PySem.W.alikeAll (xs.map PyData.int) (ys.map PyData.int) = true
  | [], _ => by simp [PySem.W.alikeAll]
  | _ :: _, [] => by simp [PySem.W.alikeAll]
  | x :: xs, y :: ys => by
    have := alike_ints xs ys
    simp [PySem.W.alikeAll, PySem.W.alike, this]
theorem pd_alike (c c' : Int) (l l' : List Int) : PySem.W.alike (pd c l) (pd c' l') = true := by
  unfold pd
  simp [PySem.W.alike, PySem.W.alikeAll, alike_ints]
theorem eqv_intList (xs ys : List Int) : PyData.eqv (.list (xs.map PyData.int)) (.list (ys.map PyData.int)) = decide (xs = ys) := eqv_ints xs ys
theorem pd_lt (c c' : Int) (l l' : List Int) : PySem.W.dataLt (pd c l) (pd c' l') = decide (c < c' ∨ (c = c' ∧ l < l')) := by
  unfold pd
  have h1 : PySem.W.alike (PyData.int c) (PyData.int c') = true := by simp [PySem.W.alike]
  have h2 : PySem.W.alike (.list (l.map PyData.int)) (.list (l'.map PyData.int)) = true := by simp [PySem.W.alike, alike_ints]
  rw [PySem.W.dataLt_pair h1 h2, PySem.W.dataLt_int, eqv_intList, PySem.W.dataLt_list]
  have h3 := PySem.W.dataLt_ints l l'
  unfold PySem.W.rowLt at h3
  rw [h3]
  have h4 : PyData.eqv (.int c) (.int c') = decide (c = c') := by
    simp only [PyData.eqv]; exact Bool.eq_iff_iff.mpr (by simp)
  rw [h4]
  by_cases e : c = c'
  · subst e
    by_cases e2 : l = l'
    · subst e2
      simp [List.lt_irrefl]
    · simp [e2]
  · simp [e]
end MM
namespace MM
open PySem PySem.Spec PyProof.Rows L2 GxR
/-! ### tuple(range(a, b)), known to have no dict -/
def tTupRgF (te : L2.St → Hp → (Int → Int → Hp → Prop) → Prop) : TE := fun σ H Q => te σ H fun a b H1 => RgOk a b ∧ ∀ q H', Ex H1 H' → H1 q = none → FTup H' q (rgV a b) → Q (.ref q) H'
theorem pe_tupRgF {X : Cx} {e : Expr} {te : L2.St → Hp → (Int → Int → Hp → Prop) → Prop} {p pos : Pos} (hc : X.calm = true) (hg : Gl X "tuple") (hm : X.mg "tuple" = none) (he : PRg X e te) (na : starEach [e] X.env = (false, eval e X.env) :: starEach [] X.env := by rfl) : PE X (.Call (.Name "tuple" p) [e] [] pos) (tTupRgF te) := by
  refine ⟨fun pins s σ H Q I h => ?_⟩
  refine Call_ (ld_blt I hg hm boot_tuple (PyProof.Rows.callWith_type1 (args_cons (thn (he pins s σ H _ I h) fun x s1 ⟨r, a, b, t, u, v, H1, ex, hr, I1, ok, q⟩ => args_nil ?_) na) na))
  subst ex
  obtain ⟨b1, b2, b3, b4, b5⟩ := ok
  refine call_tuple_range (n := (b - a).toNat) (I1.ok.hd hc) hr (small_one b1 b2 b3 b4) (rangeSize_nat a b) b5 fun h' tk acc hk hi => ?_
  have I2 : Inv X pins σ H1 { s1 with heap := h', toks := tk } := I1.kept hk
  obtain ⟨J, x, hf, f⟩ := laidF I2 (by rw [rgV_length, sizeLine_eq]; omega) (vals_rg hi)
  rw [Array.toArray_toList] at J x f
  exact ⟨.ref h'.objs.size, _, J, rfl, q _ _ x hf f⟩
end MM
namespace MM
open PySem PySem.Spec PyProof.Rows L2 GxR
/-! ### a def called by places and by keywords: one body for both -/
def gI1 {α : Type} : List α → List α → List α
  | [], [a] => [a]
  | _, _ => []
def gX2 {α : Type} : List α → List α → List α
  | [], [a, b] => [b, a]
  | _, _ => []
def gI2 {α : Type} : List α → List α → List α
  | [], [a, b] => [a, b]
  | _, _ => []
theorem gI1_rel {vs : List V} {us : List Value} {zs : List V} {ws : List Value} (a : Vals vs us) (b : Vals zs ws) : Vals (gI1 vs zs) (gI1 us ws) := by
  cases a with
  | nil => cases b with
    | nil => exact .nil
    | cons r t => cases t with
      | nil => exact .cons r .nil
      | cons _ _ => exact .nil
  | cons _ _ => cases b <;> exact .nil
theorem gX2_rel {vs : List V} {us : List Value} {zs : List V} {ws : List Value} (a : Vals vs us) (b : Vals zs ws) : Vals (gX2 vs zs) (gX2 us ws) := by
  cases a with
  | nil => cases b with
    | nil => exact .nil
    | cons r t => cases t with
      | nil => exact .nil
      | cons r2 t => cases t with
        | nil => exact .cons r2 (.cons r .nil)
        | cons _ _ => exact .nil
  | cons _ _ => cases b <;> exact .nil
theorem gI2_rel {vs : List V} {us : List Value} {zs : List V} {ws : List Value} (a : Vals vs us) (b : Vals zs ws) : Vals (gI2 vs zs) (gI2 us ws) := by
  cases a with
  | nil => cases b with
    | nil => exact .nil
    | cons r t => cases t with
      | nil => exact .nil
      | cons r2 t => cases t with
        | nil => exact .cons r (.cons r2 .nil)
        | cons _ _ => exact .nil
  | cons _ _ => cases b <;> exact .nil
section
variable {P : Program} {w : World} {K : PySem.W.Frag} {mg : Str → Option Value} {base : Heap} {f : Addr} {fd : FuncData} {x : Str} {st : Stmt} {ps N ks : List Str} {k : Nat} {sp : Sp} {gg : List Value → List Value → List Value} {gV : List V → List V → List V}
theorem callDK (F : FnP K x st f fd) (g : mg x = some (.ref f)) (S : FnScope N ps (defScope st))
    (hb : ∀ (kV doc pm : Value) (an : Option Addr) (cdv ct : Value) (us : List Value), us.length = ps.length → bindArgs (PySem.W.fnOf x x (defArgs st) (defBody st) (defScope st) .none kV doc pm an cdv ct) ⟨us, []⟩ = pure (ps.zip us))
    (hk : ∀ (kV doc pm : Value) (an : Option Addr) (cdv ct : Value) (us ws : List Value), (gg us ws).length = ps.length → bindArgs (PySem.W.fnOf x x (defArgs st) (defBody st) (defScope st) .none kV doc pm an cdv ct) ⟨us, ks.zip ws⟩ = pure (ps.zip (gg us ws)))
    (rel : ∀ {vs : List V} {us : List Value} {zs : List V} {ws : List Value}, Vals vs us → Vals zs ws → Vals (gV vs zs) (gg us ws))
    (len : ∀ vs H Q E, sp vs H Q E → vs.length = ps.length)
    (body : ∀ (cdv : Value) (A : Around) (outer : List Env) (s : Shared) (H : Hp) (vs : List V) (Q : VK) (E : XK), (∀ oc od fd osl, K.lookup f = some ⟨oc, od, .func fd, osl⟩ → fd.code = cdv) → Room k (A.deeper (envOfC x (defScope st) s.heap.objs.size f cdv)) → (A.deeper (envOfC x (defScope st) s.heap.objs.size f cdv)).guards = some [] → sp vs H Q E →
      ∃ t, PSs (cxOf CX0 P w K mg base N x (defScope st) f cdv A outer s H E).nox (defBody st) t ∧ t { nx := fun _ H' => Q .non H', rt := Q } (start N vs) H) : CallD P w K mg base (k + 1) x ps sp ∧ CallK P w K mg base (k + 1) x ps ks gg gV sp :=
  ⟨callD F g S hb len body, callK F g S hk rel len body⟩
end
end MM
namespace MM
open PySem PySem.Spec PyProof.Rows L2 GxR
section
variable {X : Cx} {K : PySem.W.Frag} {k : Nat}
theorem room65 (h : Room k X.A) : X.A.units + 65 < cLine := by
  have := h.un
  omega
theorem k_inD (hK : X.K = K) (hu : X.A.units + 65 < cLine) : OpR X (compareOp .In) (rInD K) := hK ▸ op_inD hu
theorem k_notInD (hK : X.K = K) (hu : X.A.units + 65 < cLine) : OpR X (compareOp .NotIn) (rNotInD K) := hK ▸ op_notInD hu
end
end MM
namespace MM
open PySem PySem.Spec PyProof.Rows L2 GxR
/-! ### what is told is locked for good (a dict that is walked and that nobody else has) -/
section
variable {X : Cx} {e : Expr} {te : TE}
def tFrzE (te : TE) : TE := fun σ H Q => te σ H fun x H1 => ∃ d u, x = .ref d ∧ H1 d = some u ∧ Mut (some u) ∧ ∀ od, Q x (upd H1 d (.frz od u))
theorem pe_frz (he : PE X e te) : PE X e (tFrzE te) := by
  refine ⟨fun pins s σ H Q I hw => ?_⟩
  refine thn (he.run pins s σ H _ I hw) fun v s1 ⟨x, H1, I1, r, d, u, ex, hd, mu, q⟩ => ?_
  obtain ⟨od, I2⟩ := I1.lock hd mu
  exact ⟨x, _, I2, r, q od⟩
end
/-! ### dicts with rows as keys, held and changed -/
section
variable {B : Addr → Prop} {H H' H1 : Hp} {p d : Addr} {kvs kvs' : List (List Key × V)} {o : HO}
theorem ex_setD (h : H p = some (.dT kvs)) : ExB (fun a => a = p) H (upd H p o) :=
  ⟨fun a o q f => by rw [upd_ne (fun z => by rw [z, h] at q; cases q; exact f)]; exact q, fun a o q _ n => by rw [upd_ne n]; exact q, fun P ps q => ⟨ps, by rw [upd_ne (fun z => by rw [z, h] at q; cases q)]; exact q, id⟩,
    fun a q z => by by_cases e : a = p; (rw [e, upd_same] at z; cases z); rw [upd_ne e] at z; exact q z⟩
theorem ExB.dct (e : ExB B H H') (h : H p = some (.dT kvs)) (n : ¬ B p) : H' p = some (.dT kvs) := e.keep _ _ h (fun _ z => nomatch z) n
theorem Ex.dct (e : Ex H H') (h : H p = some (.dT kvs)) : H' p = some (.dT kvs) := e.keep _ _ h (fun _ z => nomatch z) id
theorem ExB.frzT {od : Obj} {u : HO} (e : ExB B H H') (h : H p = some (.frz od u)) : H' p = some (.frz od u) := e.fix _ _ h trivial
theorem mut_dT : Mut (some (HO.dT kvs)) := trivial
end
end MM
namespace MM
open PySem PySem.Spec PyProof.Rows L2 GxR
/-! ### {k: v for target in iter}: the keys are tuples that the program made -/
section
variable {Y : Cx} {ps : List (Addr × Obj)} {τ : L2.St} {G : Hp} {t : Shared} {E : Value → Shared → Prop}
theorem d_storeT {D b : Addr} {ent : List (List Key × V)} {kk : List Key} {y : V} {r : Value} {Q : Unit → Shared → Prop} (hu : Y.A.units + 1 < cLine) (J : Inv Y ps τ G t) (eD : G D = some (.dT ent)) (eb : G b = some (.tup (kk.map kV))) (hz : ent.length < sizeLine)
    (rr : RelV y r) (q : ∀ t', Inv Y ps τ (upd G D (.dT (putK ent kk y))) t' → Q () t') : wpAny (model Y.prog Y.w) Y.A (dictSet D (.ref b) r) Q E t := by
  obtain ⟨z0, nS, old, both, isD⟩ := dt_of J.hok eD
  refine wpAny_dictSet_heap (hsz := (Paired.length both) ▸ z0) (show (tupleKind (mixKind Y.prog Y.w)).room Y.A from (show Y.A.units < cLine by omega)) (key_of J.hok eb) isD fun hp new sb => q _ ?_
  obtain ⟨ob, e1, e2, got, c1, c2, c3, _, c4⟩ := new
  have more : (putK ent kk y).length ≤ sizeLine := Nat.le_trans (length_putK ent kk y) hz
  exact d_write J (by rw [eD]; trivial) sb ⟨ob, got⟩ ⟨more, nS, _, (KT.put both kk eb rr).keeps fun c ys ec => (upd_ne (ne_of ec eD (fun z => nomatch z))).trans ec, ob, e1, e2, got, c1, c2, c3, c4⟩
end
/-- what the block of such a comprehension is asked -/
def tDcT (wi : TI) (g : TG) (tt : TT) (tk tv : TE) (own : List Nat) : TE := fun σ H Q => wi σ H fun J Ha => ∀ D, Ha D = none → ∃ Go : Nat → Nat → Hp → Prop, (∃ m, Go 0 m (upd Ha D (.dT []))) ∧
  ∀ i m Hb, Go i m Hb → (J.stop i Hb ∧ Q (.ref D) Hb) ∨ (J.go i Hb ∧ ∃ Af : Hp → Prop, (∀ Hc, Af Hc → ∃ m', m' < m ∧ Go (i + 1) m' Hc) ∧ ∀ x Hc, J.yld i Hb x Hc → g x (wipe σ own) Hc fun τ Hd => wipe τ own = wipe σ own ∧ tt τ Hd fun c He =>
    if c = true then tk τ He fun a Hf => tv τ Hf fun b Hg => ∃ (ent : List (List Key × V)) (kk : List Key) (q : Addr), a = .ref q ∧ Hg q = some (.tup (kk.map kV)) ∧ Hg D = some (.dT ent) ∧ ent.length < sizeLine ∧ Af (upd Hg D (.dT (putK ent kk b))) else Af He)
theorem pe_dcT {X : Cx} {kx vx tg iter : Expr} {ifs : List Expr} {scope : Scope} {own : List (Str × Nat)} {pos : Pos} {wi : TI} {g : TG} {tt : TT} {tk tv : TE} (hu : X.A.units + 1 < cLine) (hc : X.calm = true) (hN : X.N.Nodup) (hi : PI X tg iter wi) (ok : BlkOk X.N X.env.scope scope own)
    (hg : ∀ s H C cl fp, PG (X.blk s H scope (compEnvC scope cl C X.env) fp) tg g) (ht : ∀ s H C cl fp, PTs (X.blk s H scope (compEnvC scope cl C X.env) fp) ifs tt)
    (hk : ∀ s H C cl fp, PE (X.blk s H scope (compEnvC scope cl C X.env) fp) kx tk) (hv : ∀ s H C cl fp, PE (X.blk s H scope (compEnvC scope cl C X.env) fp) vx tv)
    (hs : ∀ x, foldedSetIterable iter X.env x = pure x := by intro _; rfl) : PE X (.DictComp kx vx [⟨tg, iter, ifs, 0⟩] scope pos) (tDcT wi g tt tk tv (own.map (·.2))) := by
  constructor
  intro pins s σ H Q I0 asked
  have freeOk : ∀ y ∈ scope.names, y.2 = .free → ∃ c, X.env.cells.lookup y.1 = some c := fun y hy e => I0.ok.has _ ((ok.free y hy e).imp id id)
  rw [arm_eval_DictComp]
  apply wpAny_comprehension_free (use := none) rfl hs (closure_ok freeOk) ok.kind (fun y hy e => by rw [ok.uniq y hy, e])
  refine thn (hi.run pins s σ H _ I0 asked) fun src sA iterd => thn iterd fun itv sB got => ?_
  obtain ⟨it, fp, tn, J, Ha, rfl, IB, T, stB, foot, ask⟩ := got
  refine wpAny_newObj_type ?_
  refine newEnv_comp ?_
  -- the new dict
  obtain ⟨D, hD⟩ : ∃ D, sB.heap.objs.size = D := ⟨_, rfl⟩
  rw [hD]
  obtain ⟨Go, ⟨first, go0⟩, turns⟩ := ask D (IB.hok.fresh (Nat.le_of_eq hD))
  obtain ⟨sC, hsC⟩ : ∃ sC : Shared, sC = { sB with heap := sB.heap.push { cls := .type "dict", data := .dict #[] } } := ⟨_, rfl⟩
  have heapC : sC.heap = sB.heap.push { cls := .type "dict", data := .dict #[] } := by rw [hsC]
  have IC : Inv X pins σ (upd Ha D (.dT [])) sC := by
    rw [hsC, ← hD]
    exact IB.laid (t' := sB.toks) (fun b o e => Heap.get?_push_of_some _ e) (Nat.le_refl _) (dt_empty sB.heap IB.big)
  have inC : ∀ b o, sB.heap.get? b = some o → sC.heap.get? b = some o := fun b o e => by rw [heapC]; exact Heap.get?_push_of_some _ e
  have footC : ∀ b ∈ fp, FpOk X pins (upd Ha D (.dT [])) b ∧ b < sC.heap.objs.size := by
    intro b hb
    obtain ⟨o, eo, _⟩ := T.obj _ _ stB b hb
    have lt : b < sB.heap.objs.size := Heap.lt_size eo
    refine ⟨⟨(upd_ne (show b ≠ D from fun z => Nat.lt_irrefl _ (by rw [← z] at hD; exact hD ▸ lt))).trans (foot b hb).1, (foot b hb).2⟩, ?_⟩
    rw [heapC, Heap.size_push]
    exact Nat.lt_succ_of_lt lt
  have stC : tn 0 sC.heap := T.keep _ _ _ stB fun b _ o => inC b o
  -- its block
  have started := block_start IC ok hN footC
  obtain ⟨cl, hcl⟩ : ∃ cl, cellsFrom (sC.heap.objs.size + 1) scope.names (cloFrom X.env.cells scope.names []) = cl := ⟨_, rfl⟩
  have goal' : codeAny (model X.prog X.w) X.A (.compStart (.DictComp kx vx [⟨tg, iter, ifs, 0⟩] scope pos) 0 (.ref it) (.ref D) (compEnvC scope cl sC.heap.objs.size X.env)) (compPost (model X.prog X.w) X.A X.xe none (fun v t' => ∃ x H', Inv X pins σ H' t' ∧ RelV x v ∧ Q x H') (.ref D) sC.heap.objs.size)
      { sC with heap := pushCells (sC.heap.push { cls := .type "dict", data := .dict #[] }) scope.names } := by
    rw [hcl] at started
    obtain ⟨sD, hsD⟩ : ∃ sD : Shared, sD = { sC with heap := pushCells (sC.heap.push { cls := .type "dict", data := .dict #[] }) scope.names } := ⟨_, rfl⟩
    rw [← hsD] at started ⊢
    have stD : tn 0 sD.heap := T.keep _ _ _ stC fun b _ o e => by rw [hsD]; exact pushCells_keeps _ _ _ _ (Heap.get?_push_of_some _ e)
    have targetP := hg sC (upd Ha D (.dT [])) sC.heap.objs.size cl fp
    have testsP := ht sC (upd Ha D (.dT [])) sC.heap.objs.size cl fp
    have keyP := hk sC (upd Ha D (.dT [])) sC.heap.objs.size cl fp
    have valP := hv sC (upd Ha D (.dT [])) sC.heap.objs.size cl fp
    obtain ⟨ce, hce⟩ : ∃ ce, compEnvC scope cl sC.heap.objs.size X.env = ce := ⟨_, rfl⟩
    have locC : ce.locals = sC.heap.objs.size := by rw [← hce]; rfl
    rw [hce] at started targetP testsP keyP valP ⊢
    obtain ⟨Hn, hHn⟩ : ∃ Hn, upd Ha D (.dT []) = Hn := ⟨_, rfl⟩
    rw [hHn] at IC started targetP testsP keyP valP go0 footC
    have still : ∀ {τ : L2.St} {G : Hp} {t : Shared}, Inv (X.blk sC Hn scope ce fp) [] τ G t → (∀ b ∈ fp, G b = none) → ∀ b ∈ fp, FpOk (X.blk sC Hn scope ce fp) [] G b := by
      intro τ G t K0 none b hb
      have fr := K0.ok.exf b hb
      exact ⟨none b hb, fr.1, K0.ok.exfs b hb, .inl hb, fun x c => fr.2 x c, fun p hp => by simp at hp⟩
    have looped : codeAny (model X.prog X.w) X.A (.compLoop (.DictComp kx vx [⟨tg, iter, ifs, 0⟩] scope pos) 0 (.ref it) (.ref D) ce) (compPost (model X.prog X.w) X.A X.xe none (fun v t' => ∃ x H', Inv X pins σ H' t' ∧ RelV x v ∧ Q x H') (.ref D) sC.heap.objs.size) sD := by
      apply compLoop_anyD (fun left t => ∃ i G, Inv (X.blk sC Hn scope ce fp) [] (wipe σ (own.map (·.2))) G t ∧ tn i t.heap ∧ (∀ b ∈ fp, G b = none) ∧ Go i left G) (n := first) (h := ⟨0, Hn, started, stD, fun b hb => (footC b hb).1.1, go0⟩)
      rintro left t ⟨i, G, IG, stG, noG, goG⟩
      cases turns i left G goG with
      | inl ends =>
        refine thnF (T.done (X.blk sC Hn scope ce fp) rfl rfl rfl hc i [] t _ G (fun _ _ => False) IG (still IG noG) stG ends.1) fun r t1 ⟨er, IT⟩ => ?_
        rw [er]
        have back : Inv X pins σ G t1 := IC.call' (ch := fp) IT.os IT.base IT.hok IT.bare fun b hb => by
          have f := (footC b hb).1.2
          exact ⟨f.2.2.1, f.1, f.2.2.2.1, f.2.2.2.2⟩
        have unseen : G sC.heap.objs.size = none := locC ▸ (show G ce.locals = none from IT.free)
        obtain ⟨m, hm, _⟩ := IT.loc
        have hm : t1.heap.Ns sC.heap.objs.size m := locC ▸ (show t1.heap.Ns ce.locals m from hm)
        obtain ⟨f0, f1, f2, f3, f4, f5⟩ := IC.fpOk (H' := G) (Nat.le_refl _) unseen
        exact ⟨m, hm, fun h2 sb => ⟨.ref D, G, back.turned (t' := t1.toks) (fun b o hb e => (sb.2 b hb).trans e) f0 f1 f3 f4 f5, rfl, ends.2⟩⟩
      | inr goes =>
        obtain ⟨on, Af, less, turn⟩ := goes
        refine thnF (T.item (X.blk sC Hn scope ce fp) rfl rfl rfl hc i [] t _ G (fun _ _ => False) IG (still IG noG) stG on) fun r t1 ⟨u, er, letGo⟩ => ?_
        rw [er]
        refine thnF letGo fun _ t2 ⟨x, G2, I2, rx, yx, st2, no2⟩ => ?_
        have held := I2.pinned (still I2 no2) (T.obj _ _ st2)
        -- what a turn leaves is where the next one begins
        have next : ∀ {τ : L2.St} {G' : Hp} {t' : Shared}, wipe τ (own.map (·.2)) = wipe σ (own.map (·.2)) → Inv (X.blk sC Hn scope ce fp) ([] ++ pinsAt fp t2.heap) τ G' t' → Af G' →
            ∃ m, m < left ∧ ∃ i G, Inv (X.blk sC Hn scope ce fp) [] (wipe σ (own.map (·.2))) G t' ∧ tn i t'.heap ∧ (∀ b ∈ fp, G b = none) ∧ Go i m G := by
          intro τ G' t' ew I' af
          obtain ⟨m, lt, go'⟩ := less G' af
          have pinned : ∀ b ∈ fp, ∀ o, t2.heap.get? b = some o → t'.heap.get? b = some o ∧ G' b = none := by
            intro b hb o e
            have both := I'.pin (b, o) (List.mem_append_right _ (List.mem_append_right _ (mem_pinsAt hb e)))
            exact ⟨both.1, both.2.1⟩
          refine ⟨m, lt, i + 1, G', (I'.unpinned (pins := [])).weak (by rw [← ew, wipe_length]) (fun j v e => (wipe_some (ew ▸ e)).1), T.keep _ _ _ st2 fun b hb o e => (pinned b hb o e).1, ?_, go'⟩
          intro b hb
          obtain ⟨o, eo, _⟩ := T.obj _ _ st2 b hb
          exact (pinned b hb o eo).2
        refine thnF (targetP.run _ t2 _ G2 x u _ held rx (turn x G2 yx)) fun _ t3 ⟨τ, G3, I3, ew, ask3⟩ => thnF (testsP.run _ t3 τ G3 _ I3 ask3) fun c t4 ⟨G4, I4, ask4⟩ => ?_
        cases c with
        | true =>
          rw [if_pos rfl] at ask4
          rw [if_pos rfl]
          refine thnF (keyP.run _ t4 τ G4 _ I4 ask4) fun ku t5 ⟨yk, G5, I5, rk5, ask5⟩ => thnF (valP.run _ t5 τ G5 _ I5 ask5) fun vu t6 ⟨yv, G6, I6, rv6, ent, kk, q, eyk, eq, eD, hz, af⟩ => ?_
          rw [eyk] at rk5
          cases (show ku = Value.ref q from rk5)
          exact d_storeT (Y := X.blk sC Hn scope ce fp) hu I6 eD eq hz rv6 fun t7 I7 => next ew I7 af
        | false =>
          rw [if_neg (fun z => nomatch z)] at ask4
          rw [if_neg (fun z => nomatch z)]
          exact next ew I4 ask4
    exact codeAny_compStart_dict looped (T.self X.A 0 _ _ _ stD looped)
  rw [← hcl] at goal'
  subst hsC
  exact goal'
/-- over what is walked: Pv by the turn and the heap, the new dict at D within -/
theorem dcT_it {J : It} {n : Nat} {G : Hp → Prop} {Y : Nat → Hp → V → Hp → Prop} (w : Walk J n G Y) {g : TG} {tt : TT} {tk tv : TE} {own : List Nat} {σ : L2.St} {Ha : Hp} {D : Addr} {Qd : Hp → Prop} (Pv : Nat → Hp → Prop) (h0 : Pv 0 (upd Ha D (.dT []))) (hG : ∀ i H, i ≤ n → Pv i H → G H)
    (hs : ∀ i x Hb Hc, i < n → Pv i Hb → Y i Hb x Hc → g x (wipe σ own) Hc fun τ Hd => wipe τ own = wipe σ own ∧ tt τ Hd fun c He => if c = true then tk τ He fun a Hf => tv τ Hf fun b Hg =>
      ∃ (ent : List (List Key × V)) (kk : List Key) (q : Addr), a = .ref q ∧ Hg q = some (.tup (kk.map kV)) ∧ Hg D = some (.dT ent) ∧ ent.length < sizeLine ∧ Pv (i + 1) (upd Hg D (.dT (putK ent kk b))) else Pv (i + 1) He) (hd : ∀ H, Pv n H → Qd H) :
    ∃ Go : Nat → Nat → Hp → Prop, (∃ m, Go 0 m (upd Ha D (.dT []))) ∧ ∀ i m Hb, Go i m Hb → (J.stop i Hb ∧ Qd Hb) ∨ (J.go i Hb ∧ ∃ Af : Hp → Prop, (∀ Hc, Af Hc → ∃ m', m' < m ∧ Go (i + 1) m' Hc) ∧ ∀ x Hc, J.yld i Hb x Hc → g x (wipe σ own) Hc fun τ Hd => wipe τ own = wipe σ own ∧ tt τ Hd fun c He =>
      if c = true then tk τ He fun a Hf => tv τ Hf fun b Hg => ∃ (ent : List (List Key × V)) (kk : List Key) (q : Addr), a = .ref q ∧ Hg q = some (.tup (kk.map kV)) ∧ Hg D = some (.dT ent) ∧ ent.length < sizeLine ∧ Af (upd Hg D (.dT (putK ent kk b))) else Af He) := by
  refine ⟨fun i m H => m + i = n ∧ Pv i H, ⟨n, rfl, h0⟩, fun i m Hb ⟨hm, p⟩ => ?_⟩
  rcases Nat.lt_or_ge i n with lt | ge
  · exact .inr ⟨w.goes i Hb lt (hG i Hb (by omega) p), Pv (i + 1), fun Hc p' => ⟨m - 1, by omega, by omega, p'⟩, fun x Hc y => hs i x Hb Hc lt p (w.yields i Hb x Hc lt (hG i Hb (by omega) p) y)⟩
  · obtain rfl : i = n := by omega
    exact .inl ⟨w.stops Hb (hG i Hb (by omega) p), hd Hb p⟩
end MM
namespace MM
open PySem PySem.Spec PyProof.Rows L2 GxR
/-! ### any(e for x in ..), all(e for x in ..): the element told as any expression, in the generator's own context -/
theorem inv_gens {X : Cx} {pins : List (Addr × Obj)} {σ : L2.St} {H : Hp} {s s' : Shared} (I : Inv X pins σ H s) (hh : s'.heap = s.heap) (ho : s'.os = s.os) (hb : AllBare s'.gens) : Inv X pins σ H s' :=
  ⟨I.ok, ho.trans I.os, hb, by rw [hh]; exact I.base, by rw [hh]; exact I.loc, by rw [hh]; exact I.cell, I.free, I.freeC, by rw [hh]; exact I.pin, by rw [hh]; exact I.hok, I.len⟩
/-- the context of a generator's frame over a def's -/
abbrev gxC (X : Cx) (s : Shared) (H : Hp) (N : List Str) (cenv : Env) (A : Around) (fp : List Addr) : Cx :=
  { X with A := A, N := N, s_0 := s, H_0 := H, env := cenv, outer := X.stack, stack := cenv :: X.stack, ex := fp, fn := fun _ => false, calm := true, pn := [], xe := fun _ _ => False }
/-- the generator's names: its own x, those captured with their places in the def's -/
structure GenK (N : List Str) (sc scope : Scope) (x : Str) (caps : List (Str × Nat)) : Prop where
  kind : scope.kind = .function
  co : scope.isCoroutine = false
  cell : ∀ y ∈ scope.names, y.2 ≠ .cell
  dot : scope.names.lookup (".0" : Str) = some NameKind.local
  loc : scope.names.lookup x = some .local
  uniq : ∀ y ∈ scope.names, scope.names.lookup y.1 = some y.2
  free : ∀ y ∈ scope.names, y.2 = .free → sc.names.lookup y.1 = some .cell ∨ sc.names.lookup y.1 = some .free
  at_ : ∀ p ∈ caps, N[p.2]? = some p.1 ∧ scope.names.lookup p.1 = some .free
  nd : (x :: caps.map (·.1)).Nodup
def gst (σ : L2.St) (caps : List (Str × Nat)) : L2.St := none :: caps.map fun p => (σ[p.2]?).join
section
variable {X : Cx} {pins : List (Addr × Obj)} {σ : L2.St} {H : Hp} {s : Shared} {scope : Scope} {x : Str} {caps : List (Str × Nat)} {fp : List Addr}
theorem gst_some {j : Nat} {v : V} (h : (gst σ caps)[j]? = some (some v)) : ∃ i p, j = i + 1 ∧ caps[i]? = some p ∧ σ[p.2]? = some (some v) := by
  cases j with
  | zero => cases h
  | succ i =>
    rw [gst, List.getElem?_cons_succ, List.getElem?_map] at h
    cases q : caps[i]? with
    | none => rw [q] at h; cases h
    | some p =>
      rw [q] at h
      refine ⟨i, p, rfl, q, ?_⟩
      simp only [Option.map_some, Option.some.injEq] at h
      cases r : σ[p.2]? with
      | none => rw [r] at h; cases h
      | some w => rw [r] at h; simp only [Option.join] at h; first | (rw [show w = some v from h]) | (cases h; rfl)
theorem gen_start {A : Around} {code : Value} {it : Value} {h' : Heap} {go : Obj} {gs : GenState} {tk : Nat} (I : Inv X pins σ H s) (G : GenK X.N X.env.scope scope x caps) (hfp : ∀ b ∈ fp, FpOk X pins H b ∧ b < s.heap.objs.size)
    (hA : A.handled = none) (hF : A.frames = some (genEnv scope (cloFrom X.env.cells scope.names []) s.heap.objs.size code builtinsNs X.env :: X.stack)) (hgs : gs.bare = true) (hgo : ∀ v, go.data ≠ .cell v) (hgf : go.isFreed = false)
    (hn' : h'.Ns s.heap.objs.size (fun y => if y = ".0" then some it else none)) (hs' : Heap.SameBut s.heap.objs.size (s.heap.push { cls := .type "frame", data := .dict #[] }) h') :
    Inv (gxC X s H (x :: caps.map (·.1)) (genEnv scope (cloFrom X.env.cells scope.names []) s.heap.objs.size code builtinsNs X.env) A fp) [(h'.objs.size, go)] (gst σ caps) H { s with gens := s.gens.push gs, toks := tk, heap := h'.push go } := by
  have hfree : ∀ y ∈ scope.names, y.2 = .free → ∃ c, X.env.cells.lookup y.1 = some c := fun y hy e => by
    rcases G.free y hy e with k | k
    · exact I.ok.has _ (.inl k)
    · exact I.ok.has _ (.inr k)
  generalize hcenv : genEnv scope (cloFrom X.env.cells scope.names []) s.heap.objs.size code builtinsNs X.env = cenv at hF
  have hsz' : h'.objs.size = s.heap.objs.size + 1 := by rw [hs'.1, Heap.size_push]
  have keep' : ∀ b u, s.heap.get? b = some u → h'.get? b = some u := fun b u e => hs'.extBut b u (Nat.ne_of_lt (Heap.lt_size e)) (Heap.get?_push_of_some _ e)
  have kp : ∀ b o, s.heap.get? b = some o → (h'.push go).get? b = some o := fun b o e => Heap.get?_push_of_some _ (keep' b o e)
  have hL : cenv.locals = s.heap.objs.size := by rw [← hcenv]; rfl
  have hcl : cenv.cells = cloFrom X.env.cells scope.names [] := by rw [← hcenv]; rfl
  have hsc : cenv.scope = scope := by rw [← hcenv]; rfl
  have hfr : cenv.frame = some cenv.locals := by rw [← hcenv]; rfl
  have cm : ∀ {y c}, (y, c) ∈ cloFrom X.env.cells scope.names [] → X.env.cells.lookup y = some c ∧ c < s.heap.objs.size := fun {y c} hm => by
    rcases cloFrom_mem hm with hm | ⟨h1, rfl⟩
    · cases hm
    · obtain ⟨c, hc⟩ := hfree _ h1 rfl
      rw [hc]
      obtain ⟨w, z⟩ := I.cell _ _ hc
      exact ⟨rfl, z.lt⟩
  have mem : ∀ {y c}, cenv.cells.lookup y = some c → X.env.cells.lookup y = some c ∧ c < s.heap.objs.size := fun {y c} e => by
    rw [hcl] at e
    exact cm (PySem.mem_of_lookup e)
  have look : ∀ {y}, scope.names.lookup y = some .free → ∃ c, cenv.cells.lookup y = some c ∧ X.env.cells.lookup y = some c := fun {y} hl => by
    have hy : (y, NameKind.free) ∈ scope.names := PySem.mem_of_lookup hl
    obtain ⟨c', e'⟩ := mem_lookup (cloFrom_has (cells := X.env.cells) (acc := []) hy)
    rw [← hcl] at e'
    exact ⟨c', e', (mem e').1⟩
  have stkne : ∀ b ∈ frs X.stack, b < s.heap.objs.size := fun b hb => by
    rcases List.mem_cons.mp (I.stkSub b hb) with z | z
    · rw [z]; exact I.lt
    · exact Nat.lt_of_not_le fun hz => I.nofs hz z
  have okB : (gxC X s H (x :: caps.map (·.1)) cenv A fp).Ok := by
    refine ⟨I.ok.mod, by show cenv.scope.kind = _; rw [hsc]; exact G.kind, by show cenv.globals = _; rw [← hcenv]; exact I.ok.glob, by show cenv.builtins = _; rw [← hcenv]; rfl, by show s.heap.objs.size ≤ cenv.locals; rw [hL]; exact Nat.le_refl _,
      fun y z c e1 e2 => I.ok.inj y z c (mem e1).1 (mem e2).1, fun y hy => ?_, fun y c z e => ?_, fun _ => hA, hF, .inr ⟨rfl, hfr⟩, fun b hb => ⟨?_, fun y c e z => ?_⟩, I.bs, Nat.le_trans I.ok.bsz I.sz, fun b o e hb => ?_, fun b hb z => ?_, I.stack, I.stkFree⟩
    · show ∃ c, cenv.cells.lookup y = some c
      have hy : cenv.kindOf y = some .cell ∨ cenv.kindOf y = some .free := hy
      unfold Env.kindOf at hy
      rw [hsc] at hy
      rcases hy with hy | hy
      · exact absurd rfl (G.cell _ (PySem.mem_of_lookup hy))
      · obtain ⟨c, h1, _⟩ := look hy
        exact ⟨c, h1⟩
    · cases z
    · show b ≠ cenv.locals
      rw [hL]; exact Nat.ne_of_lt (hfp b hb).2
    · exact (hfp b hb).1.2.2.2.2.1 y c (mem (show cenv.cells.lookup y = some c from e)).1 z
    · rcases (hfp b hb).1.2.2.2.1 with z | z
      · exact I.ok.noex b o e z
      · exact absurd (Nat.lt_of_lt_of_le (Heap.lt_size e) (Nat.le_trans I.ok.bsz z)) (Nat.lt_irrefl _)
    · rcases List.mem_cons.mp (I.stkSub b z) with z | z
      · exact (hfp b hb).1.2.1 z
      · exact (hfp b hb).1.2.2.1 z
  refine ⟨okB, rfl, I.bare.push hgs, Un.kept kp, ⟨fun y => if y = ".0" then some it else none, ?_, fun i y av e1 e2 e3 => ?_⟩, fun y c e => ?_, ?_, fun y c e => ?_, fun p hp => ?_, I.hok.kept kp, by simp [gst]⟩
  · show Heap.Ns _ cenv.locals _
    rw [hL]
    exact hn'.push _
  · obtain ⟨j, p, rfl, hp, hv⟩ := gst_some e2
    have e1 : (caps.map (·.1))[j]? = some y := e1
    rw [List.getElem?_map, hp] at e1
    simp only [Option.map_some, Option.some.injEq] at e1
    subst e1
    obtain ⟨hN, hf⟩ := G.at_ p (List.mem_of_getElem? hp)
    obtain ⟨m, hn, hl⟩ := I.loc
    have hk := G.free _ (PySem.mem_of_lookup hf) rfl
    have hvis : Vis X.env.scope p.1 := hk.elim (fun k => .inr (.inl k)) (fun k => .inr (.inr k))
    obtain ⟨w, r, q⟩ := hl p.2 p.1 av hN hv hvis
    obtain ⟨c, h1, h2⟩ := look hf
    have hkf : cenv.kindOf p.1 = some .free := by unfold Env.kindOf; rw [hsc]; exact hf
    refine ⟨w, r, .inr ⟨.inr hkf, ?_⟩⟩
    rcases q with ⟨k, _⟩ | ⟨_, c', e', z⟩
    · have k : X.env.scope.names.lookup p.1 = some .local := k
      rcases hk with k' | k' <;> rw [show X.env.scope.names.lookup p.1 = _ from k'] at k <;> cases k
    · rw [h2] at e'; cases e'
      exact ⟨c, h1, z.keeps kp⟩
  · have e : cenv.cells.lookup y = some c := e
    obtain ⟨w, z⟩ := I.cell y c (mem e).1
    exact ⟨w, z.keeps kp⟩
  · show H cenv.locals = none
    rw [hL]; exact I.hok.fresh (Nat.le_refl _)
  · have e : cenv.cells.lookup y = some c := e
    exact I.freeC y c (mem e).1
  · have hp : p ∈ [(h'.objs.size, go)] := by simpa using hp
    rw [List.mem_singleton.mp hp]
    refine ⟨Heap.get?_push_size _ hgf, I.hok.fresh (by rw [hsz']; exact Nat.le_succ _), ?_, fun z => ?_, hgo⟩
    · show h'.objs.size ≠ cenv.locals
      rw [hL, hsz']; exact Nat.succ_ne_self _
    · have := stkne _ z
      have e : (h'.objs.size, go).1 = s.heap.objs.size + 1 := hsz'
      rw [e] at this
      exact absurd this (Nat.not_lt_of_le (Nat.le_succ _))
end
end MM
namespace MM
open PySem PySem.Spec PyProof.Rows L2 GxR
/-! ### the generator's turns -/
section
variable {XG : Cx} {pn : List (Addr × Obj)} {σG : L2.St} {fp : List Addr} {tn : Nat → Heap → Prop} {gsz : Nat} {stop : Bool} {W : Nat → Nat → Hp → Prop} {Qs Qe : Hp → Prop}
/-- what is handed out: a truth; where it doesn't stop the asker, what is needed to go on -/
def gproto (XG : Cx) (pn : List (Addr × Obj)) (σG : L2.St) (fp : List Addr) (tn : Nat → Heap → Prop) (gsz : Nat) (stop : Bool) (W : Nat → Nat → Hp → Prop) (Qs : Hp → Prop) : Protocol := fun k s₀ v s kap =>
  ∃ (b : Bool) (H : Hp), v = .bool b ∧ Inv XG pn σG H s ∧ gsz ≤ s.gens.size ∧ (b = stop → Qs H) ∧ (b ≠ stop → (∃ i m, m < k ∧ W i m H ∧ tn i s.heap ∧ ∀ b ∈ fp, H b = none) ∧ ∀ s'' : Shared, s''.heap = s.heap → s''.os = s.os → AllBare s''.gens → s.gens.size ≤ s''.gens.size → kap (.send .none) s'')
def gendP (XG : Cx) (pn : List (Addr × Obj)) (σG : L2.St) (gsz : Nat) (Qe : Hp → Prop) (s₁ : Shared) : Prop := ∃ H, Inv XG pn σG H s₁ ∧ gsz ≤ s₁.gens.size ∧ Qe H
def gend (XG : Cx) (pn : List (Addr × Obj)) (σG : L2.St) (gsz : Nat) (Qe : Hp → Prop) : GenEnd := fun _ _ r s₁ => r = .ok .next ∧ gendP XG pn σG gsz Qe s₁
/-- one turn: from W, what the iterator and the element do -/
def gturn (J : It) (te : TE) (stop : Bool) (σt : List (Option V)) (W : Nat → Nat → Hp → Prop) (Qs Qe : Hp → Prop) : Prop := ∀ i m H, W i m H →
  (J.stop i H ∧ Qe H) ∨ (J.go i H ∧ ∀ x H', J.yld i H x H' → te (some x :: σt) H' fun y H4 => ∃ b, y = .bl b ∧ (b = stop → Qs H4) ∧ (b ≠ stop → ∃ m', m' < m ∧ W (i + 1) m' H4))
theorem seg_gx {A : Around} {elt iter : Expr} {x : Str} {px : Pos} {scope : Scope} {pos : Pos} {it : Addr} {J : It} {te : TE} {σt : List (Option V)} (hA : XG.A = A.over (.compLoop (.GeneratorExp elt [⟨.Name x px, iter, [], 0⟩] scope pos) 0 (.ref it) .none XG.env) [])
    (hc : XG.calm = true) (hfn : XG.fn = fun _ => false) (hx0 : XG.xe = fun _ _ => False) (hpn0 : XG.pn = []) (hco : XG.env.scope.isCoroutine = false) (hN : XG.N.Nodup) (hN0 : XG.N[0]? = some x) (hxl : XG.env.scope.names.lookup x = some .local) (hfp : XG.ex = fp) (hpfp : ∀ b ∈ fp, ∀ p ∈ pn, p.1 ≠ b)
    (T : Turn XG.prog XG.w XG.K (.Name x px) J fp it tn) (he : PE XG elt te) (hσ : σG = none :: σt) (turn : gturn J te stop σt W Qs Qe) :
    ∀ (n : Nat) (s₀ s : Shared), (∃ i m H, Inv XG pn σG H s ∧ tn i s.heap ∧ (∀ b ∈ fp, H b = none) ∧ gsz ≤ s.gens.size ∧ m < n ∧ W i m H) →
      Seg (model XG.prog XG.w) A (gend XG pn σG gsz Qe) (gproto XG pn σG fp tn gsz stop W Qs) n s₀ (.compLoop (.GeneratorExp elt [⟨.Name x px, iter, [], 0⟩] scope pos) 0 (.ref it) .none XG.env)
        ((model XG.prog XG.w).den (.compLoop (.GeneratorExp elt [⟨.Name x px, iter, [], 0⟩] scope pos) 0 (.ref it) .none XG.env)) [] s := by
  subst hσ
  have stat : ∀ {σ' : L2.St} {H' : Hp} {s' : Shared}, Inv XG pn σ' H' s' → (∀ b ∈ fp, H' b = none) → ∀ b ∈ fp, FpOk XG pn H' b := fun {σ' H' s'} I' hn b hb =>
    ⟨hn b hb, (I'.ok.exf b (by rw [hfp]; exact hb)).1, I'.ok.exfs b (by rw [hfp]; exact hb), .inl (by rw [hfp]; exact hb), fun x c e => (I'.ok.exf b (by rw [hfp]; exact hb)).2 x c e, fun p hp => by
      rw [hpn0] at hp; exact hpfp b hb p (by simpa using hp)⟩
  intro n
  induction n with
  | zero => rintro s₀ s ⟨i, m, H, _, _, _, _, h, _⟩; exact absurd h (Nat.not_lt_zero _)
  | succ k ih =>
    rintro s₀ s ⟨i, m, H, I, st, nf, hg, hm, w⟩
    show Seg _ A _ _ _ s₀ _ ((compTurn (.GeneratorExp elt [⟨.Name x px, iter, [], 0⟩] scope pos) 0 (.ref it) .none XG.env).onRaise (leaving XG.env)) [] s
    rw [compTurn_gen, Sem.onRaise_eq_wrap]
    refine seg_bind_wrap (wpAny_standAt ?_)
    rcases turn i m H w with ⟨hstop, qe⟩ | ⟨go, step⟩
    · refine seg_bind_wrap ?_
      rw [← hA]
      refine GenW.wpAny_gsz hg (thnF (T.done XG rfl rfl rfl hc i pn s _ H (fun _ _ => False) I (stat I nf) st hstop) fun r s6 ⟨hr, I6⟩ hg6 => ?_)
      subst hr
      exact seg_end (.ok .next) ⟨rfl, H, I6, hg6, qe⟩
    · refine seg_bind_wrap ?_
      rw [← hA]
      refine GenW.wpAny_gsz hg (thnF (T.item XG rfl rfl rfl hc i pn s _ H (fun _ _ => False) I (stat I nf) st go) fun r s6 ⟨u, hr, h6⟩ hg6 => ?_)
      subst hr
      refine seg_bind_wrap ?_
      rw [← hA]
      refine GenW.wpAny_gsz hg6 (thnF h6 fun _ s7 ⟨xv, H7, I7, r7, y7, st7, n7⟩ hg7 => ?_)
      have I7' := I7.pinned (stat I7 n7) (T.obj _ _ st7)
      refine seg_bind_wrap ?_
      rw [← hA]
      have pg : PG XG (.Name x px) (gName 0) := pg_name hN hN0 (.inl hxl) (.inr hxl)
      have run := pg.run _ s7 _ H7 xv u (fun σ2 H2 => σ2 = some xv :: σt ∧ H2 = H7) I7' r7 ⟨rfl, rfl⟩
      refine GenW.wpAny_gsz hg7 (wpAny_mono run (fun _ s8 ⟨σ8, H8, I8, e8, e8'⟩ hg8 => ?_) fun e s' he' => by rw [hx0] at he'; exact False.elim he')
      subst e8; subst e8'
      refine seg_bind_wrap (wpAny_tests_nil ?_)
      simp only [if_true]
      have hy : ∀ v, yieldOut XG.env v = yieldValue v := fun v => by simp only [yieldOut, hco, Bool.false_eq_true, if_false]
      simp only [hy]
      rw [Sem.bind_eq_wrap', Sem.bind_eq_wrap', Sem.wrap_wrap, Sem.wrap_wrap]
      refine seg_wrap ?_
      rw [← hA]
      refine GenW.wpAny_gsz hg8 (wpAny_mono (he.run _ s8 _ H8 _ I8 (step xv H8 y7)) (fun y s9 ⟨yv, H9, I9, r9, b, eb, q1, q2⟩ hg9 => ?_) fun e s' he' => by rw [hx0] at he'; exact False.elim he')
      subst eb
      obtain rfl : y = Value.bool b := r9
      have pin' : ∀ b ∈ fp, ∀ o, s7.heap.get? b = some o → s9.heap.get? b = some o ∧ H9 b = none := fun b hb o e =>
        let z := I9.pin (b, o) (List.mem_append_right _ (List.mem_append_right _ (mem_pinsAt hb e)))
        ⟨z.1, z.2.1⟩
      have I10 : Inv XG pn (none :: σt) H9 s9 := (I9.pins_of fun p hp => I9.pin p (List.mem_append_right _ (List.mem_append_left _ hp))).weak rfl fun j v e => by
        cases j with
        | zero => cases e
        | succ j => exact e
      have st9 : tn (i + 1) s9.heap := T.keep _ _ _ st7 fun b hb o e => (pin' b hb o e).1
      have nf9 : ∀ b ∈ fp, H9 b = none := fun b hb => by
        obtain ⟨o, e, _⟩ := T.obj _ _ st7 b hb
        exact (pin' b hb o e).2
      refine seg_at (seg_yield rfl rfl rfl ⟨b, H9, rfl, I10, hg9, q1, fun hne => ?_⟩)
      obtain ⟨m', hm', w'⟩ := q2 hne
      refine ⟨⟨i + 1, m', by omega, w', st9, nf9⟩, fun s'' hh ho hb hz => ?_⟩
      exact seg_again rfl (ih s'' s'' ⟨i + 1, m', H9, inv_gens I10 hh ho hb, by rw [hh]; exact st9, nf9, Nat.le_trans hg9 hz, by omega, w'⟩)
end
end MM
namespace MM
open PySem PySem.Spec PyProof.Rows L2 GxR
section
variable {XG : Cx} {pn : List (Addr × Obj)} {σG : L2.St} {fp : List Addr} {tn : Nat → Heap → Prop} {gsz g a : Nat} {stop : Bool} {W : Nat → Nat → Hp → Prop} {Qs Qe : Hp → Prop}
/-- the sleeping generator -/
def GSl (XG : Cx) (pn : List (Addr × Obj)) (σG : L2.St) (fp : List Addr) (tn : Nat → Heap → Prop) (gsz : Nat) (stop : Bool) (W : Nat → Nat → Hp → Prop) (Qs Qe : Hp → Prop) (A : Around) (a g n : Nat) (s : Shared) : Prop :=
  s.heap.IsGen a g ∧ s.heap.NoLimit ∧ g < gsz ∧ gsz ≤ s.gens.size ∧ AllBare s.gens ∧ ∃ gs, s.gens[g]? = some gs ∧ gs.Goes (model XG.prog XG.w) A.in1 (gend XG pn σG gsz Qe) (gproto XG pn σG fp tn gsz stop W Qs) n (.send .none) (s.setGen g .running)
theorem bare_set {gens : Array GenState} {g : Nat} {gs : GenState} (h : AllBare gens) (hb : gs.bare = true) : AllBare (gens.setIfInBounds g gs) := by
  intro y hy
  obtain ⟨i, hi, e⟩ := Array.mem_iff_getElem.mp hy
  rw [Array.getElem_setIfInBounds] at e
  · split at e
    · rw [← e]; exact hb
    · rw [← e]; exact h _ (Array.getElem_mem _)
  · simpa using hi
/-- one turn of the asker -/
theorem gs_next {A : Around} {n : Nat} {s : Shared} {Q : Option Value → Shared → Prop} {E : Value → Shared → Prop} (hh : A.handled = none) (hroom : A.depth < recursionLimit)
    (hgen : ∃ o, (a, o) ∈ pn ∧ ∀ h : Heap, h.get? a = some o → h.IsGen a g)
    (h : GSl XG pn σG fp tn gsz stop W Qs Qe A a g n s)
    (hY : ∀ s' H, Inv XG pn σG H s' → Qs H → Q (some (.bool stop)) s')
    (hN : ∀ s' m, m < n → GSl XG pn σG fp tn gsz stop W Qs Qe A a g m s' → Q (some (.bool (!stop))) s')
    (hE : ∀ s' H, Inv XG pn σG H s' → Qe H → Q none s') : wpAny (model XG.prog XG.w) A (pyNext (.ref a)) Q E s := by
  obtain ⟨hg, hl, hgz, hsz, hbr, gs, hgs, hgo⟩ := h
  refine wpAny_pyNext_genexpQ (P := fun _ _ s₁ => gendP XG pn σG gsz Qe s₁) hh hl hroom hg hgs hgo (fun v s₁ gs' hb hv => ?_) (fun s₁ hp h' hk => ?_)
  · obtain ⟨b, H, rfl, I, hz, q1, q2⟩ := hv
    have I2 : Inv XG pn σG H (s₁.setGen g gs') := inv_gens I rfl rfl (bare_set I.bare hb)
    by_cases e : b = stop
    · subst e
      exact hY _ H I2 (q1 rfl)
    · have eb : b = !stop := by cases b <;> cases stop <;> first | rfl | exact absurd rfl e
      subst eb
      obtain ⟨⟨i, m, hm, w, st, nf⟩, kap⟩ := q2 e
      cases n with
      | zero => exact absurd hm (Nat.not_lt_zero _)
      | succ k =>
        have hg2 : g < s₁.gens.size := Nat.lt_of_lt_of_le hgz hz
        obtain ⟨o, ho, hi⟩ := hgen
        refine hN _ k (Nat.lt_succ_self _) ⟨hi _ (I2.pin (a, o) (List.mem_append_right _ ho)).1, I2.nolimit, hgz, by show gsz ≤ (s₁.gens.setIfInBounds g gs').size; simpa using hz, I2.bare, gs', ?_, ?_⟩
        · show (s₁.gens.setIfInBounds g gs')[g]? = some gs'
          simp [hg2]
        · refine kap _ rfl rfl (bare_set (bare_set I.bare hb) rfl) ?_
          show s₁.gens.size ≤ ((s₁.gens.setIfInBounds g gs').setIfInBounds g _).size
          simp
  · obtain ⟨H, I, hz, q⟩ := hp
    have I2 : Inv XG pn σG H (s₁.setGen g .finished) := inv_gens I rfl rfl (bare_set I.bare rfl)
    exact hE _ H (I2.kept (t' := (s₁.setGen g .finished).toks) hk) q
theorem any_loop_g {A : Around} {R : Result → Shared → Prop} (hh : A.in1.handled = none) (hroom : A.in1.depth < recursionLimit) (hgen : ∃ o, (a, o) ∈ pn ∧ ∀ h : Heap, h.get? a = some o → h.IsGen a g)
    (hY : ∀ s' H, Inv XG pn σG H s' → Qs H → R (.ok (.ret (.bool true))) s') (hE : ∀ s' H, Inv XG pn σG H s' → Qe H → R (.ok (.ret (.bool false))) s') :
    ∀ (n : Nat) (s : Shared), GSl XG pn σG fp tn gsz true W Qs Qe A.in1 a g n s → codeAny (model XG.prog XG.w) A (.builtin "any.loop" ⟨[.ref a], []⟩) R s := by
  intro n
  induction n using Nat.strongRecOn with
  | ind n ih =>
    intro s h
    refine codeAny_builtin PySem.F.entry_any_loop ?_
    rw [Around.under_plainId PySem.F.plain_any_loop _]
    show wpAny _ A.in1 (pyNext (.ref a) >>= _) _ _ s
    refine wpAny_bind (gs_next hh hroom hgen h (fun s' H I q => ?_) (fun s' m hm h' => ?_) (fun s' H I q => ?_))
    · refine wpAny_bind (wpAny_holding (wpAny_truthy_bool ?_))
      refine wpAny_bind (wpAny_letGo ?_)
      simp only [if_true]
      exact wpAny_bind (wpAny_rule (wpAny_pure (hY s' H I q)))
    · refine wpAny_bind (wpAny_holding (wpAny_truthy_bool ?_))
      refine wpAny_bind (wpAny_letGo ?_)
      simp only [Bool.not_true, Bool.false_eq_true, if_false]
      exact wpAny_pure ⟨plainId_quiet PySem.F.plain_any_loop _, ih m hm s' h'⟩
    · exact wpAny_bind (wpAny_rule (wpAny_pure (hE s' H I q)))
theorem all_loop_g {A : Around} {R : Result → Shared → Prop} (hh : A.in1.handled = none) (hroom : A.in1.depth < recursionLimit) (hgen : ∃ o, (a, o) ∈ pn ∧ ∀ h : Heap, h.get? a = some o → h.IsGen a g)
    (hY : ∀ s' H, Inv XG pn σG H s' → Qs H → R (.ok (.ret (.bool false))) s') (hE : ∀ s' H, Inv XG pn σG H s' → Qe H → R (.ok (.ret (.bool true))) s') :
    ∀ (n : Nat) (s : Shared), GSl XG pn σG fp tn gsz false W Qs Qe A.in1 a g n s → codeAny (model XG.prog XG.w) A (.builtin "all.loop" ⟨[.ref a], []⟩) R s := by
  intro n
  induction n using Nat.strongRecOn with
  | ind n ih =>
    intro s h
    refine codeAny_builtin PySem.F.entry_all_loop ?_
    rw [Around.under_plainId PySem.F.plain_all_loop _]
    show wpAny _ A.in1 (pyNext (.ref a) >>= _) _ _ s
    refine wpAny_bind (gs_next hh hroom hgen h (fun s' H I q => ?_) (fun s' m hm h' => ?_) (fun s' H I q => ?_))
    · refine wpAny_bind (wpAny_holding (wpAny_truthy_bool ?_))
      refine wpAny_bind (wpAny_letGo ?_)
      simp only [Bool.false_eq_true, if_false]
      exact wpAny_bind (wpAny_rule (wpAny_pure (hY s' H I q)))
    · refine wpAny_bind (wpAny_holding (wpAny_truthy_bool ?_))
      refine wpAny_bind (wpAny_letGo ?_)
      simp only [Bool.not_false, if_true]
      exact wpAny_pure ⟨plainId_quiet PySem.F.plain_all_loop _, ih m hm s' h'⟩
    · exact wpAny_bind (wpAny_rule (wpAny_pure (hE s' H I q)))
end
/-! ### the rules -/
/-- the reading: W by the turn and a measure; what is asked behind a stop (Qs), behind the end (Qe) -/
def tGy (J : It) (te : TE) (P : Addr) (stop : Bool) (caps : List (Str × Nat)) (σ : L2.St) (H1 : Hp) (Q : VK) : Prop := TabG H1 P ∧ ∀ H2, Tabbed P H1 H2 → ∃ (W : Nat → Nat → Hp → Prop) (Qs Qe : Hp → Prop), (∃ m, W 0 m H2) ∧
  gturn J te stop (caps.map fun p => (σ[p.2]?).join) W Qs Qe ∧ (∀ H, Qs H → Q (.bl stop) H) ∧ ∀ H, Qe H → Q (.bl (!stop)) H
def tGx (wi : TI) (te : TE) (P : Addr) (stop : Bool) (caps : List (Str × Nat)) : TE := fun σ H Q => wi σ H fun J H1 => tGy J te P stop caps σ H1 Q
section
variable {X : Cx} {pins : List (Addr × Obj)} {σ : L2.St} {H : Hp} {s : Shared}
/-- the generator made, asleep -/
theorem gx_made {c P : Addr} {elt iter : Expr} {x : Str} {px gpos : Pos} {scope : Scope} {caps : List (Str × Nat)} {wi : TI} {te : TE} {stop : Bool} {k : Nat} {Q' : Value → Shared → Prop} {Q : VK}
    (hr : Room (k + 1) X.A) (hG : X.A.guards = some []) (TB : TabB X.base X.mg c P) (hcode : X.env.code = .ref c) (S : GenK X.N X.env.scope scope x caps) (hi : PI X (.Name x px) iter wi) (hcalm : X.calm = true)
    (he : ∀ (s : Shared) (H : Hp) (C : Addr) (code : Value) (A : Around) (fp : List Addr), Room k A → A.guards = some [] → PE (gxC X s H (x :: caps.map (·.1)) (genEnv scope (cloFrom X.env.cells scope.names []) C code builtinsNs X.env) A fp) elt te)
    (hs : ∀ v, genFold iter X.env v = pure v) (I : Inv X pins σ H s) (h : tGx wi te P stop caps σ H Q)
    (hQ : ∀ XG pn σG fp tn gsz W Qs Qe n a g s5, XG.prog = X.prog → XG.w = X.w → (∃ o, (a, o) ∈ pn ∧ ∀ h : Heap, h.get? a = some o → h.IsGen a g) → GSl XG pn σG fp tn gsz stop W Qs Qe X.A.in1 a g n s5 →
      (∀ s' H', Inv XG pn σG H' s' → Qs H' → Inv X pins σ H' s' ∧ Q (.bl stop) H') → (∀ s' H', Inv XG pn σG H' s' → Qe H' → Inv X pins σ H' s' ∧ Q (.bl (!stop)) H') → Q' (.ref a) s5) :
    wpAny (model X.prog X.w) X.A (eval (.GeneratorExp elt [⟨.Name x px, iter, [], 0⟩] scope gpos) X.env) Q' X.xe s := by
  have hfree : ∀ y ∈ scope.names, y.2 = .free → ∃ c, X.env.cells.lookup y.1 = some c := fun y hy e => by
    rcases S.free y hy e with k | k
    · exact I.ok.has _ (.inl k)
    · exact I.ok.has _ (.inr k)
  refine wpAny_GeneratorExp_make S.co (closure_ok hfree) S.cell S.dot S.kind (by have := hr.dp; omega) ?_ hs
  refine thn (hi.run pins s σ H _ I h) fun xv s1 hx => thn hx fun itv s2 h2 => ?_
  obtain ⟨it, fp, tn, J, H1, e, I2, T, st2, f2, ⟨ps, hP, ht⟩, rest⟩ := h2
  subst e
  refine ⟨I2.nolimit, ?_⟩
  have hPs : s2.heap.get? P = some { cls := .none, data := .fields ps } := I2.hok P _ hP
  have sz : ∀ b ∈ fp, b < s2.heap.objs.size := fun b hb => by
    obtain ⟨o, e, _⟩ := T.obj _ _ st2 b hb
    exact Heap.lt_size e
  have fpP : ∀ b ∈ fp, b ≠ P := fun b hb z => by have := (f2 b hb).1; rw [z, hP] at this; cases this
  have cd : PySem.W.CodeHd s2.heap c P := TB.code.keeps fun b u e => I2.bk b u e
  have cont : ∀ (code : Value) (h3 : Heap) (tk : Nat) (ps' : Array Value), Heap.ExtBut P s2.heap h3 → s2.heap.objs.size ≤ h3.objs.size → h3.get? P = some { cls := .none, data := .fields ps' } → (∃ more, ps' = ps ++ more) → TriplesOk ps'.toList →
      wpAny (model X.prog X.w) X.A (builtinsFor X.env.globals X.env.builtins) (fun bi s₄ =>
        ∀ h', h'.Ns s₄.heap.objs.size (fun y => if y = ".0" then some (.ref it) else none) → Heap.SameBut s₄.heap.objs.size (s₄.heap.push { cls := .type "frame", data := .dict #[] }) h' →
          Q' (.ref h'.objs.size) { s₄ with
            gens := s₄.gens.push (.fresh (.compStart (.GeneratorExp elt [⟨.Name x px, iter, [], 0⟩] scope gpos) 0 (.ref it) .none (genEnv scope (cloFrom X.env.cells scope.names []) s₄.heap.objs.size code bi X.env))),
            toks := s₄.toks + 1 + 1 + 1,
            heap := h'.push { cls := .type "generator", data := .fields #[.int s₄.gens.size 0, .str "<genexpr>" (s₄.toks + 1), .str (X.env.qual ++ "<genexpr>") (s₄.toks + 1 + 1)] } }) X.xe { s2 with heap := h3, toks := tk } := by
    intro code h3 tk ps' hx hsz3 hP3 hmore ht3
    obtain ⟨bm, ob, e1, e2, e3, e4, e5, e6, e7, e8⟩ := TB.bm
    obtain ⟨more, em⟩ := hmore
    have keep3 : ∀ b u, b ≠ P → s2.heap.get? b = some u → h3.get? b = some u := fun b u hb e => hx b u hb e
    refine wpAny_builtinsFor (m := X.mg) (by rw [I2.ok.glob]; exact ((I2.mod.glob.keeps I2.bk)).extBut hx TB.gP) e1 e2 (keep3 _ _ e4 (I2.bk _ _ e5)) e6 e7 e8 ?_
    intro h' hn' hs'
    have I4 : Inv X pins σ (upd H1 P (.tbl (ps ++ more))) { s2 with heap := h3, gens := s2.gens, drawn := s2.drawn, toks := tk } := inv_tab I2 hP keep3 (by rw [← em]; exact hP3) I2.bare
    have tb : Tabbed P H1 (upd H1 P (.tbl (ps ++ more))) := ⟨⟨ps ++ more, upd_same, by rw [← em]; exact ht3⟩, fun b hb => upd_ne hb⟩
    obtain ⟨W, Qs, Qe, ⟨m0, w0⟩, turn, hqs, hqe⟩ := rest _ tb
    have st3 : tn 0 h3 := T.keep _ _ _ st2 fun b hb o e => keep3 b o (fpP b hb) e
    have hAf : ∀ env : Env, (X.A.in1.in1.over (.compLoop (.GeneratorExp elt [⟨.Name x px, iter, [], 0⟩] scope gpos) 0 (.ref it) .none env) []).frames = some (env :: X.stack) := fun env => by
      show pushEnvs [env] (pushEnvs [] X.A.frames) = _
      rw [I.ok.frames]; rfl
    have hAg : ∀ env : Env, (X.A.in1.in1.over (.compLoop (.GeneratorExp elt [⟨.Name x px, iter, [], 0⟩] scope gpos) 0 (.ref it) .none env) []).guards = some [] := fun env => by
      show pushGuards [] (pushGuards [] X.A.guards) = _
      rw [hG]; rfl
    have hAr : ∀ env : Env, Room k (X.A.in1.in1.over (.compLoop (.GeneratorExp elt [⟨.Name x px, iter, [], 0⟩] scope gpos) 0 (.ref it) .none env) []) := fun env =>
      ⟨hr.hd, by have := hr.dp; show X.A.depth + 1 + 3 * k + 5 < _; omega, by have := hr.un; show X.A.units + 1 + 1 + 3 + 16 * k + 200 < _; omega⟩
    have fpok : ∀ b ∈ fp, FpOk X pins (upd H1 P (.tbl (ps ++ more))) b ∧ b < h3.objs.size := fun b hb => ⟨⟨by rw [upd_ne (fpP b hb)]; exact (f2 b hb).1, (f2 b hb).2⟩, Nat.lt_of_lt_of_le (sz b hb) hsz3⟩
    have hsz' : h'.objs.size = h3.objs.size + 1 := by rw [hs'.1, Heap.size_push]
    have keep' : ∀ b u, h3.get? b = some u → h'.get? b = some u := fun b u e => hs'.extBut b u (Nat.ne_of_lt (Heap.lt_size e)) (Heap.get?_push_of_some _ e)
    generalize hgo : ({ cls := .type "generator", data := .fields #[.int s2.gens.size 0, .str "<genexpr>" (tk + 1), .str (X.env.qual ++ "<genexpr>") (tk + 1 + 1)] } : Obj) = go
    have hIs : ∀ h : Heap, h.get? h'.objs.size = some go → h.IsGen h'.objs.size s2.gens.size := fun h e => by rw [← hgo] at e; exact ⟨_, _, _, e, rfl, rfl, rfl⟩
    generalize hGs : (GenState.fresh (.compStart (.GeneratorExp elt [⟨.Name x px, iter, [], 0⟩] scope gpos) 0 (.ref it) .none (genEnv scope (cloFrom X.env.cells scope.names []) h3.objs.size code builtinsNs X.env))) = gs0
    have G0 := gen_start (A := X.A.in1.in1.over (.compLoop (.GeneratorExp elt [⟨.Name x px, iter, [], 0⟩] scope gpos) 0 (.ref it) .none (genEnv scope (cloFrom X.env.cells scope.names []) h3.objs.size code builtinsNs X.env)) []) (code := code) (it := .ref it) (h' := h') (go := go) (gs := gs0) (tk := tk + 1 + 1 + 1) I4 S fpok hr.hd (hAf _) (by rw [← hGs]; rfl) (by rw [← hgo]; exact fun v z => nomatch z) (by rw [← hgo]; rfl) hn' hs'
    have pe := he { s2 with heap := h3, gens := s2.gens, drawn := s2.drawn, toks := tk } (upd H1 P (.tbl (ps ++ more))) h3.objs.size code _ fp (hAr (genEnv scope (cloFrom X.env.cells scope.names []) h3.objs.size code builtinsNs X.env)) (hAg _)
    have st5 : tn 0 (h'.push go) := T.keep _ _ _ st3 fun b hb o e => Heap.get?_push_of_some _ (keep' b o e)
    have back : ∀ s' H', Inv (gxC X { s2 with heap := h3, gens := s2.gens, drawn := s2.drawn, toks := tk } (upd H1 P (.tbl (ps ++ more))) (x :: caps.map (·.1)) (genEnv scope (cloFrom X.env.cells scope.names []) h3.objs.size code builtinsNs X.env) (X.A.in1.in1.over (.compLoop (.GeneratorExp elt [⟨.Name x px, iter, [], 0⟩] scope gpos) 0 (.ref it) .none (genEnv scope (cloFrom X.env.cells scope.names []) h3.objs.size code builtinsNs X.env)) []) fp) [(h'.objs.size, go)] (gst σ caps) H' s' → Inv X pins σ H' s' := fun s' H' I6 =>
      I4.call' (ch := fp) I6.os I6.base I6.hok I6.bare fun b hb => ⟨(fpok b hb).1.2.2.2.1, (fpok b hb).1.2.1, (fpok b hb).1.2.2.2.2.1, (fpok b hb).1.2.2.2.2.2⟩
    refine hQ (gxC X { s2 with heap := h3, gens := s2.gens, drawn := s2.drawn, toks := tk } (upd H1 P (.tbl (ps ++ more))) (x :: caps.map (·.1)) (genEnv scope (cloFrom X.env.cells scope.names []) h3.objs.size code builtinsNs X.env) (X.A.in1.in1.over (.compLoop (.GeneratorExp elt [⟨.Name x px, iter, [], 0⟩] scope gpos) 0 (.ref it) .none (genEnv scope (cloFrom X.env.cells scope.names []) h3.objs.size code builtinsNs X.env)) []) fp) [(h'.objs.size, go)] (gst σ caps) fp tn (s2.gens.size + 1) W Qs Qe (m0 + 1) _ s2.gens.size _ rfl rfl ⟨go, List.mem_singleton.mpr rfl, hIs⟩ ?_ (fun s' H' I6 q => ⟨back s' H' I6, hqs H' q⟩) fun s' H' I6 q => ⟨back s' H' I6, hqe H' q⟩
    refine ⟨hIs _ (Heap.get?_push_size _ (by rw [← hgo]; rfl)), G0.nolimit, Nat.lt_succ_self _, by show _ ≤ (s2.gens.push gs0).size; rw [Array.size_push]; exact Nat.le_refl _, G0.bare, gs0, Array.getElem?_push_size .., ?_⟩
    have hb1 : AllBare ((s2.gens.push gs0).setIfInBounds s2.gens.size GenState.running) := bare_set G0.bare rfl
    have hz1 : s2.gens.size + 1 ≤ ((s2.gens.push gs0).setIfInBounds s2.gens.size GenState.running).size := by simp
    generalize hS5 : Shared.setGen _ _ _ = S5
    have q1 : S5.heap = h'.push go := by rw [← hS5]; rfl
    have q2 : S5.os = s2.os := by rw [← hS5]; rfl
    have q3 : AllBare S5.gens := by rw [← hS5]; exact hb1
    have q4 : s2.gens.size + 1 ≤ S5.gens.size := by rw [← hS5]; exact hz1
    rw [← hGs]
    refine ⟨rfl, ?_⟩
    have loop := seg_gx (XG := gxC X { s2 with heap := h3, gens := s2.gens, drawn := s2.drawn, toks := tk } (upd H1 P (.tbl (ps ++ more))) (x :: caps.map (·.1)) (genEnv scope (cloFrom X.env.cells scope.names []) h3.objs.size code builtinsNs X.env) (X.A.in1.in1.over (.compLoop (.GeneratorExp elt [⟨.Name x px, iter, [], 0⟩] scope gpos) 0 (.ref it) .none (genEnv scope (cloFrom X.env.cells scope.names []) h3.objs.size code builtinsNs X.env)) []) fp)
      (pn := [(h'.objs.size, go)]) (σG := gst σ caps) (fp := fp) (tn := tn) (gsz := s2.gens.size + 1) (stop := stop) (W := W) (Qs := Qs) (Qe := Qe) (A := X.A.in1.in1) (elt := elt) (iter := iter) (px := px) (scope := scope) (pos := gpos) (it := it) (J := J) (te := te) (σt := caps.map fun p => (σ[p.2]?).join)
      rfl rfl rfl rfl rfl S.co S.nd rfl S.loc rfl (fun b hb p hp => by
        rw [List.mem_singleton.mp hp]
        show h'.objs.size ≠ b
        exact Nat.ne_of_gt (Nat.lt_trans (fpok b hb).2 (by rw [hsz']; exact Nat.lt_succ_self _))) T pe rfl turn (m0 + 1)
    have start : ∀ s'' : Shared, s''.heap = h'.push go → s''.os = s2.os → AllBare s''.gens → s2.gens.size + 1 ≤ s''.gens.size → ∀ s₀, Seg (model X.prog X.w) X.A.in1.in1 _ _ (m0 + 1) s₀ _ _ [] s'' := fun s'' hh ho hb hz s₀ => loop s₀ s'' ⟨0, m0, _, inv_gens G0 hh ho hb, by rw [hh]; exact st5, fun b hb => (fpok b hb).1.1, hz, Nat.lt_succ_self _, w0⟩
    have self : ∀ (Q : Value → Shared → Prop) (E : Value → Shared → Prop) (s : Shared), Q (.ref it) s → tn 0 s.heap → wpAny (model X.prog X.w) (X.A.in1.in1.over (.compStart (.GeneratorExp elt [⟨.Name x px, iter, [], 0⟩] scope gpos) 0 (.ref it) .none (genEnv scope (cloFrom X.env.cells scope.names []) h3.objs.size code builtinsNs X.env)) []) (pyIter (.ref it)) Q E s := fun Q E s q z => T.self _ 0 s Q E z q
    show Seg _ X.A.in1.in1 _ _ _ _ _ ((compStart (.GeneratorExp elt [⟨.Name x px, iter, [], 0⟩] scope gpos) 0 (.ref it) .none (genEnv scope (cloFrom X.env.cells scope.names []) h3.objs.size code builtinsNs X.env)).onRaise (leaving (genEnv scope (cloFrom X.env.cells scope.names []) h3.objs.size code builtinsNs X.env))) [] _
    unfold compStart
    rw [Sem.onRaise_eq_wrap]
    show Seg _ X.A.in1.in1 _ _ _ _ _ ((ask >>= _).wrap _ _ _ _) [] _
    refine seg_bind_wrap (wpAny_askSetting ?_)
    split
    · exact seg_again rfl (start S5 q1 q2 q3 q4 _)
    · first
        | exact seg_bind_wrap (wpAny_rule (seg_bind_wrap (wpAny_standAt (seg_bind_wrap (self _ _ _ (seg_again rfl (start S5 q1 q2 q3 q4 _)) (by rw [q1]; exact st5))))))
        | (refine seg_bind_wrap (wpAny_rule ?_); show Seg _ X.A.in1.in1 _ _ _ _ _ ((standAt iter.pos >>= _).wrap _ _ _ _) [] _; exact seg_bind_wrap (wpAny_standAt (seg_bind_wrap (self _ _ _ (seg_again rfl (start S5 q1 q2 q3 q4 _)) (by rw [q1]; exact st5)))))
  cases hf : codeAmong gpos ps.toList with
  | none =>
    refine wpAny_genexprCodeX hcode (cd.code hPs ht) (cd.tab hPs) hf fun c' h' tk hx hge hlt hco' _ htab' _ => ?_
    obtain ⟨_, _, _, _, _, _, _, _, _, _, _, _, _, _, _, _, _, _, _, htr, _⟩ := hco'
    exact cont _ h' tk _ hx (Nat.le_trans hge (Nat.le_of_lt hlt)) htab'.2 ⟨_, rfl⟩ htr
  | some cv => exact wpAny_genexprCode_hit hcode (cd.code hPs ht) hf (cont cv s2.heap s2.toks ps (Heap.ExtBut.refl _ _) (Nat.le_refl _) hPs ⟨#[], by simp⟩ ht)
theorem pe_anyG {c P : Addr} {elt iter : Expr} {x : Str} {px p pos gpos : Pos} {scope : Scope} {caps : List (Str × Nat)} {wi : TI} {te : TE} {k : Nat}
    (hr : Room (k + 1) X.A) (hG : X.A.guards = some []) (hg : Gl X "any") (hm : X.mg "any" = none) (hb : bootBuiltins "any" = some (.builtin "any")) (TB : TabB X.base X.mg c P) (hcode : X.env.code = .ref c) (S : GenK X.N X.env.scope scope x caps) (hi : PI X (.Name x px) iter wi) (hcalm : X.calm = true)
    (he : ∀ (s : Shared) (H : Hp) (C : Addr) (code : Value) (A : Around) (fp : List Addr), Room k A → A.guards = some [] → PE (gxC X s H (x :: caps.map (·.1)) (genEnv scope (cloFrom X.env.cells scope.names []) C code builtinsNs X.env) A fp) elt te)
    (hs : ∀ v, genFold iter X.env v = pure v) (hst : starEach [.GeneratorExp elt [⟨.Name x px, iter, [], 0⟩] scope gpos] X.env = (false, eval (.GeneratorExp elt [⟨.Name x px, iter, [], 0⟩] scope gpos) X.env) :: starEach [] X.env := by rfl) :
    PE X (.Call (.Name "any" p) [.GeneratorExp elt [⟨.Name x px, iter, [], 0⟩] scope gpos] [] pos) (tGx wi te P true caps) := by
  refine ⟨fun pins s σ H Q I h => wpAny_Call_Name_kw (ld_blt I hg hm hb (PyProof.Rows.callWith_builtin1 ?_ hst (by rfl)))⟩
  rw [hst]
  show wpAny _ _ (spliced ((false, eval (.GeneratorExp elt [⟨.Name x px, iter, [], 0⟩] scope gpos) X.env) :: backTo pos (starEach [] X.env))) _ _ s
  refine Calls.spliced_cons (gx_made hr hG TB hcode S hi hcalm he hs I h fun XG pn σG fp tn gsz W Qs Qe n a g s5 ep ew hgen hsl h1 h2 => Calls.spliced_nil ?_)
  refine call_function_tree PySem.F.kind_any PySem.F.plain_any PySem.F.entry_any (PySem.F.args_any1 _) ?_
  unfold Builtin.«any»
  refine wpAny_bind (m := oneArg "any" _) (wpAny_pure ?_)
  refine wpAny_bind (wpAny_pyIter_gen hsl.1 ?_)
  refine wpAny_pure ⟨plainId_quiet PySem.F.plain_any_loop _, ?_⟩
  rw [← ep, ← ew]
  refine any_loop_g (A := X.A) hr.hd (by have := hr.dp; show X.A.depth < _; omega) hgen (fun s' H' I' q => ?_) (fun s' H' I' q => ?_) n s5 hsl
  · obtain ⟨J, q'⟩ := h1 s' H' I' q
    exact ⟨.bl true, H', J, rfl, q'⟩
  · obtain ⟨J, q'⟩ := h2 s' H' I' q
    exact ⟨.bl false, H', J, rfl, q'⟩
theorem pe_allG {c P : Addr} {elt iter : Expr} {x : Str} {px p pos gpos : Pos} {scope : Scope} {caps : List (Str × Nat)} {wi : TI} {te : TE} {k : Nat}
    (hr : Room (k + 1) X.A) (hG : X.A.guards = some []) (hg : Gl X "all") (hm : X.mg "all" = none) (hb : bootBuiltins "all" = some (.builtin "all")) (TB : TabB X.base X.mg c P) (hcode : X.env.code = .ref c) (S : GenK X.N X.env.scope scope x caps) (hi : PI X (.Name x px) iter wi) (hcalm : X.calm = true)
    (he : ∀ (s : Shared) (H : Hp) (C : Addr) (code : Value) (A : Around) (fp : List Addr), Room k A → A.guards = some [] → PE (gxC X s H (x :: caps.map (·.1)) (genEnv scope (cloFrom X.env.cells scope.names []) C code builtinsNs X.env) A fp) elt te)
    (hs : ∀ v, genFold iter X.env v = pure v) (hst : starEach [.GeneratorExp elt [⟨.Name x px, iter, [], 0⟩] scope gpos] X.env = (false, eval (.GeneratorExp elt [⟨.Name x px, iter, [], 0⟩] scope gpos) X.env) :: starEach [] X.env := by rfl) :
    PE X (.Call (.Name "all" p) [.GeneratorExp elt [⟨.Name x px, iter, [], 0⟩] scope gpos] [] pos) (tGx wi te P false caps) := by
  refine ⟨fun pins s σ H Q I h => wpAny_Call_Name_kw (ld_blt I hg hm hb (PyProof.Rows.callWith_builtin1 ?_ hst (by rfl)))⟩
  rw [hst]
  show wpAny _ _ (spliced ((false, eval (.GeneratorExp elt [⟨.Name x px, iter, [], 0⟩] scope gpos) X.env) :: backTo pos (starEach [] X.env))) _ _ s
  refine Calls.spliced_cons (gx_made hr hG TB hcode S hi hcalm he hs I h fun XG pn σG fp tn gsz W Qs Qe n a g s5 ep ew hgen hsl h1 h2 => Calls.spliced_nil ?_)
  refine call_function_tree PySem.F.kind_all PySem.F.plain_all PySem.F.entry_all (PySem.F.args_all1 _) ?_
  unfold Builtin.«all»
  refine wpAny_bind (m := oneArg "all" _) (wpAny_pure ?_)
  refine wpAny_bind (wpAny_pyIter_gen hsl.1 ?_)
  refine wpAny_pure ⟨plainId_quiet PySem.F.plain_all_loop _, ?_⟩
  rw [← ep, ← ew]
  refine all_loop_g (A := X.A) hr.hd (by have := hr.dp; show X.A.depth < _; omega) hgen (fun s' H' I' q => ?_) (fun s' H' I' q => ?_) n s5 hsl
  · obtain ⟨J, q'⟩ := h1 s' H' I' q
    exact ⟨.bl false, H', J, rfl, q'⟩
  · obtain ⟨J, q'⟩ := h2 s' H' I' q
    exact ⟨.bl true, H', J, rfl, q'⟩
end
end MM
namespace MM
open PySem PySem.Spec PyProof.Rows L2 GxR
def genkC (N : List Str) (sc scope : Scope) (x : Str) (caps : List (Str × Nat)) : Bool :=
  (match scope.kind with | .function => true | _ => false) && !scope.isCoroutine && (scope.names.all fun y => match y.2 with | .cell => false | _ => true) && decide (scope.names.lookup (".0" : Str) = some NameKind.local) && decide (scope.names.lookup x = some NameKind.local) &&
    (scope.names.all fun y => decide (scope.names.lookup y.1 = some y.2)) && (scope.names.all fun y => match y.2 with
      | .free => (match sc.names.lookup y.1 with | some .cell => true | some .free => true | _ => false)
      | _ => true) && (caps.all fun p => decide (N[p.2]? = some p.1) && decide (scope.names.lookup p.1 = some NameKind.free)) && decide (x :: caps.map (·.1)).Nodup
theorem genk_by {N : List Str} {sc scope : Scope} {x : Str} {caps : List (Str × Nat)} (h : genkC N sc scope x caps = true) : GenK N sc scope x caps := by
  unfold genkC at h
  simp only [Bool.and_eq_true, List.all_eq_true, decide_eq_true_eq, Bool.not_eq_true'] at h
  obtain ⟨⟨⟨⟨⟨⟨⟨⟨h1, h2⟩, h3⟩, h4⟩, h5⟩, h6⟩, h7⟩, h8⟩, h9⟩ := h
  refine ⟨?_, h2, fun y hy e => ?_, h4, h5, h6, fun y hy e => ?_, h8, h9⟩
  · split at h1
    · assumption
    · cases h1
  · have q := h3 y hy
    rw [e] at q; cases q
  · have q := h7 y hy
    simp only [e] at q
    split at q <;> first | exact .inl (by assumption) | exact .inr (by assumption) | cases q
/-- over what is walked: Pv by the turn and the heap -/
theorem gx_it {J : It} {n : Nat} {G : Hp → Prop} {Y : Nat → Hp → V → Hp → Prop} (w : Walk J n G Y) {te : TE} {stop : Bool} {σt : List (Option V)} {H2 : Hp} {Qs Qe : Hp → Prop} (Pv : Nat → Hp → Prop) (h0 : Pv 0 H2) (hG : ∀ i H, i ≤ n → Pv i H → G H)
    (hs : ∀ i x H H', i < n → Pv i H → Y i H x H' → te (some x :: σt) H' fun y H4 => ∃ b, y = .bl b ∧ (b = stop → Qs H4) ∧ (b ≠ stop → Pv (i + 1) H4)) (hd : ∀ H, Pv n H → Qe H) :
    ∃ W : Nat → Nat → Hp → Prop, (∃ m, W 0 m H2) ∧ gturn J te stop σt W Qs Qe := by
  refine ⟨fun i m H => m + i = n ∧ Pv i H, ⟨n, rfl, h0⟩, fun i m Hb ⟨hm, p⟩ => ?_⟩
  rcases Nat.lt_or_ge i n with lt | ge
  · refine .inr ⟨w.goes i Hb lt (hG i Hb (by omega) p), fun x Hc y => ?_⟩
    have := hs i x Hb Hc lt p (w.yields i Hb x Hc lt (hG i Hb (by omega) p) y)
    have mono : (fun (y : V) (H4 : Hp) => ∃ b, y = .bl b ∧ (b = stop → Qs H4) ∧ (b ≠ stop → Pv (i + 1) H4)) = fun y H4 => ∃ b, y = .bl b ∧ (b = stop → Qs H4) ∧ (b ≠ stop → ∃ m', m' < m ∧ m' + (i + 1) = n ∧ Pv (i + 1) H4) := by
      funext y H4
      refine propext ⟨fun ⟨b, e, h1, h2⟩ => ⟨b, e, h1, fun z => ⟨m - 1, by omega, by omega, h2 z⟩⟩, fun ⟨b, e, h1, h2⟩ => ⟨b, e, h1, fun z => let ⟨_, _, _, h⟩ := h2 z; h⟩⟩
    exact mono ▸ this
  · obtain rfl : i = n := by omega
    exact .inl ⟨w.stops Hb (hG i Hb (by omega) p), hd Hb p⟩
end MM
namespace MM
open PySem
open Sem (wp)
/-! ### sum of any walk whose own objects are made on the way: the asker keeps all but its own cell S -/
/-- all but S as it was, and nothing forgotten -/
def Kept1 (S : Addr) (s s' : Shared) : Prop := ∃ h' tk, s' = { s with heap := h', toks := tk } ∧ s.toks ≤ tk ∧ (∀ b o, b ≠ S → s.heap.get? b = some o → h'.get? b = some o) ∧ ∃ o, h'.get? S = some o
structure WalkAll (prog : Program) (w : World) (A : Around) (I S : Addr) (n : Nat) (val : Nat → Int) (St : Nat → Shared → Prop) (Mv : Shared → Shared → Prop) : Prop where
  keep : ∀ j s s', St j s → Kept1 S s s' → St j s'
  item : ∀ j (s : Shared) (Q : Option Value → Shared → Prop) (E : Value → Shared → Prop), j < n → St j s → (∃ o, s.heap.get? S = some o) →
    (∀ t s', St (j + 1) s' → Mv s s' → (∀ o, s.heap.get? S = some o → s'.heap.get? S = some o) → Q (some (.int (val j) t)) s') → wpAny (model prog w) A (pyNext (.ref I)) Q E s
  done : ∀ (s : Shared) (Q : Option Value → Shared → Prop) (E : Value → Shared → Prop), St n s → (∃ o, s.heap.get? S = some o) → (∀ s', Mv s s' → Q none s') → wpAny (model prog w) A (pyNext (.ref I)) Q E s
  mkept : ∀ s s' s'', Mv s s' → Kept1 S s' s'' → Mv s s''
  mtrans : ∀ s s' s'', Mv s s' → Mv s' s'' → Mv s s''
section
variable {prog : Program} {w : World} {A : Around} {R : Result → Shared → Prop} {I S : Addr} {n : Nat} {val : Nat → Int} {St : Nat → Shared → Prop} {Mv : Shared → Shared → Prop}
theorem sum_loop_all (W : WalkAll prog w A.in1 I S n val St Mv) :
    ∀ (k i : Nat) (s : Shared) (tA : Tok) (c : Nat) (st : Int), (st = 0 ∨ st = 2) → n - i = k → i ≤ n → St i s → s.heap.get? S = some { cls := .type "list", dict := none, data := .seq #[.int (preSum val i) tA] c, slots := #[] } →
    (∀ s' t', Mv s s' → R (.ok (.ret (.int (preSum val n) t'))) s') → codeAny (model prog w) A (.builtin "sum.loop" ⟨[.ref I, .ref S, rawInt st, rawInt 0], []⟩) R s := by
  intro k
  induction k with
  | zero =>
    intro i s tA c st hst2 hk hi hst hS hR
    have hin : i = n := by omega
    subst hin
    refine codeAny_builtin PySem.F.entry_sum_loop ?_
    rw [Around.under_plainId PySem.F.plain_sum_loop _]
    show wpAny _ A.in1 (seqItems? (.ref S) >>= _) _ _ s
    refine wpAny_bind (wpAny_seqItems hS rfl ?_)
    show wpAny _ A.in1 (tryCatch (pyNext (.ref I)) _ >>= _) _ _ s
    refine wpAny_bind (wpAny_tryCatch (W.done s _ _ hst ⟨_, hS⟩ fun s' hm => ?_))
    exact wpAny_pure (hR s' tA hm)
  | succ k ih =>
    intro i s tA c st hst2 hk hi hst hS hR
    have hlt : i < n := by omega
    refine codeAny_builtin PySem.F.entry_sum_loop ?_
    rw [Around.under_plainId PySem.F.plain_sum_loop _]
    show wpAny _ A.in1 (seqItems? (.ref S) >>= _) _ _ s
    refine wpAny_bind (wpAny_seqItems hS rfl ?_)
    show wpAny _ A.in1 (tryCatch (pyNext (.ref I)) _ >>= _) _ _ s
    refine wpAny_bind (wpAny_tryCatch (W.item i s _ _ hlt hst ⟨_, hS⟩ fun t s' hst' hm hSk => ?_))
    have hS' := hSk _ hS
    have step : ∀ (f g : Obj → Obj) (tk : Nat), s'.toks ≤ tk → ∀ o', ((s'.heap.update S f).update S g).get? S = some o' → Kept1 S s' { s' with heap := (s'.heap.update S f).update S g, toks := tk } := fun f g tk htk o' ho => ⟨_, _, rfl, htk, fun b o hb e => (Heap.get?_update_other _ _ (Ne.symm hb)).trans ((Heap.get?_update_other _ _ (Ne.symm hb)).trans e), _, ho⟩
    have step1 : ∀ (f : Obj → Obj) (tk : Nat), s'.toks ≤ tk → ∀ o', (s'.heap.update S f).get? S = some o' → Kept1 S s' { s' with heap := s'.heap.update S f, toks := tk } := fun f tk htk o' ho => ⟨_, _, rfl, htk, fun b o hb e => (Heap.get?_update_other _ _ (Ne.symm hb)).trans e, _, ho⟩
    rcases hst2 with rfl | rfl
    · show wpAny _ A.in1 (if (_ : Bool) = true then (mkInt (preSum val i + val i) >>= _) else _) _ _ _
      split
      · refine wpAny_bind (wpAny_mkInt ?_)
        show wpAny _ A.in1 (updateSeq S (fun _ => #[.int (preSum val i + val i) s'.toks]) >>= _) _ _ _
        refine wpAny_bind ?_
        have hS2 := Heap.get?_update_self (Obj.mapSeq fun _ => #[Value.int (preSum val i + val i) s'.toks]) hS' rfl
        have kp := step1 _ _ (Nat.le_succ _) _ hS2
        refine wpAny_updateSeq hS' rfl (wpAny_pure ⟨plainId_quiet PySem.F.plain_sum_loop _, ih (i + 1) _ s'.toks _ 0 (.inl rfl) (by omega) hlt (W.keep _ _ _ hst' kp) hS2 fun s'' t'' hm'' => ?_⟩)
        exact hR s'' t'' (W.mtrans _ _ _ (W.mkept _ _ _ hm kp) hm'')
      · refine wpAny_bind (wpAny_rule ?_)
        refine wpAny_bind (wpAny_attempt (wpAny_holding (wpAny_add_int ?_)))
        show wpAny _ A.in1 (updateSeq S (fun _ => #[.int (preSum val i + val i) s'.toks]) >>= _) _ _ _
        refine wpAny_bind (wpAny_updateSeq hS' rfl ?_)
        have hS₂ := Heap.get?_update_self (Obj.mapSeq fun _ => #[Value.int (preSum val i + val i) s'.toks]) hS' rfl
        refine wpAny_bind (wpAny_letGo ?_)
        have hS3 := Heap.get?_update_self (Obj.mapSeq fun _ => #[Value.int (preSum val i + val i) s'.toks]) hS₂ rfl
        have kp := step _ _ _ (Nat.le_succ _) _ hS3
        refine wpAny_bind (wpAny_updateSeq hS₂ rfl (wpAny_pure ⟨plainId_quiet PySem.F.plain_sum_loop _, ih (i + 1) _ s'.toks _ 2 (.inr rfl) (by omega) hlt (W.keep _ _ _ hst' kp) hS3 fun s'' t'' hm'' => ?_⟩))
        exact hR s'' t'' (W.mtrans _ _ _ (W.mkept _ _ _ hm kp) hm'')
    · show wpAny _ A.in1 ((holding [Value.int (val i) t] (binaryOp .Add (.int (preSum val i) tA) (.int (val i) t))).attempt >>= _) _ _ _
      refine wpAny_bind (wpAny_attempt (wpAny_holding (wpAny_add_int ?_)))
      show wpAny _ A.in1 (updateSeq S (fun _ => #[.int (preSum val i + val i) s'.toks]) >>= _) _ _ _
      refine wpAny_bind (wpAny_updateSeq hS' rfl ?_)
      have hS₂ := Heap.get?_update_self (Obj.mapSeq fun _ => #[Value.int (preSum val i + val i) s'.toks]) hS' rfl
      refine wpAny_bind (wpAny_letGo ?_)
      have hS3 := Heap.get?_update_self (Obj.mapSeq fun _ => #[Value.int (preSum val i + val i) s'.toks]) hS₂ rfl
      have kp := step _ _ _ (Nat.le_succ _) _ hS3
      refine wpAny_bind (wpAny_updateSeq hS₂ rfl (wpAny_pure ⟨plainId_quiet PySem.F.plain_sum_loop _, ih (i + 1) _ s'.toks _ 2 (.inr rfl) (by omega) hlt (W.keep _ _ _ hst' kp) hS3 fun s'' t'' hm'' => ?_⟩))
      exact hR s'' t'' (W.mtrans _ _ _ (W.mkept _ _ _ hm kp) hm'')
end
section
variable {prog : Program} {w : World} {A : Around} {E : Value → Shared → Prop} {s : Shared}
/-- sum(x): the cell S lies where the next object comes -/
theorem call_sum_all {x : Value} {Q : Value → Shared → Prop}
    (h : wpAny (model prog w) A.in1 (pyIter x) (fun it s₂ => ∃ I n val St Mv, it = .ref I ∧ WalkAll prog w A.in1 I s₂.heap.objs.size n val St Mv ∧ (∀ s', Kept1 s₂.heap.objs.size s₂ s' → St 0 s' ∧ ∀ s'' t', Mv s' s'' → Q (.int (preSum val n) t') s'')) E s) :
    wpAny (model prog w) A (call (.builtin "sum") [x]) Q E s := by
  refine call_function_tree PySem.F.kind_sum PySem.F.plain_sum PySem.F.entry_sum (PySem.F.args_sum1 _) ?_
  unfold Builtin.«sum»
  simp only [List.length_cons, List.length_nil]
  rw [if_neg (by decide)]
  refine wpAny_bind (wpAny_of_eq (show Builtin.Builtins.bindParams "sum" ["start"] 0 { } = pure [none] from rfl) ?_)
  refine wpAny_bind (wpAny_mono h (fun it s₂ h₂ => ?_) fun _ _ e => e)
  obtain ⟨I, n, val, St, Mv, rfl, W, hst⟩ := h₂
  refine wpAny_bind (wpAny_mkInt ?_)
  refine wpAny_bind (wpAny_pure ?_)
  simp only [List.forIn_cons, List.forIn_nil]
  refine wpAny_bind (wpAny_bind (wpAny_bind (wpAny_isInstance (T := "int") (b := false) (typeIs_int _ _ _) sub_int_str ?_)))
  simp only [Bool.false_eq_true, if_false]
  refine wpAny_pure (wpAny_bind (wpAny_bind (wpAny_isInstance (T := "int") (b := false) (typeIs_int _ _ _) sub_int_bytes ?_)))
  simp only [Bool.false_eq_true, if_false]
  refine wpAny_pure (wpAny_bind (wpAny_bind (wpAny_isInstance (T := "int") (b := false) (typeIs_int _ _ _) sub_int_bytearray ?_)))
  simp only [Bool.false_eq_true, if_false]
  refine wpAny_pure (wpAny_pure ?_)
  refine wpAny_bind (wpAny_newObj_type ?_)
  have hnew := Heap.get?_push_size s₂.heap (o := { cls := .type "list", dict := none, data := .seq #[.int (preSum val 0) s₂.toks], slots := #[] }) rfl
  have kp : Kept1 s₂.heap.objs.size s₂ { s₂ with heap := s₂.heap.push { cls := .type "list", dict := none, data := .seq #[.int (preSum val 0) s₂.toks], slots := #[] }, toks := s₂.toks + 1 } :=
    ⟨_, _, rfl, Nat.le_succ _, fun b o _ e => Heap.get?_push_of_some _ e, _, hnew⟩
  obtain ⟨st0, fin⟩ := hst _ kp
  exact wpAny_pure ⟨plainId_quiet PySem.F.plain_sum_loop _, sum_loop_all W n 0 _ s₂.toks 0 0 (.inl rfl) rfl (Nat.zero_le _) st0 hnew fun s' t' hm => fin s' t' hm⟩
end
end MM
namespace MM
open PySem
open Sem (wp)
/-! ### a generator with two fors -/
def KeepS (S : Addr) (s s' : Shared) : Prop := (∀ b o, b ≠ S → s.heap.get? b = some o → s'.heap.get? b = some o) ∧ ∃ o, s'.heap.get? S = some o
theorem KeepS.trans {S : Addr} {a b c : Shared} (x : KeepS S a b) (y : KeepS S b c) : KeepS S a c := ⟨fun i o hi e => y.1 i o hi (x.1 i o hi e), y.2⟩
/-- since the generator woke: what is old, its own dict and its outer iterator aside, is as it was -/
def Since2 (C I S : Addr) (s₀ s : Shared) : Prop := ∃ h' tk, s = { s₀ with heap := h', toks := tk } ∧ s₀.toks ≤ tk ∧ ∀ b o, b ≤ S → b ≠ C → b ≠ I → s₀.heap.get? b = some o → h'.get? b = some o
def proto2 (C I S : Addr) : Protocol := fun _ s₀ v s kap => (∃ t, v = .int 1 t) ∧ Since2 C I S s₀ s ∧ ∀ s'' : Shared, KeepS S s s'' → kap (.send .none) s''
def end2 (C I S : Addr) : GenEnd := fun n s₀ r s₁ => r = .ok .next ∧ (n = 0 ∧ Since2 C I S s₀ s₁)
def Gen2 (prog : Program) (w : World) (A : Around) (a : Addr) (g : Nat) (C I S : Addr) (n j : Nat) (s : Shared) : Prop :=
  s.heap.IsGen a g ∧ s.heap.NoLimit ∧ ∃ gs, s.gens[g]? = some gs ∧ ∀ s'' : Shared, KeepS S s s'' → gs.Goes (model prog w) A.in1 (end2 C I S) (proto2 C I S) (n - j) (.send .none) s''
def Mv2 (C I g : Nat) (s s' : Shared) : Prop := (∀ b o, b < C → b ≠ I → s.heap.get? b = some o → s'.heap.get? b = some o) ∧ GenOnlyQ g s.gens s'.gens ∧ s'.drawn = s.drawn ∧ s'.os = s.os ∧ s.toks ≤ s'.toks
section
variable {prog : Program} {w : World} {A : Around}
theorem walk_gen2 (hh : A.handled = none) {a C I S : Addr} {g n : Nat} (haS : a < S) (haC : a ≠ C) (haI : a ≠ I) (hCS : C < S) (hIC : I < C) (hcs : cStatics < C) (hcI : cStatics ≠ I) (hroom : A.depth < recursionLimit) :
    WalkAll prog w A a S n (fun _ => 1) (Gen2 prog w A a g C I S n) (Mv2 C I g) where
  keep := fun j s s' st k => by
    obtain ⟨h', tk, rfl, htk, hk, hS⟩ := k
    obtain ⟨hg, hl, gs, hgs, hgo⟩ := st
    refine ⟨let ⟨o, nm, qn, ho, r⟩ := hg; ⟨o, nm, qn, hk a o (Nat.ne_of_lt haS) ho, r⟩, (let ⟨mc, hns, hnn⟩ := hl; ⟨mc, hns.at' fun o e => hk cStatics o (Nat.ne_of_lt (Nat.lt_trans hcs hCS)) e, hnn⟩), gs, hgs, fun s'' k2 => hgo s'' ⟨fun b o hb e => k2.1 b o hb (hk b o hb e), k2.2⟩⟩
  mkept := fun s s' s'' m k => by
    obtain ⟨h', tk, rfl, htk, hk, _⟩ := k
    exact ⟨fun b o hb hI e => hk b o (Nat.ne_of_lt (Nat.lt_trans hb hCS)) (m.1 b o hb hI e), m.2.1, m.2.2.1, m.2.2.2.1, Nat.le_trans m.2.2.2.2 htk⟩
  mtrans := fun s s' s'' m m' => ⟨fun b o hb hI e => m'.1 b o hb hI (m.1 b o hb hI e), m.2.1.trans m'.2.1, m'.2.2.1.trans m.2.2.1, m'.2.2.2.1.trans m.2.2.2.1, Nat.le_trans m.2.2.2.2 m'.2.2.2.2⟩
  item := fun j s Q E hj st hS hQ => by
    obtain ⟨hg, hl, gs, hgs, hgo⟩ := st
    obtain ⟨m, hm⟩ : ∃ m, n - j = m + 1 := ⟨n - j - 1, by omega⟩
    rw [hm] at hgo
    refine wpAny_with_toks (Nat.le_refl s.toks) ?_
    refine wpAny_pyNext_genexpQ (P := fun n s₀ s₁ => n = 0 ∧ Since2 C I S s₀ s₁) hh hl hroom hg hgs (hgo _ ⟨fun _ _ _ e => e, hS⟩) (fun v s₁ gs' hb hv => ?_) (fun s₁ hp h' hk => ?_)
    · obtain ⟨⟨t, rfl⟩, ⟨h₁, tk₁, rfl, htk1, hk₁⟩, hkap⟩ := hv
      intro htk
      refine hQ t _ ⟨let ⟨o, nm, qn, ho, r⟩ := hg; ⟨o, nm, qn, hk₁ a o (Nat.le_of_lt haS) haC haI ho, r⟩, (let ⟨mc, hns, hnn⟩ := hl; ⟨mc, hns.at' fun o e => hk₁ cStatics o (Nat.le_of_lt (Nat.lt_trans hcs hCS)) (Nat.ne_of_lt hcs) hcI e, hnn⟩), gs', setGen_self (gs := .running) (setGen_self hgs), fun s'' hal => ?_⟩
        ⟨fun b o hb hI e => hk₁ b o (Nat.le_of_lt (Nat.lt_trans hb hCS)) (Nat.ne_of_lt hb) hI e, GenOnlyQ.of ((GenOnly.setGen s g .running).trans (GenOnly.setGen _ g gs')) (setGen_self (gs := .running) (setGen_self hgs)) hb, rfl, rfl, htk⟩
        (fun o e => ?_)
      · have e : n - (j + 1) = m := by omega
        rw [e]
        exact hkap s'' hal
      · exact hk₁ S o (Nat.le_refl _) (Ne.symm (Nat.ne_of_lt hCS)) (Ne.symm (Nat.ne_of_lt (Nat.lt_trans hIC hCS))) e
    · exact absurd hp.1 (Nat.succ_ne_zero m)
  done := fun s Q E st hS hQ => by
    obtain ⟨hg, hl, gs, hgs, hgo⟩ := st
    rw [Nat.sub_self] at hgo
    refine wpAny_with_toks (Nat.le_refl s.toks) ?_
    refine wpAny_pyNext_genexpQ (P := fun n s₀ s₁ => n = 0 ∧ Since2 C I S s₀ s₁) hh hl hroom hg hgs (hgo _ ⟨fun _ _ _ e => e, hS⟩) (fun v s₁ gs' hb hv => ?_) (fun s₁ hp h' hk => ?_)
    · obtain ⟨_, ⟨h₁, tk₁, rfl, _, hk₁⟩, hkap⟩ := hv
      obtain ⟨o, ho⟩ := hS
      exact False.elim (hkap _ ⟨fun _ _ _ e => e, o, hk₁ S o (Nat.le_refl _) (Ne.symm (Nat.ne_of_lt hCS)) (Ne.symm (Nat.ne_of_lt (Nat.lt_trans hIC hCS))) ho⟩)
    · obtain ⟨_, h₁, tk₁, rfl, htk1, hk₁⟩ := hp
      intro htk
      exact hQ _ ⟨fun b o hb hI e => hk b o (hk₁ b o (Nat.le_of_lt (Nat.lt_trans hb hCS)) (Nat.ne_of_lt hb) hI e), GenOnlyQ.of ((GenOnly.setGen s g .running).trans (GenOnly.setGen _ g .finished)) (setGen_self (gs := .running) (setGen_self hgs)) rfl, rfl, rfl, htk⟩
/-! ### its segments -/
theorem turn2_in {elt it1 it2 : Expr} {x1 x2 : Str} {p1 p2 : Pos} {ifs : List Expr} {scope : Scope} {pos : Pos} (it acc : Value) (env : Env) :
    compTurn (.GeneratorExp elt [⟨.Name x1 p1, it1, [], 0⟩, ⟨.Name x2 p2, it2, ifs, 0⟩] scope pos) 1 it acc env = (do
      standAt it2.pos
      match ← pyNext it with
      | none => pure (.done .next)
      | some v =>
        letOwnedTupleGo (.Name x2 p2) it v
        assign (.Name x2 p2) env v
        let mut ok := true
        for c in ifs do
          if ok then ok ← isTrue c env (eval c env)
        if ok then
          (do let v ← eval elt env; standAt elt.pos; let _ ← yieldOut env v)
        again (.compLoop (.GeneratorExp elt [⟨.Name x1 p1, it1, [], 0⟩, ⟨.Name x2 p2, it2, ifs, 0⟩] scope pos) 1 it acc env)) := by rfl
theorem turn2_out {elt it1 it2 : Expr} {x1 x2 : Str} {p1 p2 : Pos} {ifs : List Expr} {scope : Scope} {pos : Pos} (it acc : Value) (env : Env) :
    compTurn (.GeneratorExp elt [⟨.Name x1 p1, it1, [], 0⟩, ⟨.Name x2 p2, it2, ifs, 0⟩] scope pos) 0 it acc env = (do
      standAt it1.pos
      match ← pyNext it with
      | none => pure (.done .next)
      | some v =>
        letOwnedTupleGo (.Name x1 p1) it v
        assign (.Name x1 p1) env v
        let x ← eval it2 env
        standAt it2.pos
        let x ← foldedSetIterable it2 env x
        let _ ← runOwn (.compStart (.GeneratorExp elt [⟨.Name x1 p1, it1, [], 0⟩, ⟨.Name x2 p2, it2, ifs, 0⟩] scope pos) 1 (← holding [x] (pyIter x)) acc env) env
        again (.compLoop (.GeneratorExp elt [⟨.Name x1 p1, it1, [], 0⟩, ⟨.Name x2 p2, it2, ifs, 0⟩] scope pos) 0 it acc env)) := by rfl
end
end MM
namespace MM
open PySem
open Sem (wp)
def Old2 (C I : Addr) (href h : Heap) : Prop := ∀ b o, b < C → b ≠ I → href.get? b = some o → h.get? b = some o
def cin (pz : Nat → Bool) : Nat → Nat → Nat
  | 0, _ => 0
  | d + 1, k => (if pz k = true then 1 else 0) + cin pz d (k + 1)
def cout (pz : Nat → Nat → Bool) (N : Nat) : Nat → Nat → Nat
  | 0, _ => 0
  | d + 1, i => cin (pz i) (N - (i + 1)) (i + 1) + cout pz N d (i + 1)
abbrev tests2 (ifs : List Expr) (env : Env) : Sem Bool := forIn ifs true fun c r => if r = true then do let ok ← isTrue c env (eval c env); pure (ForInStep.yield ok) else pure (ForInStep.yield r)
structure Quiet2 (prog : Program) (w : World) (cenv : Env) (x1 x2 : Str) (it2 : Expr) (ifs : List Expr) (elt : Expr) (C I : Addr) (N : Nat) (pz : Nat → Nat → Bool) (href : Heap) (D U : Nat) : Prop where
  tests : ∀ (A' : Around) E' (i k : Nat) (s₂ : Shared) m₂ t1 t2, A'.handled = none → A'.depth ≤ D → A'.units ≤ U → i < N → k < N → s₂.heap.Ns cenv.locals m₂ → m₂ x1 = some (.int (i : Int) t1) → m₂ x2 = some (.int (k : Int) t2) → Old2 C I href s₂.heap →
    wpAny (model prog w) A' (tests2 ifs cenv) (fun ok s₃ => ok = pz i k ∧ Keeps s₂ s₃ ∧ s₂.toks ≤ s₃.toks) E' s₂
  elt : ∀ (A' : Around) E' (i k : Nat) (s₂ : Shared) m₂ t1 t2, A'.handled = none → A'.depth ≤ D → A'.units ≤ U → i < N → k < N → s₂.heap.Ns cenv.locals m₂ → m₂ x1 = some (.int (i : Int) t1) → m₂ x2 = some (.int (k : Int) t2) → Old2 C I href s₂.heap →
    wpAny (model prog w) A' (eval elt cenv) (fun y s₃ => (∃ t, y = .int 1 t) ∧ Keeps s₂ s₃ ∧ s₂.toks ≤ s₃.toks) E' s₂
  it2 : ∀ (A' : Around) E' (i : Nat) (s₂ : Shared) m₂ t1, A'.handled = none → A'.depth ≤ D → A'.units ≤ U → i < N → s₂.heap.Ns cenv.locals m₂ → m₂ x1 = some (.int (i : Int) t1) → Old2 C I href s₂.heap →
    wpAny (model prog w) A' (eval it2 cenv) (fun x s₃ => Keeps s₂ s₃ ∧ s₂.toks ≤ s₃.toks ∧ foldedSetIterable it2 cenv x = pure x ∧ ∃ r t u v, x = .ref r ∧ IsRange s₃.heap r ((i + 1 : Nat) : Int) (N : Int) 1 t u v) E' s₂
section
variable {prog : Program} {w : World} {A : Around} {elt it1 it2 : Expr} {x1 x2 : Str} {p1 p2 : Pos} {ifs : List Expr} {scope : Scope} {pos : Pos} {C I S : Addr} {cenv : Env} {N : Nat} {pz : Nat → Nat → Bool} {href : Heap} {D U : Nat}
theorem seg_in (hC : cenv.locals = C) (hIC : I < C) (hCS : C < S) (hx2 : cenv.kindOf x2 = some .local) (h12 : x1 ≠ x2) (hp : (cenv.scope.kind == .class || (cenv.scope.kind == .module && cenv.locals != cenv.globals)) = false)
    (hco : cenv.scope.isCoroutine = false) (hq : Quiet2 prog w cenv x1 x2 it2 ifs elt C I N pz href D U) {i : Nat} (hi : i < N) {J : Addr} (hJ : S < J) {F : Frame} {c₂ : Nat} {c₁ : Code} {t₁ : Sem PySem.Fin}
    (hF1 : (A.over (.compLoop (Expr.GeneratorExp elt [⟨.Name x1 p1, it1, [], 0⟩, ⟨.Name x2 p2, it2, ifs, 0⟩] scope pos) 1 (.ref J) .none cenv) [F]).handled = none) (hF2 : splitAtGen [F] = none) (hF3 : [F].any Frame.guarded = false)
    (hF4 : (A.over (.compLoop (Expr.GeneratorExp elt [⟨.Name x1 p1, it1, [], 0⟩, ⟨.Name x2 p2, it2, ifs, 0⟩] scope pos) 1 (.ref J) .none cenv) [F]).depth ≤ D) (hF5 : (A.over (.compLoop (Expr.GeneratorExp elt [⟨.Name x1 p1, it1, [], 0⟩, ⟨.Name x2 p2, it2, ifs, 0⟩] scope pos) 1 (.ref J) .none cenv) [F]).units ≤ U)
    (hleaf : ∀ n s₀ s, Seg (model prog w) A (end2 C I S) (proto2 C I S) n s₀ c₁ t₁ [] s → Seg (model prog w) A (end2 C I S) (proto2 C I S) n s₀ (.compLoop (Expr.GeneratorExp elt [⟨.Name x1 p1, it1, [], 0⟩, ⟨.Name x2 p2, it2, ifs, 0⟩] scope pos) 1 (.ref J) .none cenv) (leafOf (.ok .next)) [F] s)
    (hout : ∀ s₀ s m, s.heap.Ns C m → IsRangeIter s.heap I ((i + 1 : Nat) : Int) ((N : Int) - ((i + 1 : Nat) : Int)) 1 → Old2 C I href s.heap → (∃ o, s.heap.get? S = some o) → Since2 C I S s₀ s → Seg (model prog w) A (end2 C I S) (proto2 C I S) c₂ s₀ c₁ t₁ [] s) :
    ∀ (d k : Nat), k + d = N → ∀ (s₀ s : Shared) m t1, s.heap.Ns C m → m x1 = some (.int (i : Int) t1) → IsRangeIter s.heap J (k : Int) (d : Int) 1 → IsRangeIter s.heap I ((i + 1 : Nat) : Int) ((N : Int) - ((i + 1 : Nat) : Int)) 1 → Old2 C I href s.heap → (∃ o, s.heap.get? S = some o) → Since2 C I S s₀ s →
      Seg (model prog w) A (end2 C I S) (proto2 C I S) (cin (pz i) d k + c₂) s₀ (.compLoop (Expr.GeneratorExp elt [⟨.Name x1 p1, it1, [], 0⟩, ⟨.Name x2 p2, it2, ifs, 0⟩] scope pos) 1 (.ref J) .none cenv) ((model prog w).den (.compLoop (Expr.GeneratorExp elt [⟨.Name x1 p1, it1, [], 0⟩, ⟨.Name x2 p2, it2, ifs, 0⟩] scope pos) 1 (.ref J) .none cenv)) [F] s := by
  subst hC
  have hJC : J ≠ cenv.locals := Ne.symm (Nat.ne_of_lt (Nat.lt_trans hCS hJ))
  have hJI : J ≠ I := Ne.symm (Nat.ne_of_lt (Nat.lt_trans hIC (Nat.lt_trans hCS hJ)))
  intro d
  induction d with
  | zero =>
    intro k hk s₀ s m t1 hn hm hit hitI hold hS hsince
    show Seg _ A _ _ _ s₀ _ ((compTurn (Expr.GeneratorExp elt [⟨.Name x1 p1, it1, [], 0⟩, ⟨.Name x2 p2, it2, ifs, 0⟩] scope pos) 1 (.ref J) .none cenv).onRaise (fun x => do noteFrame x cenv; theTreesLotGoes x)) [F] s
    rw [turn2_in, Sem.onRaise_eq_wrap]
    refine seg_bind_wrap (wpAny_standAt ?_)
    refine seg_bind_wrap (wpAny_pyNext_range_end hF1 hit (by omega) fun h' hk' => ?_)
    have kk : ∀ b o, b ≠ J → s.heap.get? b = some o → h'.get? b = some o := fun b o hb e => hk' b o hb e
    obtain ⟨o, ho⟩ := hS
    obtain ⟨h₀, tk₀, rfl, htk₀, hk₀⟩ := hsince
    have := hleaf (cin (pz i) 0 k + c₂) s₀ { s₀ with heap := h', toks := tk₀ } (by
      show Seg _ A _ _ (0 + c₂) _ _ _ _ _
      rw [Nat.zero_add]
      exact hout s₀ _ m (hn.at' fun o e => kk _ o (Ne.symm hJC) e) (kk _ _ (Ne.symm hJI) hitI) (fun b o hb hI e => kk b o (Nat.ne_of_lt (Nat.lt_trans hb (Nat.lt_trans hCS hJ))) (hold b o hb hI e)) ⟨o, kk _ _ (Nat.ne_of_lt hJ) ho⟩ ⟨h', tk₀, rfl, htk₀, fun b o hb hC hI e => kk b o (Nat.ne_of_lt (Nat.lt_of_le_of_lt hb hJ)) (hk₀ b o hb hC hI e)⟩)
    exact this
  | succ d ih =>
    intro k hk s₀ s m t1 hn hm hit hitI hold hS hsince
    have hkN : k < N := by omega
    show Seg _ A _ _ _ s₀ _ ((compTurn (Expr.GeneratorExp elt [⟨.Name x1 p1, it1, [], 0⟩, ⟨.Name x2 p2, it2, ifs, 0⟩] scope pos) 1 (.ref J) .none cenv).onRaise (fun x => do noteFrame x cenv; theTreesLotGoes x)) [F] s
    rw [turn2_in, Sem.onRaise_eq_wrap]
    refine seg_bind_wrap (wpAny_standAt ?_)
    refine seg_bind_wrap (wpAny_pyNext_range_item hit (by omega) fun h₁ hit₁ hsb₁ => ?_)
    have kk₁ : ∀ b o, b ≠ J → s.heap.get? b = some o → h₁.get? b = some o := fun b o hb e => hsb₁.extBut b o hb e
    refine seg_bind_wrap (wpAny_of_eq (rfl : letOwnedTupleGo (.Name x2 p2) (.ref J) (.int (k : Int) s.toks) = pure ()) ?_)
    refine seg_bind_wrap (wpAny_assign_Name (wpAny_storeName_local hx2 (hn.at' fun o e => kk₁ _ o (Ne.symm hJC) e) (fun h₂ hn₂ hs₂ => ?_) hp))
    have kk₂ : ∀ b o, b ≠ J → b ≠ cenv.locals → s.heap.get? b = some o → h₂.get? b = some o := fun b o hb hC e => hs₂.extBut b o hC (kk₁ b o hb e)
    have hit₂ : IsRangeIter h₂ J ((k + 1 : Nat) : Int) (d : Int) 1 := by
      have := hs₂.extBut _ _ hJC hit₁
      rw [show ((k + 1 : Nat) : Int) = (k : Int) + 1 by omega, show (d : Int) = ((d + 1 : Nat) : Int) - 1 by omega]; exact this
    have hitI₂ : IsRangeIter h₂ I ((i + 1 : Nat) : Int) ((N : Int) - ((i + 1 : Nat) : Int)) 1 := kk₂ _ _ (Ne.symm hJI) (Nat.ne_of_lt hIC) hitI
    have hold₂ : Old2 cenv.locals I href h₂ := fun b o hb hI e => kk₂ b o (Nat.ne_of_lt (Nat.lt_trans hb (Nat.lt_trans hCS hJ))) (Nat.ne_of_lt hb) (hold b o hb hI e)
    obtain ⟨oS, hoS⟩ := hS
    have hS₂ : h₂.get? S = some oS := kk₂ _ _ (Nat.ne_of_lt hJ) (Ne.symm (Nat.ne_of_lt hCS)) hoS
    obtain ⟨h₀, tk₀, rfl, htk₀, hk₀⟩ := hsince
    have since₂ : ∀ b o, b ≤ S → b ≠ cenv.locals → b ≠ I → s₀.heap.get? b = some o → h₂.get? b = some o := fun b o hb hC hI e => kk₂ b o (Nat.ne_of_lt (Nat.lt_of_le_of_lt hb hJ)) hC (hk₀ b o hb hC hI e)
    refine seg_bind_wrap (wpAny_mono (hq.tests _ _ i k _ _ t1 _ hF1 hF4 hF5 hi hkN hn₂ (by simp [h12, hm]) (by simp; rfl) hold₂) (fun ok s₃ h₃ => ?_) fun _ _ e => e)
    obtain ⟨rfl, ⟨h₃, tk₃, rfl, hk₃⟩, htk₃⟩ := h₃
    have htk₃ : tk₀ + 1 + 1 ≤ tk₃ := htk₃
    have htk₃ : s₀.toks ≤ tk₃ := by omega
    have hn₃ := hn₂.keeps hk₃
    cases hpz : pz i k with
    | false =>
      simp only [Bool.false_eq_true, if_false]
      have hc : cin (pz i) (d + 1) k + c₂ = cin (pz i) d (k + 1) + c₂ := by
        show (if pz i k = true then 1 else 0) + _ + _ = _
        rw [hpz]; simp
      rw [hc]
      exact seg_again rfl (ih (k + 1) (by omega) s₀ _ _ t1 hn₃ (by simp [h12, hm]) (hk₃ _ _ hit₂) (hk₃ _ _ hitI₂) (fun b o hb hI e => hk₃ b o (hold₂ b o hb hI e)) ⟨oS, hk₃ _ _ hS₂⟩ ⟨h₃, tk₃, rfl, htk₃, fun b o hb hC hI e => hk₃ b o (since₂ b o hb hC hI e)⟩)
    | true =>
      simp only [if_true]
      have hc : cin (pz i) (d + 1) k + c₂ = (cin (pz i) d (k + 1) + c₂) + 1 := by
        show (if pz i k = true then 1 else 0) + _ + _ = _
        rw [hpz, if_pos rfl]; omega
      rw [hc]
      have hy : ∀ v, yieldOut cenv v = yieldValue v := fun v => by simp only [yieldOut, hco, Bool.false_eq_true, if_false]
      simp only [hy]
      rw [Sem.bind_eq_wrap', Sem.bind_eq_wrap', Sem.wrap_wrap, Sem.wrap_wrap]
      refine seg_wrap (wpAny_mono (hq.elt _ _ i k _ _ t1 _ hF1 hF4 hF5 hi hkN hn₃ (by simp [h12, hm]) (by simp; rfl) (fun b o hb hI e => hk₃ b o (hold₂ b o hb hI e))) (fun y s₄ h₄ => ?_) fun _ _ e => e)
      obtain ⟨hy1, ⟨h₄, tk₄, rfl, hk₄⟩, htk₄⟩ := h₄
      refine seg_at (seg_yield hF2 rfl hF3 ⟨hy1, ⟨h₄, tk₄, rfl, Nat.le_trans htk₃ htk₄, fun b o hb hC hI e => hk₄ b o (hk₃ b o (since₂ b o hb hC hI e))⟩, fun s'' hal => ?_⟩)
      have kq : ∀ b o, b ≠ S → h₂.get? b = some o → s''.heap.get? b = some o := fun b o hb e => hal.1 b o hb (hk₄ b o (hk₃ b o e))
      exact seg_again rfl (ih (k + 1) (by omega) s'' s'' _ t1 (hn₂.at' fun o e => kq _ o (Nat.ne_of_lt hCS) e) (by simp [h12, hm]) (kq _ _ (Ne.symm (Nat.ne_of_lt hJ)) hit₂) (kq _ _ (Nat.ne_of_lt (Nat.lt_trans hIC hCS)) hitI₂)
        (fun b o hb hI e => kq b o (Nat.ne_of_lt (Nat.lt_trans hb hCS)) (hold₂ b o hb hI e)) hal.2 ⟨s''.heap, s''.toks, rfl, Nat.le_refl _, fun _ _ _ _ _ e => e⟩)
end
theorem range_sz {a N : Nat} (h : a ≤ N) : Builtin.Range.rangeSize (a : Int) (N : Int) 1 = ((N - a : Nat) : Int) := by
  unfold Builtin.Range.rangeSize
  by_cases e : a < N
  · simp; omega
  · simp; omega
theorem range_sm {a N : Nat} (h : a ≤ N) (hN : N ≤ 1000000) : Builtin.Range.small (a : Int) (N : Int) 1 = true := by
  unfold Builtin.Range.small
  rw [range_sz h]
  unfold Builtin.Range.rangeFitsLong
  simp
  try omega
section
variable {prog : Program} {w : World} {A : Around} {elt it1 it2 : Expr} {x1 x2 : Str} {p1 p2 : Pos} {ifs : List Expr} {scope : Scope} {pos : Pos} {C I S : Addr} {cenv : Env} {N : Nat} {pz : Nat → Nat → Bool} {href : Heap} {D U : Nat}
theorem seg_out (hh : A.handled = none) (hC : cenv.locals = C) (hIC : I < C) (hCS : C < S) (hx1 : cenv.kindOf x1 = some .local) (hx2 : cenv.kindOf x2 = some .local) (h12 : x1 ≠ x2) (hp : (cenv.scope.kind == .class || (cenv.scope.kind == .module && cenv.locals != cenv.globals)) = false)
    (hco : cenv.scope.isCoroutine = false) (hN : N ≤ 1000000) (hD : A.depth + 3 ≤ D) (hU : A.units + 9 ≤ U) (hq : Quiet2 prog w cenv x1 x2 it2 ifs elt C I N pz href D U) :
    ∀ (d i : Nat), i + d = N → ∀ (s₀ s : Shared) m, s.heap.Ns C m → IsRangeIter s.heap I (i : Int) (d : Int) 1 → Old2 C I href s.heap → (∃ o, s.heap.get? S = some o) → Since2 C I S s₀ s →
      Seg (model prog w) A (end2 C I S) (proto2 C I S) (cout pz N d i) s₀ (.compLoop (Expr.GeneratorExp elt [⟨.Name x1 p1, it1, [], 0⟩, ⟨.Name x2 p2, it2, ifs, 0⟩] scope pos) 0 (.ref I) .none cenv) ((model prog w).den (.compLoop (Expr.GeneratorExp elt [⟨.Name x1 p1, it1, [], 0⟩, ⟨.Name x2 p2, it2, ifs, 0⟩] scope pos) 0 (.ref I) .none cenv)) [] s := by
  subst hC
  have hO1 : (A.over (.compLoop (Expr.GeneratorExp elt [⟨.Name x1 p1, it1, [], 0⟩, ⟨.Name x2 p2, it2, ifs, 0⟩] scope pos) 0 (.ref I) .none cenv) []).handled = none := hh
  have hO2 : (A.over (.compLoop (Expr.GeneratorExp elt [⟨.Name x1 p1, it1, [], 0⟩, ⟨.Name x2 p2, it2, ifs, 0⟩] scope pos) 0 (.ref I) .none cenv) []).depth ≤ D := Nat.le_trans (Nat.le_of_eq rfl) (Nat.le_trans (show A.depth + 1 ≤ A.depth + 3 by omega) hD)
  have hO3 : (A.over (.compLoop (Expr.GeneratorExp elt [⟨.Name x1 p1, it1, [], 0⟩, ⟨.Name x2 p2, it2, ifs, 0⟩] scope pos) 0 (.ref I) .none cenv) []).units ≤ U := Nat.le_trans (Nat.le_of_eq rfl) (Nat.le_trans (show A.units + 3 ≤ A.units + 9 by omega) hU)
  intro d
  induction d with
  | zero =>
    intro i hi s₀ s m hn hit hold hS hsince
    show Seg _ A _ _ _ s₀ _ ((compTurn (Expr.GeneratorExp elt [⟨.Name x1 p1, it1, [], 0⟩, ⟨.Name x2 p2, it2, ifs, 0⟩] scope pos) 0 (.ref I) .none cenv).onRaise (leaving cenv)) [] s
    rw [turn2_out, Sem.onRaise_eq_wrap]
    refine seg_bind_wrap (wpAny_standAt ?_)
    refine seg_bind_wrap (wpAny_pyNext_range_end hO1 hit (by omega) fun h' hk' => ?_)
    obtain ⟨h₀, tk₀, rfl, htk₀, hk₀⟩ := hsince
    exact seg_end (.ok .next) ⟨rfl, rfl, h', tk₀, rfl, htk₀, fun b o hb hC hI e => hk' b o hI (hk₀ b o hb hC hI e)⟩
  | succ d ih =>
    intro i hi s₀ s m hn hit hold hS hsince
    have hiN : i < N := by omega
    show Seg _ A _ _ _ s₀ _ ((compTurn (Expr.GeneratorExp elt [⟨.Name x1 p1, it1, [], 0⟩, ⟨.Name x2 p2, it2, ifs, 0⟩] scope pos) 0 (.ref I) .none cenv).onRaise (leaving cenv)) [] s
    rw [turn2_out, Sem.onRaise_eq_wrap]
    refine seg_bind_wrap (wpAny_standAt ?_)
    refine seg_bind_wrap (wpAny_pyNext_range_item hit (by omega) fun h₁ hit₁ hsb₁ => ?_)
    have kk₁ : ∀ b o, b ≠ I → s.heap.get? b = some o → h₁.get? b = some o := fun b o hb e => hsb₁.extBut b o hb e
    refine seg_bind_wrap (wpAny_of_eq (rfl : letOwnedTupleGo (.Name x1 p1) (.ref I) (.int (i : Int) s.toks) = pure ()) ?_)
    refine seg_bind_wrap (wpAny_assign_Name (wpAny_storeName_local hx1 (hn.at' fun o e => kk₁ _ o (Ne.symm (Nat.ne_of_lt hIC)) e) (fun h₂ hn₂ hs₂ => ?_) hp))
    have kk₂ : ∀ b o, b ≠ I → b ≠ cenv.locals → s.heap.get? b = some o → h₂.get? b = some o := fun b o hb hC e => hs₂.extBut b o hC (kk₁ b o hb e)
    have hit₂ : IsRangeIter h₂ I ((i + 1 : Nat) : Int) ((N : Int) - ((i + 1 : Nat) : Int)) 1 := by
      have := hs₂.extBut _ _ (Nat.ne_of_lt hIC) hit₁
      rw [show ((i + 1 : Nat) : Int) = (i : Int) + 1 by omega, show (N : Int) - ((i : Int) + 1) = ((d + 1 : Nat) : Int) - 1 by omega]; exact this
    have hold₂ : Old2 cenv.locals I href h₂ := fun b o hb hI e => kk₂ b o hI (Nat.ne_of_lt hb) (hold b o hb hI e)
    obtain ⟨oS, hoS⟩ := hS
    have hSI : S ≠ I := Ne.symm (Nat.ne_of_lt (Nat.lt_trans hIC hCS))
    have hS₂ : h₂.get? S = some oS := kk₂ _ _ hSI (Ne.symm (Nat.ne_of_lt hCS)) hoS
    obtain ⟨h₀, tk₀, rfl, htk₀, hk₀⟩ := hsince
    have since₂ : ∀ b o, b ≤ S → b ≠ cenv.locals → b ≠ I → s₀.heap.get? b = some o → h₂.get? b = some o := fun b o hb hC hI e => kk₂ b o hI hC (hk₀ b o hb hC hI e)
    refine seg_bind_wrap (wpAny_mono (hq.it2 _ _ i _ _ _ hO1 hO2 hO3 hiN hn₂ (by simp; rfl) hold₂) (fun xv s₃ h₃ => ?_) fun _ _ e => e)
    obtain ⟨⟨h₃, tk₃, rfl, hk₃⟩, htk₃, hfold, r, t, u, v, rfl, hr⟩ := h₃
    have htk₃ : tk₀ + 1 + 1 ≤ tk₃ := htk₃
    have htk₃ : s₀.toks ≤ tk₃ := by omega
    refine seg_bind_wrap (wpAny_standAt ?_)
    refine seg_bind_wrap (wpAny_of_eq hfold ?_)
    refine seg_bind_wrap (wpAny_holding (wpAny_pyIter_range hr (range_sm (a := i + 1) (by omega) hN) ?_))
    rw [range_sz (a := i + 1) (N := N) (by omega)]
    have kp : ∀ b o, h₃.get? b = some o → (h₃.push { cls := .type "range_iterator", data := .fields #[rawInt ((i + 1 : Nat) : Int), rawInt ((N - (i + 1) : Nat) : Int), rawInt 1] }).get? b = some o := fun b o e => Heap.get?_push_of_some _ e
    have hitJ : IsRangeIter (h₃.push { cls := .type "range_iterator", data := .fields #[rawInt ((i + 1 : Nat) : Int), rawInt ((N - (i + 1) : Nat) : Int), rawInt 1] }) h₃.objs.size ((i + 1 : Nat) : Int) ((N - (i + 1) : Nat) : Int) 1 := Heap.get?_push_size _ rfl
    have hitJ0 : IsRangeIter (h₃.push { cls := .type "range_iterator", data := .fields #[rawInt ((i + 1 : Nat) : Int), rawInt ((N - (i + 1) : Nat) : Int), rawInt 1] }) h₃.objs.size (((i + 1 : Nat) : Int) + ((0 : Nat) : Int) * 1) (((N - (i + 1) : Nat) : Int) - ((0 : Nat) : Int)) 1 := by
      rw [show ((i + 1 : Nat) : Int) + ((0 : Nat) : Int) * 1 = ((i + 1 : Nat) : Int) by omega, show ((N - (i + 1) : Nat) : Int) - ((0 : Nat) : Int) = ((N - (i + 1) : Nat) : Int) by omega]; exact hitJ
    have hSJ : S < h₃.objs.size := Heap.lt_size (hk₃ _ _ hS₂)
    show Seg _ A _ _ _ s₀ _ (.call (.compStart (Expr.GeneratorExp elt [⟨.Name x1 p1, it1, [], 0⟩, ⟨.Name x2 p2, it2, ifs, 0⟩] scope pos) 1 (.ref h₃.objs.size) .none cenv) none _ _ _) [] _
    refine seg_call fun p => ?_
    have hn₃ := (hn₂.keeps hk₃).keeps kp
    have inner : ∀ (k : Result → Sem PySem.Fin) (l : List Value), k (.ok .next) = .pure (.again (.compLoop (Expr.GeneratorExp elt [⟨.Name x1 p1, it1, [], 0⟩, ⟨.Name x2 p2, it2, ifs, 0⟩] scope pos) 0 (.ref I) .none cenv)) →
        Seg (model prog w) A (end2 cenv.locals I S) (proto2 cenv.locals I S) (cout pz N (d + 1) i) s₀ (.compLoop (Expr.GeneratorExp elt [⟨.Name x1 p1, it1, [], 0⟩, ⟨.Name x2 p2, it2, ifs, 0⟩] scope pos) 1 (.ref h₃.objs.size) .none cenv) ((model prog w).den (.compLoop (Expr.GeneratorExp elt [⟨.Name x1 p1, it1, [], 0⟩, ⟨.Name x2 p2, it2, ifs, 0⟩] scope pos) 1 (.ref h₃.objs.size) .none cenv)) [Frame.ret k none false l (.compLoop (Expr.GeneratorExp elt [⟨.Name x1 p1, it1, [], 0⟩, ⟨.Name x2 p2, it2, ifs, 0⟩] scope pos) 0 (.ref I) .none cenv) p []]
          { s₀ with heap := h₃.push { cls := .type "range_iterator", data := .fields #[rawInt ((i + 1 : Nat) : Int), rawInt ((N - (i + 1) : Nat) : Int), rawInt 1] }, toks := tk₃ } := fun k l hk => by
      refine seg_in (A := A) (it1 := it1) (p1 := p1) (p2 := p2) (scope := scope) (pos := pos) (S := S) (J := h₃.objs.size) (F := Frame.ret k none false l (.compLoop (Expr.GeneratorExp elt [⟨.Name x1 p1, it1, [], 0⟩, ⟨.Name x2 p2, it2, ifs, 0⟩] scope pos) 0 (.ref I) .none cenv) p []) (c₂ := cout pz N d (i + 1)) (c₁ := .compLoop (Expr.GeneratorExp elt [⟨.Name x1 p1, it1, [], 0⟩, ⟨.Name x2 p2, it2, ifs, 0⟩] scope pos) 0 (.ref I) .none cenv) (t₁ := .pure (.again (.compLoop (Expr.GeneratorExp elt [⟨.Name x1 p1, it1, [], 0⟩, ⟨.Name x2 p2, it2, ifs, 0⟩] scope pos) 0 (.ref I) .none cenv))) rfl hIC hCS hx2 h12 hp hco hq hiN hSJ
        hh rfl rfl (Nat.le_trans (Nat.le_of_eq (show _ = A.depth + 1 from rfl)) (by omega)) (Nat.le_trans (Nat.le_of_eq (show _ = A.units + 3 from rfl)) (by omega))
        (fun n s₀ s h => seg_leaf (.ok .next) (by rw [hk]; exact h)) (fun s₀ s m hn hit hold hS hs => seg_again rfl (ih (i + 1) (by omega) s₀ s m hn (by rw [show (d : Int) = (N : Int) - ((i + 1 : Nat) : Int) by omega]; exact hit) hold hS hs))
        (N - (i + 1)) (i + 1) (by omega) s₀ _ _ _ hn₃ (by simp; rfl) hitJ (kp _ _ (hk₃ _ _ hit₂)) (fun b o hb hI e => kp b o (hk₃ b o (hold₂ b o hb hI e))) ⟨oS, kp _ _ (hk₃ _ _ hS₂)⟩ ⟨_, tk₃, rfl, htk₃, fun b o hb hC hI e => kp b o (hk₃ b o (since₂ b o hb hC hI e))⟩
    have hself : ∀ (k : Result → Sem PySem.Fin) (l : List Value) (Q : Value → Shared → Prop) (E : Value → Shared → Prop) (s : Shared), Q (.ref h₃.objs.size) s → IsRangeIter s.heap h₃.objs.size (((i + 1 : Nat) : Int) + ((0 : Nat) : Int) * 1) (((N - (i + 1) : Nat) : Int) - ((0 : Nat) : Int)) 1 →
        wpAny (model prog w) (A.over (.compStart (Expr.GeneratorExp elt [⟨.Name x1 p1, it1, [], 0⟩, ⟨.Name x2 p2, it2, ifs, 0⟩] scope pos) 1 (.ref h₃.objs.size) .none cenv) [Frame.ret k none false l (.compLoop (Expr.GeneratorExp elt [⟨.Name x1 p1, it1, [], 0⟩, ⟨.Name x2 p2, it2, ifs, 0⟩] scope pos) 0 (.ref I) .none cenv) p []]) (pyIter (.ref h₃.objs.size)) Q E s := fun k l Q E s hQ hit => (Walks.range (prog := prog) (w := w) (A := A.over (.compStart (Expr.GeneratorExp elt [⟨.Name x1 p1, it1, [], 0⟩, ⟨.Name x2 p2, it2, ifs, 0⟩] scope pos) 1 (.ref h₃.objs.size) .none cenv) [Frame.ret k none false l (.compLoop (Expr.GeneratorExp elt [⟨.Name x1 p1, it1, [], 0⟩, ⟨.Name x2 p2, it2, ifs, 0⟩] scope pos) 0 (.ref I) .none cenv) p []]) hh h₃.objs.size ((i + 1 : Nat) : Int) 1 (N - (i + 1))).self 0 s Q E hit hQ
    show Seg _ A _ _ _ s₀ _ ((compStart (Expr.GeneratorExp elt [⟨.Name x1 p1, it1, [], 0⟩, ⟨.Name x2 p2, it2, ifs, 0⟩] scope pos) 1 (.ref h₃.objs.size) .none cenv).onRaise (fun x => do noteFrame x cenv; standAt theWindowsPlace)) [_] _
    unfold compStart
    rw [Sem.onRaise_eq_wrap]
    show Seg _ A _ _ _ s₀ _ ((ask >>= _).wrap _ _ _ _) [_] _
    refine seg_bind_wrap (wpAny_askSetting ?_)
    split
    · exact seg_again rfl (inner _ _ rfl)
    · first
        | exact seg_bind_wrap (wpAny_rule (seg_bind_wrap (wpAny_standAt (seg_bind_wrap (hself _ _ _ _ _ (seg_again rfl (inner _ _ rfl)) hitJ0)))))
        | (refine seg_bind_wrap (wpAny_rule ?_); show Seg _ A _ _ _ s₀ _ ((standAt it2.pos >>= _).wrap _ _ _ _) [_] _; exact seg_bind_wrap (wpAny_standAt (seg_bind_wrap (hself _ _ _ _ _ (seg_again rfl (inner _ _ rfl)) hitJ0))))
end
end MM
namespace MM
open PySem
open Sem (wp)
section
variable {prog : Program} {w : World} {A : Around} {elt it1 it2 : Expr} {x1 x2 : Str} {p1 p2 : Pos} {ifs : List Expr} {scope : Scope} {pos : Pos} {C I S : Addr} {cenv : Env} {N : Nat} {pz : Nat → Nat → Bool} {href : Heap} {D U : Nat}
theorem seg_start2 (hh : A.handled = none) (hC : cenv.locals = C) (hIC : I < C) (hCS : C < S) (hx1 : cenv.kindOf x1 = some .local) (hx2 : cenv.kindOf x2 = some .local) (h12 : x1 ≠ x2) (hp : (cenv.scope.kind == .class || (cenv.scope.kind == .module && cenv.locals != cenv.globals)) = false)
    (hco : cenv.scope.isCoroutine = false) (hN : N ≤ 1000000) (hD : A.depth + 3 ≤ D) (hU : A.units + 9 ≤ U) (hq : Quiet2 prog w cenv x1 x2 it2 ifs elt C I N pz href D U)
    (s₀ s : Shared) (m : Str → Option Value) (hn : s.heap.Ns C m) (hit : IsRangeIter s.heap I ((0 : Nat) : Int) (N : Int) 1) (hold : Old2 C I href s.heap) (hS : ∃ o, s.heap.get? S = some o) (hsince : Since2 C I S s₀ s) :
    Seg (model prog w) A (end2 C I S) (proto2 C I S) (cout pz N N 0) s₀ (.compStart (Expr.GeneratorExp elt [⟨.Name x1 p1, it1, [], 0⟩, ⟨.Name x2 p2, it2, ifs, 0⟩] scope pos) 0 (.ref I) .none cenv) ((model prog w).den (.compStart (Expr.GeneratorExp elt [⟨.Name x1 p1, it1, [], 0⟩, ⟨.Name x2 p2, it2, ifs, 0⟩] scope pos) 0 (.ref I) .none cenv)) [] s := by
  have hh' : (A.over (.compStart (Expr.GeneratorExp elt [⟨.Name x1 p1, it1, [], 0⟩, ⟨.Name x2 p2, it2, ifs, 0⟩] scope pos) 0 (.ref I) .none cenv) []).handled = none := hh
  have loop := seg_out (it1 := it1) (p1 := p1) (p2 := p2) (scope := scope) (pos := pos) hh hC hIC hCS hx1 hx2 h12 hp hco hN hD hU hq N 0 (Nat.zero_add _) s₀ s m hn hit hold hS hsince
  have hself : ∀ (Q : Value → Shared → Prop) (E : Value → Shared → Prop) (s : Shared), Q (.ref I) s → IsRangeIter s.heap I (((0 : Nat) : Int) + ((0 : Nat) : Int) * 1) ((N : Int) - ((0 : Nat) : Int)) 1 → wpAny (model prog w) (A.over (.compStart (Expr.GeneratorExp elt [⟨.Name x1 p1, it1, [], 0⟩, ⟨.Name x2 p2, it2, ifs, 0⟩] scope pos) 0 (.ref I) .none cenv) []) (pyIter (.ref I)) Q E s := fun Q E s hQ hit => (Walks.range (prog := prog) (w := w) (A := A.over (.compStart (Expr.GeneratorExp elt [⟨.Name x1 p1, it1, [], 0⟩, ⟨.Name x2 p2, it2, ifs, 0⟩] scope pos) 0 (.ref I) .none cenv) []) hh I ((0 : Nat) : Int) 1 N).self 0 s Q E hit hQ
  have hit0 : IsRangeIter s.heap I (((0 : Nat) : Int) + ((0 : Nat) : Int) * 1) ((N : Int) - ((0 : Nat) : Int)) 1 := by
    rw [show ((0 : Nat) : Int) + ((0 : Nat) : Int) * 1 = ((0 : Nat) : Int) by omega, show (N : Int) - ((0 : Nat) : Int) = (N : Int) by omega]; exact hit
  show Seg _ A _ _ _ s₀ _ ((compStart (Expr.GeneratorExp elt [⟨.Name x1 p1, it1, [], 0⟩, ⟨.Name x2 p2, it2, ifs, 0⟩] scope pos) 0 (.ref I) .none cenv).onRaise (leaving cenv)) [] s
  unfold compStart
  rw [Sem.onRaise_eq_wrap]
  show Seg _ A _ _ _ s₀ _ ((ask >>= _).wrap _ _ _ _) [] s
  refine seg_bind_wrap (wpAny_askSetting ?_)
  split
  · exact seg_again rfl loop
  · first
      | exact seg_bind_wrap (wpAny_rule (seg_bind_wrap (wpAny_standAt (seg_bind_wrap (hself _ _ _ (seg_again rfl loop) hit0)))))
      | (refine seg_bind_wrap (wpAny_rule ?_); show Seg _ A _ _ _ s₀ _ ((standAt it1.pos >>= _).wrap _ _ _ _) [] s; exact seg_bind_wrap (wpAny_standAt (seg_bind_wrap (hself _ _ _ (seg_again rfl loop) hit0))))
theorem gen2_fresh (hh : A.handled = none) (hC : cenv.locals = C) (hIC : I < C) (hCS : C < S) (hx1 : cenv.kindOf x1 = some .local) (hx2 : cenv.kindOf x2 = some .local) (h12 : x1 ≠ x2) (hp : (cenv.scope.kind == .class || (cenv.scope.kind == .module && cenv.locals != cenv.globals)) = false)
    (hco : cenv.scope.isCoroutine = false) (hN : N ≤ 1000000) (hD : A.depth + 3 ≤ D) (hU : A.units + 10 ≤ U) {a : Addr} {g : Nat} {s : Shared} {m : Str → Option Value} (hq : Quiet2 prog w cenv x1 x2 it2 ifs elt C I N pz s.heap D U)
    (hg : s.heap.IsGen a g) (hgs : s.gens[g]? = some (.fresh (.compStart (Expr.GeneratorExp elt [⟨.Name x1 p1, it1, [], 0⟩, ⟨.Name x2 p2, it2, ifs, 0⟩] scope pos) 0 (.ref I) .none cenv))) (hn : s.heap.Ns C m) (hit : IsRangeIter s.heap I ((0 : Nat) : Int) (N : Int) 1) (hl : s.heap.NoLimit) (hDA : A.in1.depth + 3 ≤ D) (hUA : A.in1.units + 9 ≤ U) :
    Gen2 prog w A a g C I S (cout pz N N 0) 0 s := by
  refine ⟨hg, hl, _, hgs, fun s'' hal => ⟨rfl, ?_⟩⟩
  refine seg_start2 (A := A.in1) hh hC hIC hCS hx1 hx2 h12 hp hco hN hDA hUA hq s'' s'' m (hn.at' fun o e => hal.1 _ o (Nat.ne_of_lt hCS) e) (hal.1 _ _ (Nat.ne_of_lt (Nat.lt_trans hIC hCS)) hit) (fun b o hb hI e => hal.1 b o (Nat.ne_of_lt (Nat.lt_trans hb hCS)) e) hal.2 ⟨s''.heap, s''.toks, rfl, Nat.le_refl _, fun _ _ _ _ _ e => e⟩
end
/-! ### made -/
theorem eval_gen2 (elt : Expr) (g1 g2 : Comprehension) (scope : Scope) (pos : Pos) (env : Env) (hco : scope.isCoroutine = false) (ha : g1.is_async = 0) :
    eval (.GeneratorExp elt [g1, g2] scope pos) env = (do
      let x ← eval g1.iter env
      standAt g1.iter.pos
      let x ← genFold g1.iter env x
      let it ← holding [x] (pyIter x)
      enterFrame
      let cl ← closureFor scope env
      let code ← genexprCode env pos (env.qual ++ "<genexpr>") scope
      let bi ← builtinsFor env.globals env.builtins
      let cenv ← newFunctionEnv scope env.globals cl [(".0", it)] (env.qual ++ "<genexpr>.") none code none bi
      newGenerator (.compStart (.GeneratorExp elt [g1, g2] scope pos) 0 it .none cenv) "<genexpr>" (env.qual ++ "<genexpr>")) := by
  obtain ⟨target, iter, ifs, a⟩ := g1
  simp only at ha
  subst ha
  rw [arm_eval_GeneratorExp]
  simp only [hco, Bool.false_eq_true, if_false]
  cases iter <;> rfl
section
variable {M : Model} {A : Around} {E : Value → Shared → Prop} {s : Shared}
theorem make_gen2 {env : Env} {elt : Expr} {g1 g2 : Comprehension} {scope : Scope} {cl : List (Str × Addr)} {pos : Pos} {Q : Value → Shared → Prop} (ha : g1.is_async = 0)
    (hco : scope.isCoroutine = false) (hclos : closureFor scope env = pure cl) (hcell : ∀ y ∈ scope.names, y.2 ≠ .cell) (h0 : scope.names.lookup (".0" : Str) = some NameKind.local) (hkind : scope.kind = .function)
    (hroom : A.depth < recursionLimit)
    (h : wpAny M A (eval g1.iter env) (fun xv s₁ => wpAny M A (pyIter xv) (fun it s₂ => s₂.heap.NoLimit ∧
      wpAny M A (genexprCode env pos (env.qual ++ "<genexpr>") scope) (fun code s₃ => wpAny M A (builtinsFor env.globals env.builtins) (fun bi s₄ =>
        ∀ h', h'.Ns s₄.heap.objs.size (fun y => if y = ".0" then some it else none) → Heap.SameBut s₄.heap.objs.size (s₄.heap.push { cls := .type "frame", data := .dict #[] }) h' →
          Q (.ref h'.objs.size) { s₄ with
            gens := s₄.gens.push (.fresh (.compStart (.GeneratorExp elt [g1, g2] scope pos) 0 it .none (genEnv scope cl s₄.heap.objs.size code bi env))),
            toks := s₄.toks + 1 + 1 + 1,
            heap := h'.push { cls := .type "generator", data := .fields #[.int s₄.gens.size 0, .str "<genexpr>" (s₄.toks + 1), .str (env.qual ++ "<genexpr>") (s₄.toks + 1 + 1)] } }) E s₃) E s₂) E s₁) E s)
    (hs : ∀ x, genFold g1.iter env x = pure x) :
    wpAny M A (eval (.GeneratorExp elt [g1, g2] scope pos) env) Q E s := by
  rw [eval_gen2 _ _ _ _ _ _ hco ha, hclos]
  refine wpAny_bind (wpAny_mono h (fun xv s₁ h₁ => ?_) fun _ _ e => e)
  refine wpAny_bind (wpAny_standAt ?_)
  refine wpAny_bind (wpAny_of_eq (hs xv) ?_)
  refine wpAny_bind (wpAny_holding (wpAny_mono h₁ (fun it s₂ h₂ => ?_) fun _ _ e => e))
  refine wpAny_bind (wpAny_enterFrame h₂.1 hroom ?_)
  refine wpAny_bind (wpAny_pure ?_)
  refine wpAny_bind (wpAny_mono h₂.2 (fun code s₃ h₃ => ?_) fun _ _ e => e)
  refine wpAny_bind (wpAny_mono h₃ (fun bi s₄ h₄ => ?_) fun _ _ e => e)
  have hbinds : ∀ y ∈ ([((".0" : Str), it)] : List (Str × Value)), scope.names.lookup y.1 = some NameKind.local := by
    intro y hy
    rcases List.mem_cons.mp hy with rfl | hy
    · exact h0
    · cases hy
  refine wpAny_bind (wpAny_newFunctionEnv hcell hbinds (fun h' hn' hs' => ?_) hkind)
  have e : (fun y : Str => ([((".0" : Str), it)] : List (Str × Value)).reverse.lookup y) = fun y : Str => if y = (".0" : Str) then some it else none := by
    funext y
    by_cases hy : y = ".0"
    · subst hy; simp
    · have : (y == (".0" : Str)) = false := by simpa using hy
      simp [List.lookup, this, hy]
  rw [e] at hn'
  simp only [newGenerator, newFields]
  refine wpAny_bind (wpAny_newGen (wpAny_bind (wpAny_mkText (wpAny_bind (wpAny_mkText (wpAny_newObj_type ?_ (by size_fits)))))))
  exact h₄ h' hn' hs'
end
end MM
namespace MM
open PySem PySem.Spec PyProof.Rows L2 GxR
/-! ### sum(1 for x1 in range(N) for x2 in range(x1 + 1, N) if ..) -/
/-- what the clauses within answer, at i and k -/
def EltG2 (X : Cx) (P : Addr) (scope : Scope) (x1 x2 : Str) (it2 : Expr) (ifs : List Expr) (elt : Expr) (N : Nat) (pz : Nat → Nat → Bool) (ok : L2.St → Hp → Prop) : Prop :=
  ∀ (pins : List (Addr × Obj)) (σ : L2.St) (H1 : Hp) (s1 : Shared), Inv X pins σ H1 s1 → ∀ (cenv : Env) (A' : Around) (E' : Value → Shared → Prop) (s2 : Shared) (m2 : Str → Option Value) (i : Nat) (t1 : Tok), GenIn X P scope s1 cenv s2 → TabG H1 P → ok σ H1 → A'.handled = none → A'.depth ≤ X.A.depth + 3 → A'.units ≤ X.A.units + 12 →
    s2.heap.Ns cenv.locals m2 → i < N → m2 x1 = some (.int (i : Int) t1) →
    (∀ (k : Nat) (t2 : Tok), k < N → m2 x2 = some (.int (k : Int) t2) →
      wpAny (model X.prog X.w) A' (tests2 ifs cenv) (fun b s3 => b = pz i k ∧ Keeps s2 s3) E' s2 ∧
      wpAny (model X.prog X.w) A' (eval elt cenv) (fun y s3 => (∃ t, y = .int 1 t) ∧ Keeps s2 s3) E' s2) ∧
    wpAny (model X.prog X.w) A' (eval it2 cenv) (fun x s3 => Keeps s2 s3 ∧ foldedSetIterable it2 cenv x = pure x ∧ ∃ r t u v, x = .ref r ∧ IsRange s3.heap r ((i + 1 : Nat) : Int) (N : Int) 1 t u v) E' s2
def tSum2 (P : Addr) (N : Nat) (pz : Nat → Nat → Bool) (ok : L2.St → Hp → Prop) (te : TE) : TE := fun σ H Q => te σ H fun v H1 => TabG H1 P ∧ N ≤ 1000000 ∧ ok σ H1 ∧ (∃ a, v = .ref a ∧ H1 a = some (.rng 0 N)) ∧ ∀ H2, Tabbed P H1 H2 → Q (.int (cout pz N N 0 : Nat)) H2
theorem pre_ones (n : Nat) : preSum (fun _ => 1) n = n := by
  induction n with
  | zero => rfl
  | succ n ih => show preSum _ n + 1 = _; rw [ih]; omega
theorem pe_sumG2 {X : Cx} {c P : Addr} {elt it1 it2 : Expr} {ifs : List Expr} {x1 x2 : Str} {p1 p2 p pos gpos : Pos} {scope : Scope} {ok : L2.St → Hp → Prop} {te : TE} {k N : Nat} {pz : Nat → Nat → Bool}
    (hr : Room k X.A) (hg : Gl X "sum") (hm : X.mg "sum" = none) (hb : bootBuiltins "sum" = some (.builtin "sum")) (TB : TabB X.base X.mg c P) (hcode : X.env.code = .ref c) (S1 : GenS X.env scope x1) (S2 : GenS X.env scope x2) (h12 : x1 ≠ x2) (hi : PE X it1 te) (hel : EltG2 X P scope x1 x2 it2 ifs elt N pz ok)
    (hs : ∀ v, genFold it1 X.env v = pure v) (he : starEach [.GeneratorExp elt [⟨.Name x1 p1, it1, [], 0⟩, ⟨.Name x2 p2, it2, ifs, 0⟩] scope gpos] X.env = (false, eval (.GeneratorExp elt [⟨.Name x1 p1, it1, [], 0⟩, ⟨.Name x2 p2, it2, ifs, 0⟩] scope gpos) X.env) :: starEach [] X.env := by rfl) :
    PE X (.Call (.Name "sum" p) [.GeneratorExp elt [⟨.Name x1 p1, it1, [], 0⟩, ⟨.Name x2 p2, it2, ifs, 0⟩] scope gpos] [] pos) (tSum2 P N pz ok te) := by
  refine ⟨fun pins s σ H Q I h => wpAny_Call_Name_kw (ld_blt I hg hm hb (PyProof.Rows.callWith_builtin1 ?_ he (by rfl)))⟩
  rw [he]
  show wpAny _ _ (spliced ((false, eval (.GeneratorExp elt [⟨.Name x1 p1, it1, [], 0⟩, ⟨.Name x2 p2, it2, ifs, 0⟩] scope gpos) X.env) :: backTo pos (starEach [] X.env))) _ _ s
  refine Calls.spliced_cons ?_
  refine make_gen2 rfl S1.co (closure_ok S1.free) S1.cell S1.dot S1.kind (by have := hr.dp; omega) ?_ hs
  refine thn (hi.run pins s σ H _ I h) fun xv s1 ⟨v, H1, I1, r1, ⟨ps, hP, ht⟩, hN, hok, ⟨ra, ev, hra⟩, q1⟩ => ?_
  subst ev
  obtain rfl : xv = .ref ra := r1
  obtain ⟨t, u, v, hrr⟩ := (show ObjOk X.prog X.w H1 s1.heap ra (.rng 0 N) from I1.hok ra _ hra)
  have hsz : Builtin.Range.rangeSize 0 (N : Int) 1 = (N : Int) := by
    unfold Builtin.Range.rangeSize
    simp
    try omega
  have hsm : Builtin.Range.small 0 (N : Int) 1 = true := by
    unfold Builtin.Range.small
    rw [hsz]
    unfold Builtin.Range.rangeFitsLong
    simp
    try omega
  refine wpAny_pyIter_range hrr hsm ?_
  generalize ho : ({ cls := _, data := _ } : Obj) = o
  have hfr : o.isFreed = false := by rw [← ho]; rfl
  have hPs : s1.heap.get? P = some { cls := .none, data := .fields ps } := I1.hok P _ hP
  have sz2 : (s1.heap.push o).objs.size = s1.heap.objs.size + 1 := Heap.size_push ..
  have hPlt := Heap.lt_size hPs
  have old : ∀ b u, s1.heap.get? b = some u → (s1.heap.push o).get? b = some u := fun b u e => Heap.get?_push_of_some _ e
  have cd : PySem.W.CodeHd (s1.heap.push o) c P := TB.code.keeps fun b u e => old b u (I1.bk b u e)
  have lim2 : (s1.heap.push o).NoLimit := I1.nolimit.push o
  have itr : IsRangeIter (s1.heap.push o) s1.heap.objs.size ((0 : Nat) : Int) (N : Int) 1 := by
    have := Heap.get?_push_size s1.heap hfr
    rw [← ho, hsz] at this
    show IsRangeIter _ _ _ _ _
    rw [← ho, hsz]
    simpa using this
  refine ⟨lim2, ?_⟩
  have cont : ∀ (code : Value) (h3 : Heap) (tk : Nat) (ps' : Array Value), Heap.ExtBut P (s1.heap.push o) h3 → (s1.heap.push o).objs.size ≤ h3.objs.size → h3.get? P = some { cls := .none, data := .fields ps' } → (∃ more, ps' = ps ++ more) → TriplesOk ps'.toList →
      wpAny (model X.prog X.w) X.A (builtinsFor X.env.globals X.env.builtins) (fun bi s₄ =>
        ∀ h', h'.Ns s₄.heap.objs.size (fun y => if y = ".0" then some (.ref s1.heap.objs.size) else none) → Heap.SameBut s₄.heap.objs.size (s₄.heap.push { cls := .type "frame", data := .dict #[] }) h' →
          wpAny (model X.prog X.w) X.A (call (.builtin "sum") [.ref h'.objs.size]) (fun u s' => ∃ v H', Inv X pins σ H' s' ∧ RelV v u ∧ Q v H') X.xe { s₄ with
            gens := s₄.gens.push (.fresh (.compStart (.GeneratorExp elt [⟨.Name x1 p1, it1, [], 0⟩, ⟨.Name x2 p2, it2, ifs, 0⟩] scope gpos) 0 (.ref s1.heap.objs.size) .none (genEnv scope (cloFrom X.env.cells scope.names []) s₄.heap.objs.size code bi X.env))),
            toks := s₄.toks + 1 + 1 + 1,
            heap := h'.push { cls := .type "generator", data := .fields #[.int s₄.gens.size 0, .str "<genexpr>" (s₄.toks + 1), .str (X.env.qual ++ "<genexpr>") (s₄.toks + 1 + 1)] } }) X.xe { s1 with heap := h3, toks := tk } := by
    intro code h3 tk ps' hx hsz3 hP3 hmore ht3
    obtain ⟨bm, ob, e1, e2, e3, e4, e5, e6, e7, e8⟩ := TB.bm
    have hcP : cStatics ≠ P := by
      intro e; obtain ⟨_, ⟨o', es, ep, ho', hd', _⟩, _⟩ := I1.nolimit; rw [e, hPs] at ho'; cases ho'; cases hd'
    have hsz4 : s1.heap.objs.size + 1 ≤ h3.objs.size := by rw [← sz2]; exact hsz3
    have hcl : cStatics < s1.heap.objs.size := let ⟨_, hns, _⟩ := I1.nolimit; hns.lt
    have keep3 : ∀ b u, b ≠ P → s1.heap.get? b = some u → h3.get? b = some u := fun b u hb e => hx b u hb (old b u e)
    have lim3 : h3.NoLimit := lim2.extBut hx hcP
    refine wpAny_builtinsFor (m := X.mg) (by rw [I1.ok.glob]; exact ((I1.mod.glob.keeps I1.bk).push o).extBut hx TB.gP) e1 e2 (keep3 _ _ e4 (I1.bk _ _ e5)) e6 e7 e8 ?_
    intro h' hn' hs'
    show wpAny (model X.prog X.w) X.A (call (.builtin "sum") [.ref h'.objs.size]) _ X.xe { s1 with gens := s1.gens.push _, toks := tk + 1 + 1 + 1, heap := h'.push _ }
    have hsz' : h'.objs.size = h3.objs.size + 1 := by rw [hs'.1, Heap.size_push]
    have keep' : ∀ b u, h3.get? b = some u → h'.get? b = some u := fun b u e => hs'.extBut b u (Nat.ne_of_lt (Heap.lt_size e)) (Heap.get?_push_of_some _ e)
    generalize hgo : ({ cls := .type "generator", data := .fields #[.int s1.gens.size 0, .str "<genexpr>" (tk + 1), .str (X.env.qual ++ "<genexpr>") (tk + 1 + 1)] } : Obj) = go
    have keep5 : ∀ b u, h3.get? b = some u → (h'.push go).get? b = some u := fun b u e => Heap.get?_push_of_some _ (keep' b u e)
    have hg5 : (h'.push go).IsGen h'.objs.size s1.gens.size := by
      rw [← hgo]; exact ⟨_, _, _, Heap.get?_push_size _ rfl, rfl, rfl, rfl⟩
    have hq : Quiet2 X.prog X.w (genEnv scope (cloFrom X.env.cells scope.names []) h3.objs.size code builtinsNs X.env) x1 x2 it2 ifs elt h3.objs.size s1.heap.objs.size N pz (h'.push go) (X.A.depth + 3) (X.A.units + 12) := by
      have gi : ∀ s₂ : Shared, Old2 h3.objs.size s1.heap.objs.size (h'.push go) s₂.heap → GenIn X P scope s1 (genEnv scope (cloFrom X.env.cells scope.names []) h3.objs.size code builtinsNs X.env) s₂ := fun s₂ ho2 => by
        have kp : ∀ b ob, b ≠ P → s1.heap.get? b = some ob → s₂.heap.get? b = some ob := fun b ob hb e => by
          have hlt := Heap.lt_size e
          exact ho2 b ob (Nat.lt_of_lt_of_le hlt (Nat.le_trans (Nat.le_succ _) hsz4)) (Nat.ne_of_lt hlt) (keep5 b ob (keep3 b ob hb e))
        exact ⟨rfl, rfl, rfl, rfl, kp, I1.nolimit.at fun ob e => kp _ ob hcP e⟩
      refine ⟨fun A' E' i k s₂ m₂ t1 t2 hA hD hU hi' hk' hn hm1 hm2 ho2 => ?_, fun A' E' i k s₂ m₂ t1 t2 hA hD hU hi' hk' hn hm1 hm2 ho2 => ?_, fun A' E' i s₂ m₂ t1 hA hD hU hi' hn hm1 ho2 => ?_⟩
      · exact wpAny_with_toks (Nat.le_refl s₂.toks) (wpAny_mono (((hel pins σ H1 s1 I1 _ A' _ s₂ m₂ i t1 (gi s₂ ho2) ⟨ps, hP, ht⟩ hok hA hD hU hn hi' hm1).1 k t2 hk' hm2).1) (fun b s3 q hq => ⟨q.1, q.2, hq⟩) fun _ _ e => e)
      · exact wpAny_with_toks (Nat.le_refl s₂.toks) (wpAny_mono (((hel pins σ H1 s1 I1 _ A' _ s₂ m₂ i t1 (gi s₂ ho2) ⟨ps, hP, ht⟩ hok hA hD hU hn hi' hm1).1 k t2 hk' hm2).2) (fun b s3 q hq => ⟨q.1, q.2, hq⟩) fun _ _ e => e)
      · exact wpAny_with_toks (Nat.le_refl s₂.toks) (wpAny_mono ((hel pins σ H1 s1 I1 _ A' _ s₂ m₂ i t1 (gi s₂ ho2) ⟨ps, hP, ht⟩ hok hA hD hU hn hi' hm1).2) (fun b s3 q hq => ⟨q.1, hq, q.2⟩) fun _ _ e => e)
    have hroom : X.A.depth < recursionLimit := by have := hr.dp; omega
    have n1 : h'.objs.size < (h'.push go).objs.size := by rw [Heap.size_push]; exact Nat.lt_succ_self _
    have n2 : h'.objs.size ≠ h3.objs.size := by omega
    have n3 : h'.objs.size ≠ s1.heap.objs.size := by omega
    have n4 : h3.objs.size < (h'.push go).objs.size := by rw [Heap.size_push]; omega
    have n5 : s1.heap.objs.size < h3.objs.size := by omega
    have n6 : cStatics < h3.objs.size := Nat.lt_trans hcl n5
    have W := walk_gen2 (prog := X.prog) (w := X.w) (A := X.A.in1) hr.hd (a := h'.objs.size) (C := h3.objs.size) (I := s1.heap.objs.size) (S := (h'.push go).objs.size) (g := s1.gens.size) (n := cout pz N N 0) n1 n2 n3 n4 n5 n6 (Nat.ne_of_lt hcl) hroom
    have hIt : IsRangeIter (h'.push go) s1.heap.objs.size ((0 : Nat) : Int) (N : Int) 1 := keep5 _ _ (hx _ _ (Nat.ne_of_gt hPlt) itr)
    refine call_sum_all (wpAny_pyIter_gen hg5 ⟨_, _, _, _, _, rfl, W, fun s' hk => ⟨W.keep 0 _ s' ?_ hk, fun s'' t' hmv => ?_⟩⟩)
    · exact gen2_fresh (A := X.A.in1) (pz := pz) (N := N) (D := X.A.depth + 3) (U := X.A.units + 12) (cenv := genEnv scope (cloFrom X.env.cells scope.names []) h3.objs.size code builtinsNs X.env) hr.hd rfl n5 n4 S1.loc S2.loc h12 (by simp [genEnv, S1.kind]) S1.co hN (Nat.le_refl _) (by show X.A.units + 1 + 10 ≤ X.A.units + 12; omega) hq hg5 (Array.getElem?_push_size ..) (hn'.push _) hIt (lim3.keeps keep5) (Nat.le_refl _) (by show X.A.units + 1 + 1 + 9 ≤ X.A.units + 12; omega)
    · obtain ⟨more, em⟩ := hmore
      obtain ⟨hk1, tk1, rfl, htk1, hkk, _⟩ := hk
      obtain ⟨hm1, hm2, hm3, hm4, hm5⟩ := hmv
      have lt5 : ∀ b u, h3.get? b = some u → b < h3.objs.size ∧ b ≠ (h'.push go).objs.size := fun b u e => by
        have := Heap.lt_size e
        rw [Heap.size_push]
        exact ⟨this, Nat.ne_of_lt (Nat.lt_trans (Nat.lt_trans this (by omega : h3.objs.size < h'.objs.size)) (Nat.lt_succ_self _))⟩
      have fin : ∀ b u, b ≠ s1.heap.objs.size → h3.get? b = some u → s''.heap.get? b = some u := fun b u hb e => hm1 b u (lt5 b u e).1 hb (hkk b u (lt5 b u e).2 (keep5 b u e))
      have J := inv_tab (more := more) (h' := s''.heap) (g' := s''.gens) (d' := s''.drawn) (t' := s''.toks) I1 hP (fun b u hb e => fin b u (Nat.ne_of_lt (Heap.lt_size e)) (keep3 b u hb e)) (by rw [← em]; exact fin P _ (Nat.ne_of_lt hPlt) hP3) (hm2.bare (I1.bare.push rfl))
      rw [sh_eta s1 s'' hm4] at J
      refine ⟨.int (cout pz N N 0 : Nat), _, J, ⟨t', by rw [pre_ones]⟩, q1 _ ⟨⟨ps ++ more, upd_same, by rw [← em]; exact ht3⟩, fun b hb => upd_ne hb⟩⟩
  have hP2 := old P _ hPs
  cases hf : codeAmong gpos ps.toList with
  | none =>
    refine wpAny_genexprCodeX hcode (cd.code hP2 ht) (cd.tab hP2) hf fun c' h' tk hx hge hlt hco' _ htab' _ => ?_
    obtain ⟨_, _, _, _, _, _, _, _, _, _, _, _, _, _, _, _, _, _, _, htr, _⟩ := hco'
    exact wpAny_mono (cont _ h' tk _ hx (Nat.le_trans hge (Nat.le_of_lt hlt)) htab'.2 ⟨_, rfl⟩ htr) (fun bi s4 q h5 e1 e2 => Calls.spliced_nil (q h5 e1 e2)) fun _ _ e => e
  | some cv => exact wpAny_genexprCode_hit hcode (cd.code hP2 ht) hf (wpAny_mono (cont cv (s1.heap.push o) s1.toks ps (Heap.ExtBut.refl _ _) (Nat.le_refl _) hP2 ⟨#[], by simp⟩ ht) (fun bi s4 q h5 e1 e2 => Calls.spliced_nil (q h5 e1 e2)) fun _ _ e => e)
end MM
namespace MM
open PySem PySem.Spec PyProof.Rows L2 GxR
/-! ### 1 for i .. for k in range(i + 1, n) if row[i] > row[k] -/
theorem free_two {l : List (Str × NameKind)} {cells : List (Str × Addr)} {z z' : Str} {c c' : Addr} (h : (l.all fun y => y.2 != .free || (y.1 == z || y.1 == z')) = true) (hc : cells.lookup z = some c) (hc' : cells.lookup z' = some c') : ∀ y ∈ l, y.2 = .free → ∃ c, cells.lookup y.1 = some c := fun y hy e => by
  have := List.all_eq_true.mp h y hy
  rw [e] at this
  have e2 : y.1 = z ∨ y.1 = z' := by simpa using this
  rcases e2 with e2 | e2
  · exact ⟨c, by rw [e2]; exact hc⟩
  · exact ⟨c', by rw [e2]; exact hc'⟩
def gtAt (row : List Int) (i k : Nat) : Bool := decide ((row[k]?).getD 0 < (row[i]?).getD 0)
/-- the def's names: the row at jr, the number at jn -/
def okTurn (jr jn : Nat) (row : List Int) : L2.St → Hp → Prop := fun σ H => row.length ≤ 1000000 ∧ (∃ a, σ[jr]? = some (some (.ref a)) ∧ FTup H a (row.map V.int)) ∧ σ[jn]? = some (some (.int (row.length : Nat)))
theorem elt_turn {X : Cx} {P : Addr} {scope : Scope} {x1 x2 z zn : Str} {q1 q2 q3 q4 q5 q6 q7 q8 q9 q10 q11 q12 q13 q14 : Pos} {jr jn n n2 : Nat} {row : List Int}
    (sk : scope.kind = .function) (sx1 : scope.names.lookup x1 = some .local) (sx2 : scope.names.lookup x2 = some .local) (sr : scope.names.lookup ("range" : Str) = some .globalImplicit) (mr : X.mg "range" = none)
    (hz : scope.names.lookup z = some .free) (hc : X.env.kindOf z = some .cell) (cl : ∀ c, X.env.cells.lookup z = some c → (cloFrom X.env.cells scope.names []).lookup z = some c) (hj : X.N[jr]? = some z)
    (hz' : scope.names.lookup zn = some .free) (hc' : X.env.kindOf zn = some .cell) (cl' : ∀ c, X.env.cells.lookup zn = some c → (cloFrom X.env.cells scope.names []).lookup zn = some c) (hj' : X.N[jn]? = some zn)
    (hd1 : (x1 == ("__debug__" : Str)) = false := by decide) (hd2 : (x2 == ("__debug__" : Str)) = false := by decide) (hdz : (z == ("__debug__" : Str)) = false := by decide) (hnz : (z == ("__classdict__" : Str)) = false := by decide) (hdz' : (zn == ("__debug__" : Str)) = false := by decide) (hnz' : (zn == ("__classdict__" : Str)) = false := by decide) :
    EltG2 X P scope x1 x2 (.Call (.Name "range" q1) [.BinOp (.Name x1 q2) .Add (.Constant (.int 1) n2 q3) q4, .Name zn q5] [] q6)
      [.Compare (.Subscript (.Name z q7) (.Name x1 q8) q9) [.Gt] [.Subscript (.Name z q10) (.Name x2 q11) q12] q13] (.Constant (.int 1) n q14) row.length (gtAt row) (okTurn jr jn row) := by
  intro pins σ H1 s1 I cenv A' E' s2 mm i t1 G ⟨ps, hPt, _⟩ ⟨hrow, ⟨a, hs, ⟨ob, oc, od, hob⟩⟩, hsn⟩ hA hD hU hn hi hm1
  have hP : H1 P ≠ none := by rw [hPt]; exact fun z => nomatch z
  have L := G.lo I hP sk
  have kk : ∀ z, cenv.kindOf z = scope.names.lookup z := fun z => by show cenv.scope.names.lookup z = _; rw [G.sco]
  have sk' : cenv.scope.kind = .function := by rw [G.sco]; exact sk
  refine ⟨fun k t2 hk hm2 => ⟨?_, wpAny_Constant_int ⟨⟨_, rfl⟩, keeps_tok _ _⟩⟩, ?_⟩
  · obtain ⟨e1, hlen, its, rvs, htup⟩ := I.hok a _ hob
    have aneP : a ≠ P := fun z => by
      have q : s1.heap.get? P = some { cls := .none, data := .fields ps } := I.hok P _ hPt
      rw [z, q] at e1; cases e1; cases oc
    have htup2 : IsTup s2.heap a its.toArray := by
      obtain ⟨o, t1, t2, t3⟩ := htup
      exact ⟨o, G.keep a o aneP t1, t2, t3⟩
    have il : its.length = row.length := by rw [← rvs.length, List.length_map]
    have getI : ∀ j, j < row.length → ∃ t, its[j]? = some (.int ((row[j]?).getD 0) t) := fun j hj => by
      obtain ⟨u, hu, ru⟩ := rvs.get (show (row.map V.int)[j]? = some (V.int ((row[j]?).getD 0)) by rw [List.getElem?_map, List.getElem?_eq_getElem hj]; rfl)
      obtain ⟨t, rfl⟩ : ∃ t, u = .int ((row[j]?).getD 0) t := ru
      exact ⟨t, hu⟩
    have sub : ∀ (x : Str) (pa pb pc : Pos) (j : Nat) (t : Tok) (Q : Value → Shared → Prop), j < row.length → scope.names.lookup x = some .local → mm x = some (.int (j : Int) t) → (x == ("__debug__" : Str)) = false → (∀ t', Q (.int ((row[j]?).getD 0) t') s2) → wpAny (model X.prog X.w) A' (eval (.Subscript (.Name z pa) (.Name x pb) pc) cenv) Q E' s2 := fun x pa pb pc j t Q hj2 sx hm hd q => by
      refine Subscript_ (cap_loc G I ⟨ps, hPt⟩ sk hz hc cl hj hs (fun ur rr => ?_) hdz hnz)
      obtain rfl : ur = .ref a := rr
      refine lo_loc sk' (by rw [kk]; exact sx) hn hm ?_ hd
      obtain ⟨t', ht'⟩ := getI j hj2
      exact item_tupleL (j := j) htup2 (by omega) (by omega) (by rw [il]; unfold seqIndex?; first | (simp; omega) | (split <;> simp <;> omega)) ht' (q t')
    show wpAny _ _ (tests2 _ _) _ _ _
    unfold tests2
    simp only [List.forIn_cons, List.forIn_nil, if_true]
    refine wpAny_bind (wpAny_bind (wpAny_isTrue_Compare1 (sub x1 _ _ _ i t1 _ hi sx1 hm1 hd1 fun ta => sub x2 _ _ _ k t2 _ hk sx2 hm2 hd2 fun tb => ?_)))
    refine PyProof.Rows.gt_int (wpAny_truthy_bool (wpAny_pure ?_))
    exact wpAny_pure ⟨rfl, keeps_refl _⟩
  · have he : starEach [.BinOp (.Name x1 q2) .Add (.Constant (.int 1) n2 q3) q4, .Name zn q5] cenv = (false, eval (.BinOp (.Name x1 q2) .Add (.Constant (.int 1) n2 q3) q4) cenv) :: starEach [.Name zn q5] cenv := by rfl
    have he2 : starEach [.Name zn q5] cenv = (false, eval (.Name zn q5) cenv) :: starEach [] cenv := by rfl
    refine wpAny_Call_Name_kw (lo_blt L (by rw [kk]; exact sr) mr boot_range (PyProof.Rows.callWith_type1 ?_ he (by rfl)))
    rw [he]
    show wpAny _ _ (spliced ((false, eval (.BinOp (.Name x1 q2) .Add (.Constant (.int 1) n2 q3) q4) cenv) :: backTo q6 (starEach [.Name zn q5] cenv))) _ _ s2
    refine Calls.spliced_cons (wpAny_BinOp (lo_loc sk' (by rw [kk]; exact sx1) hn hm1 (wpAny_Constant_int (PyProof.Rows.add_int ?_)) hd1))
    rw [he2]
    show wpAny _ _ (spliced ((false, eval (.Name zn q5) cenv) :: backTo q6 (starEach [] cenv))) _ _ _
    refine Calls.spliced_cons (cap_loc (s2 := { s2 with toks := s2.toks + 1 + 1 }) ⟨G.sco, G.glob, G.blt, G.cells, G.keep, G.lim⟩ I ⟨ps, hPt⟩ sk hz' hc' cl' hj' hsn (fun un rn => Calls.spliced_nil ?_) hdz' hnz')
    obtain ⟨tn, rfl⟩ : ∃ t, un = .int (row.length : Nat) t := rn
    refine call_range_2 ?_
    have e1 : ((i : Int) + 1) = ((i + 1 : Nat) : Int) := by omega
    refine ⟨⟨_, _, rfl, fun b o e => Heap.get?_push_of_some _ e⟩, rfl, s2.heap.objs.size, s2.toks + 1, tn, s2.toks + 1 + 1, rfl, ?_⟩
    rw [e1]
    exact Heap.get?_push_size _ rfl
end MM
namespace MM
open PySem PySem.Spec PyProof.Rows L2 GxR
/-! ### corners -/
def cnt (ns : List Int) (i : Nat) (j : Int) : Nat := ((ns.take i).filter fun p => decide (j ≤ p)).length
def cl (ns : List Int) (i : Nat) : List Int := (List.range (ns.length + 1)).map fun (j : Nat) => (cnt ns i (j : Int) : Int)
theorem cl_length (ns : List Int) (i : Nat) : (cl ns i).length = ns.length + 1 := by unfold cl; rw [List.length_map, List.length_range]
theorem cnt_zero (ns : List Int) (j : Int) : cnt ns 0 j = 0 := rfl
theorem cnt_succ {ns : List Int} {i : Nat} {p : Int} (h : ns[i]? = some p) (j : Int) : cnt ns (i + 1) j = cnt ns i j + if j ≤ p then 1 else 0 := by
  unfold cnt
  rw [List.take_add_one, h, List.filter_append, List.length_append]
  by_cases hj : j ≤ p <;> simp [hj]
theorem cnt_le (ns : List Int) (i : Nat) (j : Int) : cnt ns i j ≤ i := Nat.le_trans (List.length_filter_le _ _) (by rw [List.length_take]; omega)
theorem cl_zero (ns : List Int) : cl ns 0 = List.replicate (ns.length + 1) 0 := by
  unfold cl
  rw [List.eq_replicate_iff]
  refine ⟨by simp, fun x hx => ?_⟩
  obtain ⟨j, _, rfl⟩ := List.mem_map.mp hx
  rfl
theorem cl_get (ns : List Int) (i : Nat) {j : Nat} (h : j < ns.length + 1) : (cl ns i)[j]? = some (cnt ns i j : Int) := by
  unfold cl; rw [List.getElem?_map, List.getElem?_range h]; rfl
theorem cl_mem {ns : List Int} {i : Nat} {x : Int} (h : x ∈ cl ns i) : 0 ≤ x ∧ x ≤ i := by
  obtain ⟨j, _, rfl⟩ := List.mem_map.mp h
  have := cnt_le ns i j
  omega
theorem cl_pref {ns : List Int} {i j : Nat} (h : j < ns.length + 1) : (cl ns i).take (j + 1) = (cl ns i).take j ++ [(cnt ns i j : Int)] := by
  rw [List.take_add_one, cl_get ns i h]; rfl
theorem rep_one {α : Type} (x : α) : ∀ m : Nat, (List.replicate m [x]).flatten = List.replicate m x
  | 0 => rfl
  | m + 1 => by rw [List.replicate_succ, List.flatten_cons, rep_one x m, List.replicate_succ]; rfl
theorem yes_go {σ : L2.St} {H : Hp} {A B : Hp → Prop} (h : A H) : tYes σ H (fun b H3 => if b = true then A H3 else B H3) := by
  show (if true = true then A H else B H)
  rw [if_pos rfl]; exact h
end MM
namespace MM
open PySem PySem.Spec PyProof.Rows L2 GxR
/-- the corners of which ns has more, i by i, j by j -/
def moreAt (ns ms : List Int) (i : Nat) : List (Nat × Nat) := ((List.range (ns.length + 1)).filter fun (j : Nat) => decide (cnt ms i j < cnt ns i j)).map fun j => (i, j)
def moreTo (ns ms : List Int) (m : Nat) : List (Nat × Nat) := (List.range m).flatMap (moreAt ns ms)
def more (ns ms : List Int) : List (Nat × Nat) := moreTo ns ms (ns.length + 1)
theorem moreTo_succ (ns ms : List Int) (m : Nat) : moreTo ns ms (m + 1) = moreTo ns ms m ++ moreAt ns ms m := by
  unfold moreTo; rw [List.range_succ, List.flatMap_append]; simp
theorem mem_moreAt {ns ms : List Int} {i : Nat} {p : Nat × Nat} : p ∈ moreAt ns ms i ↔ p.1 = i ∧ p.2 < ns.length + 1 ∧ cnt ms i p.2 < cnt ns i p.2 := by
  unfold moreAt
  rw [List.mem_map]
  constructor
  · rintro ⟨j, hj, rfl⟩
    obtain ⟨h1, h2⟩ := List.mem_filter.mp hj
    exact ⟨rfl, List.mem_range.mp h1, of_decide_eq_true h2⟩
  · rintro ⟨h1, h2, h3⟩
    exact ⟨p.2, List.mem_filter.mpr ⟨List.mem_range.mpr h2, decide_eq_true h3⟩, by rw [← h1]⟩
theorem mem_moreTo {ns ms : List Int} {m : Nat} {p : Nat × Nat} : p ∈ moreTo ns ms m ↔ p.1 < m ∧ p.2 < ns.length + 1 ∧ cnt ms p.1 p.2 < cnt ns p.1 p.2 := by
  unfold moreTo
  rw [List.mem_flatMap]
  constructor
  · rintro ⟨i, hi, h⟩
    obtain ⟨h1, h2, h3⟩ := mem_moreAt.mp h
    rw [h1]; exact ⟨List.mem_range.mp hi, h2, h3⟩
  · rintro ⟨h1, h2, h3⟩
    exact ⟨p.1, List.mem_range.mpr h1, mem_moreAt.mpr ⟨rfl, h2, h3⟩⟩
theorem more_nil {ns ms : List Int} (h : ∀ i j : Nat, i < ns.length + 1 → j < ns.length + 1 → ¬ cnt ms i j < cnt ns i j) : more ns ms = [] := by
  unfold more
  rw [List.eq_nil_iff_forall_not_mem]
  intro p hp
  obtain ⟨h1, h2, h3⟩ := mem_moreTo.mp hp
  exact h _ _ h1 h2 h3
theorem filter_head {α : Type} {p : α → Bool} {x : α} : ∀ {l : List α} {j : Nat}, l[j]? = some x → p x = true → (∀ j' y, j' < j → l[j']? = some y → p y = false) → (l.filter p).head? = some x
  | [], _, h, _, _ => by simp at h
  | a :: l, 0, h, hp, _ => by
    have e : a = x := by simpa using h
    subst e; simp [hp]
  | a :: l, j + 1, h, hp, hn => by
    have ha := hn 0 a (Nat.succ_pos j) (by simp)
    rw [List.filter_cons_of_neg (by rw [ha]; simp)]
    exact filter_head (j := j) (by simpa using h) hp fun j' y hj hy => hn (j' + 1) y (Nat.succ_lt_succ hj) (by simpa using hy)
theorem more_head {ns ms : List Int} {i j : Nat} (hi : i < ns.length + 1) (hj : j < ns.length + 1) (h : cnt ms i j < cnt ns i j) (h1 : ∀ i' j' : Nat, i' < i → j' < ns.length + 1 → ¬ cnt ms i' j' < cnt ns i' j') (h2 : ∀ j' : Nat, j' < j → ¬ cnt ms i j' < cnt ns i j') : (more ns ms).head? = some (i, j) := by
  have e1 : moreTo ns ms i = [] := by
    rw [List.eq_nil_iff_forall_not_mem]; intro p hp
    obtain ⟨a, b, c⟩ := mem_moreTo.mp hp
    exact h1 _ _ a b c
  have e2 : ∀ k, moreTo ns ms (i + 1 + k) = moreAt ns ms i ++ (moreTo ns ms (i + 1 + k)).drop (moreAt ns ms i).length := by
    intro k
    induction k with
    | zero => rw [Nat.add_zero, moreTo_succ, e1, List.nil_append, List.drop_length, List.append_nil]
    | succ k ih =>
      rw [← Nat.add_assoc, moreTo_succ, ih, List.append_assoc, List.drop_left]
  have e3 : (moreAt ns ms i).head? = some (i, j) := by
    unfold moreAt
    rw [List.head?_map, filter_head (x := j) (j := j) (by rw [List.getElem?_range hj]) (decide_eq_true h) fun j' y hj' hy => ?_]
    · rfl
    · rw [List.getElem?_range (Nat.lt_trans hj' hj)] at hy
      cases hy; exact decide_eq_false (h2 j' hj')
  have := e2 (ns.length - i)
  rw [show i + 1 + (ns.length - i) = ns.length + 1 by omega] at this
  unfold more
  rw [this]
  cases q : moreAt ns ms i with
  | nil => rw [q] at e3; cases e3
  | cons x l => rw [q] at e3; simpa using e3
theorem moreTo_len (ns ms : List Int) : ∀ m : Nat, (moreTo ns ms m).length ≤ m * (ns.length + 1)
  | 0 => by simp [moreTo]
  | m + 1 => by
    have h : (moreAt ns ms m).length ≤ ns.length + 1 := by
      unfold moreAt; rw [List.length_map]
      exact Nat.le_trans (List.length_filter_le _ _) (by rw [List.length_range]; exact Nat.le_refl _)
    rw [moreTo_succ, List.length_append, Nat.succ_mul]
    exact Nat.add_le_add (moreTo_len ns ms m) h
/-- what unlike_corner tells -/
def CornV (H : Hp) (v : V) : Option (Nat × Nat) → Prop
  | none => v = .non
  | some p => ∃ T, v = .ref T ∧ H T = some (.tup [.int p.1, .int p.2])
end MM
namespace MM
open PySem PySem.Spec PyProof.Rows L2 GxR
/-! ### the bag of draws -/
/-- a bag of which n draws at most were mixed -/
def Bag (n : Nat) (H : Hp) (b : Addr) : Prop := ∃ x y z : Int, H b = some (.lst [.int x, .int y, .int z]) ∧ 0 ≤ x ∧ 0 ≤ y ∧ y < 10 ^ 40 ∧ 0 ≤ z ∧ z ≤ n
abbrev At1 (b : Addr) : Addr → Prop := fun a => a = b
theorem Bag.mono {n m : Nat} {H : Hp} {b : Addr} (h : Bag n H b) (l : n ≤ m) : Bag m H b := let ⟨x, y, z, e, a, c, d, f, g⟩ := h; ⟨x, y, z, e, a, c, d, f, by omega⟩
theorem Bag.ex {n : Nat} {H H' : Hp} {b : Addr} (h : Bag n H b) (e : Ex H H') : Bag n H' b := let ⟨x, y, z, r⟩ := h; ⟨x, y, z, Ex.lst e r.1, r.2⟩
theorem Bag.exB {n : Nat} {H H' : Hp} {b : Addr} {B : Addr → Prop} (h : Bag n H b) (e : ExB B H H') (nb : ¬ B b) : Bag n H' b := let ⟨x, y, z, r⟩ := h; ⟨x, y, z, e.lst r.1 nb, r.2⟩
theorem pow_ok {i : Int} {k : Nat} {j : Int} (hj : 0 ≤ j) (h : i.natAbs < 2 ^ k) (hk : (k : Int) * j ≤ 2 ^ 27) : CPowW i j :=
  ⟨hj, Int.le_trans (Int.mul_le_mul_of_nonneg_right (by have := bits_le h; omega) hj) hk⟩
theorem max_nn (e : Int) : 0 ≤ (if e > 0 then e else 0) := by split <;> omega
/-- mixed numbers are small enough to be raised -/
theorem mix_ok {y z c : Int} (hy : 0 ≤ y) (hy2 : y < 10 ^ 40) (hz : 0 ≤ z) (hz2 : z ≤ 1000000) (hc : 0 ≤ c) (hc2 : c ≤ 1000000000) {e : Int} (he : 0 ≤ e) (he2 : e ≤ 10) : CPowW (y + c * z) e := by
  have h1 : c * z ≤ 1000000000 * 1000000 := Int.mul_le_mul hc2 hz2 hz (by decide)
  have h2 : 0 ≤ c * z := Int.mul_nonneg hc hz
  refine pow_ok (k := 200) he ?_ ?_
  · have h3 : (10 : Int) ^ 40 + 1000000000 * 1000000 < 2 ^ 200 := by decide
    have h4 : (y + c * z) < 2 ^ 200 := by omega
    have h5 : ((y + c * z).natAbs : Int) < ((2 ^ 200 : Nat) : Int) := by
      rw [Int.natAbs_of_nonneg (by omega)]; exact h4
    exact Int.ofNat_lt.mp h5
  · have : (2 : Int) ^ 27 = 134217728 := by decide
    rw [this]
    have : ((200 : Nat) : Int) * e ≤ 200 * 10 := Int.mul_le_mul (by decide) he2 he (by decide)
    omega
theorem mulW_small {i j : Int} (hi : i.natAbs < 2 ^ 200) (hj : j.natAbs < 2 ^ 200) : CMulW i j := wide_mul hi hj (by decide) (by decide) (by decide)
theorem divW_small {i j : Int} (h : 0 < j) (hj : j < 10 ^ 9) : CDivW i j := wide_div (b := 200) h (by
  have : j.natAbs < 10 ^ 9 := by have h2 : (10 : Int) ^ 9 = 1000000000 := by decide
                                 have h3 : (10 : Nat) ^ 9 = 1000000000 := by decide
                                 omega
  exact Nat.lt_trans this (by decide)) (by decide) (by decide)
theorem erase_map {α β : Type} (f : α → β) : ∀ (l : List α) (i : Nat), (l.map f).eraseIdx i = (l.eraseIdx i).map f
  | [], _ => rfl
  | _ :: _, 0 => rfl
  | x :: l, i + 1 => by
    show f x :: (l.map f).eraseIdx i = f x :: (l.eraseIdx i).map f
    rw [erase_map f l i]
theorem erase_perm {α : Type} : ∀ (l : List α) (i : Nat) (h : i < l.length), l.Perm (l[i] :: l.eraseIdx i)
  | x :: l, 0, _ => List.Perm.refl _
  | x :: l, i + 1, h => by
    have h' : i < l.length := by simpa using h
    have ih := erase_perm l i h'
    show (x :: l).Perm (l[i] :: x :: l.eraseIdx i)
    exact (List.Perm.cons x ih).trans (List.Perm.swap ..)
theorem cutV_to {xs : List V} (i : Nat) : cutV xs none (some (i : Int)) = xs.take i := by
  unfold cutV
  rw [HT.sIx_none, HT.sIx_nat, List.drop_zero, Nat.sub_zero]
  by_cases h : i ≤ xs.length
  · rw [Nat.min_eq_left h]
  · rw [Nat.min_eq_right (by omega), List.take_length, List.take_of_length_le (by omega)]
theorem cutV_from {xs : List V} (i : Nat) : cutV xs (some (i : Int)) none = xs.drop i := by
  unfold cutV
  rw [HT.sIx_none, HT.sIx_nat]
  by_cases h : i ≤ xs.length
  · rw [Nat.min_eq_left h, List.take_of_length_le (by rw [List.length_drop]; omega)]
  · rw [Nat.min_eq_right (by omega), List.drop_length, List.take_nil, List.drop_eq_nil_of_le (by omega)]
end MM
namespace MM
open PySem PySem.Spec PyProof.Rows L2 GxR
/-! ### lists of data, item by item -/
theorem dpAll_of {K : PySem.W.Frag} {H : Hp} : ∀ {vs : List V} {ds : List PyData}, vs.length = ds.length → (∀ (k : Nat) v d, vs[k]? = some v → ds[k]? = some d → Dp K H v d) → DpAll K H vs ds
  | [], [], _, _ => .nil
  | [], _ :: _, h, _ => by simp at h
  | _ :: _, [], h, _ => by simp at h
  | v :: vs, d :: ds, h, f => .cons (f 0 v d (by simp) (by simp)) (dpAll_of (by simpa using h) fun k x e h1 h2 => f (k + 1) x e (by simpa using h1) (by simpa using h2))
/-- a list at p of the lists at ls, each the ints of L -/
theorem dp_lists {K : PySem.W.Frag} {H : Hp} {p : Addr} {ls : List Addr} {L : List (List Int)} (hp : H p = some (.lst (ls.map V.ref))) (hl : ls.length = L.length) (h : ∀ (k : Nat) l xs, ls[k]? = some l → L[k]? = some xs → H l = some (.lst (xs.map V.int))) :
    Dp K H (.ref p) (.list (L.map fun (xs : List Int) => .list (xs.map PyData.int))) := by
  refine .lst (SqL.of hp) (dpAll_of (by rw [List.length_map, List.length_map, hl]) fun k v d h1 h2 => ?_)
  rw [List.getElem?_map] at h1 h2
  cases e1 : ls[k]? with
  | none => rw [e1] at h1; cases h1
  | some l =>
    cases e2 : L[k]? with
    | none => rw [e2] at h2; cases h2
    | some xs =>
      rw [e1] at h1; rw [e2] at h2; cases h1; cases h2
      exact dp_ints (SqL.of (h k l xs e1 e2))
/-- the tuples at ts are the pairs ps -/
structure Tups (H : Hp) (ps : List (Nat × Nat)) (ts : List Addr) : Prop where
  len : ts.length = ps.length
  at_ : ∀ (k : Nat) t p, ts[k]? = some t → ps[k]? = some p → H t = some (.tup [.int (p.1 : Nat), .int (p.2 : Nat)])
theorem Tups.ex {B : Addr → Prop} {H H' : Hp} {ps : List (Nat × Nat)} {ts : List Addr} (h : Tups H ps ts) (e : ExB B H H') : Tups H' ps ts := ⟨h.len, fun k t p a b => e.tup (h.at_ k t p a b)⟩
theorem Tups.app {H : Hp} {ps qs : List (Nat × Nat)} {ts us : List Addr} (h : Tups H ps ts) (g : Tups H qs us) : Tups H (ps ++ qs) (ts ++ us) := by
  refine ⟨by rw [List.length_append, List.length_append, h.len, g.len], fun k t p a b => ?_⟩
  by_cases hk : k < ts.length
  · rw [List.getElem?_append_left hk] at a
    rw [List.getElem?_append_left (by rw [← h.len]; exact hk)] at b
    exact h.at_ k t p a b
  · rw [List.getElem?_append_right (by omega)] at a
    rw [List.getElem?_append_right (by rw [← h.len]; omega), ← h.len] at b
    exact g.at_ _ t p a b
theorem tups_one {H : Hp} {t : Addr} {i j : Nat} (h : H t = some (.tup [.int (i : Nat), .int (j : Nat)])) : Tups H [(i, j)] [t] := by
  refine ⟨rfl, fun k t' p a b => ?_⟩
  cases k with
  | zero => cases a; cases b; exact h
  | succ k => simp at a
def prD2 (p : Nat × Nat) : PyData := .tuple [.int (p.1 : Nat), .int (p.2 : Nat)]
theorem dp_pair {K : PySem.W.Frag} {H : Hp} {t : Addr} {p : Nat × Nat} (h : H t = some (.tup [.int (p.1 : Nat), .int (p.2 : Nat)])) : Dp K H (.ref t) (prD2 p) := .tup (SqT.of h) (.cons (.int _) (.cons (.int _) .nil))
theorem Tups.dp {K : PySem.W.Frag} {H : Hp} {ps : List (Nat × Nat)} {ts : List Addr} {a : Addr} (h : Tups H ps ts) (ha : H a = some (.lst (ts.map V.ref))) : Dp K H (.ref a) (.list (ps.map prD2)) := by
  refine .lst (SqL.of ha) (dpAll_of (by rw [List.length_map, List.length_map, h.len]) fun k v d h1 h2 => ?_)
  rw [List.getElem?_map] at h1 h2
  cases e1 : ts[k]? with
  | none => rw [e1] at h1; cases h1
  | some t =>
    cases e2 : ps[k]? with
    | none => rw [e2] at h2; cases h2
    | some p =>
      rw [e1] at h1; rw [e2] at h2; cases h1; cases h2
      exact dp_pair (h.at_ k t p e1 e2)
theorem nice_pair {p : Nat × Nat} (h1 : p.1 ≤ 100) (h2 : p.2 ≤ 100) : Nice 1 (2 * 53 + 3) (prD2 p) := nice_tuple (fun d hd => by
  rcases List.mem_cons.mp hd with e | hd
  · rw [e]; exact nice_int (by omega)
  · rw [List.mem_singleton.mp hd]; exact nice_int (by omega)) (Nat.le_refl _)
def headD : Option (Nat × Nat) → PyData
  | none => .none
  | some p => prD2 p
theorem dp_head {K : PySem.W.Frag} {H : Hp} {v : V} {o : Option (Nat × Nat)} (h : CornV H v o) : Dp K H v (headD o) := by
  cases o with
  | none => rw [show v = .non from h]; exact .non
  | some p => obtain ⟨T, rfl, e⟩ := h; exact dp_pair e
theorem nice_head {o : Option (Nat × Nat)} (h : ∀ p, o = some p → p.1 ≤ 100 ∧ p.2 ≤ 100) : Nice 1 (2 * 53 + 3) (headD o) := by
  cases o with
  | none => exact nice_none.mono (by decide) (by decide)
  | some p => exact nice_pair (h p rfl).1 (h p rfl).2
theorem eqv_nil_refs {ds : List PyData} : PyData.eqv (.list ds) (.list []) = decide (ds = []) := by
  cases ds <;> simp [PyData.eqv, PyData.eqvAll]
end MM
namespace MM
open PySem PySem.Spec PyProof.Rows L2 GxR
/-- the script: frozen, or of the written part -/
def Script (K : PySem.W.Frag) (H : Hp) (a : Addr) (xs : List V) : Prop :=
  (∃ o, H a = some (.frz o (.lst xs))) ∨ ∃ (o : Obj) (its : Array Value) (n : Nat), K.lookup a = some o ∧ o.cls = .type "list" ∧ o.dict = none ∧ o.data = .seq its n ∧ its.size ≤ sizeLine ∧ Vals xs its.toList
section
variable {K : PySem.W.Frag} {H H' : Hp} {a : Addr} {xs : List V} {B : Addr → Prop}
theorem Script.sql (h : Script K H a xs) : SqL K H a xs := h.elim (fun z => .inl (.inr z)) .inr
theorem Script.ex (h : Script K H a xs) (e : ExB B H H') : Script K H' a xs := h.elim (fun ⟨o, z⟩ => .inl ⟨o, e.fix _ _ z trivial⟩) .inr
end
/-- pairs of rows of sz people -/
def Pairs (K : PySem.W.Frag) (H : Hp) (sz : Nat) (t : Addr) : Prop := ∃ (x y : Addr) (ns ms : List Int), H t = some (.tup [.ref x, .ref y]) ∧ SqT K H x (ns.map V.int) ∧ SqT K H y (ms.map V.int) ∧ IsRow ns ∧ IsRow ms ∧ ns.length = sz ∧ ms.length = sz
theorem Pairs.ex {K : PySem.W.Frag} {H H' : Hp} {B : Addr → Prop} {sz : Nat} {t : Addr} (h : Pairs K H sz t) (e : ExB B H H') : Pairs K H' sz t :=
  let ⟨x, y, ns, ms, a, b, c, r⟩ := h; ⟨x, y, ns, ms, e.tup a, e.sqt b, e.sqt c, r⟩
theorem IsRow.perm {ns ms : List Int} (r : IsRow ns) (h : ms.Perm ns) : IsRow ms := ⟨by rw [h.length_eq]; exact r.1, by rw [h.length_eq]; exact r.2.1, by rw [h.length_eq]; exact h.trans r.2.2⟩
end MM
namespace MM
open PySem PySem.Spec PyProof.Rows L2 GxR
section
variable {X : Cx} {K : PySem.W.Frag} {pos : Pos}
theorem k_unl {tgs : List Expr} {k n : Nat} {u : TGs} (hK : X.K = K) (h : PG X (.Tuple tgs k pos) (gUnl X.K n u)) : PG X (.Tuple tgs k pos) (gUnl K n u) := hK ▸ h
end
/-- what is left, told once for several roads -/
theorem later {R : Hp → Prop} {G : Prop} {T : Hp → Prop} (k : (∀ H, R H → T H) → G) (rest : ∀ H, R H → T H) : G := k rest
/-! ### two neighbours exchanged, and corners -/
def swL (ns : List Int) (g : Nat) : List Int := ns.take g ++ [ns.getD (g + 1) 0, ns.getD g 0] ++ ns.drop (g + 2)
theorem two_at {ns : List Int} {g : Nat} (h : g + 1 < ns.length) : ∃ (l r : List Int) (a b : Int), ns = l ++ a :: b :: r ∧ l.length = g := by
  refine ⟨ns.take g, ns.drop (g + 2), ns[g], ns[g + 1], ?_, by rw [List.length_take]; omega⟩
  have e1 : ns.drop g = ns[g] :: ns.drop (g + 1) := List.drop_eq_getElem_cons (by omega)
  have e2 : ns.drop (g + 1) = ns[g + 1] :: ns.drop (g + 2) := List.drop_eq_getElem_cons h
  rw [← e2, ← e1, List.take_append_drop]
theorem sw_form (l r : List Int) (a b : Int) : swL (l ++ a :: b :: r) l.length = l ++ b :: a :: r := by
  unfold swL
  have e0 : (l ++ a :: b :: r).take l.length = l := List.take_left
  have e1 : (l ++ a :: b :: r).getD (l.length + 1) 0 = b := by rw [List.getD_eq_getElem?_getD, List.getElem?_append_right (by omega)]; simp
  have e2 : (l ++ a :: b :: r).getD l.length 0 = a := by rw [List.getD_eq_getElem?_getD, List.getElem?_append_right (by omega)]; simp
  have e3 : (l ++ a :: b :: r).drop (l.length + 2) = r := by
    have e : l ++ a :: b :: r = (l ++ [a, b]) ++ r := by simp
    rw [e]
    exact List.drop_left' (by simp)
  rw [e0, e1, e2, e3]; simp
theorem sw_perm {ns : List Int} {g : Nat} (h : g + 1 < ns.length) : (swL ns g).Perm ns := by
  obtain ⟨l, r, a, b, rfl, rfl⟩ := two_at h
  rw [sw_form]
  exact List.Perm.append_left l (List.Perm.swap a b r)
theorem sw_len {ns : List Int} {g : Nat} (h : g + 1 < ns.length) : (swL ns g).length = ns.length := (sw_perm h).length_eq
theorem sw_row {ns : List Int} {g : Nat} (h : g + 1 < ns.length) (r : IsRow ns) : IsRow (swL ns g) := r.perm (sw_perm h)
theorem sw_g {ns : List Int} {g : Nat} (h : g + 1 < ns.length) : (swL ns g).getD g 0 = ns.getD (g + 1) 0 ∧ (swL ns g).getD (g + 1) 0 = ns.getD g 0 := by
  obtain ⟨l, r, a, b, rfl, rfl⟩ := two_at h
  rw [sw_form]
  simp only [List.getD_eq_getElem?_getD]
  rw [List.getElem?_append_right (by omega), List.getElem?_append_right (by omega), List.getElem?_append_right (by omega), List.getElem?_append_right (by omega)]
  simp
theorem sw_cnt {ns : List Int} {g : Nat} (h : g + 1 < ns.length) {i : Nat} (j : Int) (hi : i ≠ g + 1) : cnt (swL ns g) i j = cnt ns i j := by
  obtain ⟨l, r, a, b, rfl, rfl⟩ := two_at h
  rw [sw_form]
  unfold cnt
  by_cases hle : i ≤ l.length
  · rw [List.take_append_of_le_length hle, List.take_append_of_le_length hle]
  · obtain ⟨k, rfl⟩ : ∃ k, i = l.length + (k + 2) := ⟨i - l.length - 2, by omega⟩
    rw [List.take_length_add_append, List.take_length_add_append]
    refine List.Perm.length_eq (List.Perm.filter _ (List.Perm.append_left l ?_))
    show (b :: a :: r.take k).Perm (a :: b :: r.take k)
    exact List.Perm.swap a b _
theorem getD_some {ns : List Int} {g : Nat} (h : g < ns.length) : ns[g]? = some (ns.getD g 0) := by
  rw [List.getD_eq_getElem?_getD, List.getElem?_eq_getElem h]; rfl
theorem cnt_at {ns : List Int} {g : Nat} (h : g < ns.length) (j : Int) : cnt ns (g + 1) j = cnt ns g j + if j ≤ ns.getD g 0 then 1 else 0 := cnt_succ (getD_some h) j
theorem cl_sw {ns : List Int} {g : Nat} (h : g + 1 < ns.length) {i : Nat} (hi : i ≠ g + 1) : cl (swL ns g) i = cl ns i := by
  unfold cl
  rw [sw_len h]
  refine List.map_congr_left fun j _ => ?_
  rw [sw_cnt h _ hi]
theorem sw_sum {ns : List Int} {g : Nat} (h : g + 1 < ns.length) (j : Int) : (cnt ns (g + 1) j : Int) + (cnt (swL ns g) (g + 1) j : Int) = (cnt ns g j : Int) + (cnt ns (g + 2) j : Int) := by
  have h1 := cnt_at (ns := ns) (g := g) (by omega) j
  have h2 : cnt ns (g + 2) j = cnt ns (g + 1) j + if j ≤ ns.getD (g + 1) 0 then 1 else 0 := cnt_at (ns := ns) (g := g + 1) h j
  have h3 := cnt_at (ns := swL ns g) (g := g) (by rw [sw_len h]; omega) j
  rw [(sw_g h).1, sw_cnt (i := g) h j (by omega)] at h3
  omega
/-- no corner of ns is more -/
theorem more_iff {ns ms : List Int} : more ns ms = [] ↔ ∀ i j : Nat, i < ns.length + 1 → j < ns.length + 1 → cnt ns i j ≤ cnt ms i j := by
  refine ⟨fun e i j hi hj => ?_, fun h => more_nil fun i j hi hj => Nat.not_lt.mpr (h i j hi hj)⟩
  refine Nat.not_lt.mp fun c => ?_
  have : (i, j) ∈ more ns ms := mem_moreTo.mpr ⟨hi, hj, c⟩
  rw [e] at this; cases this
def Off (ns ms : List Int) (g : Nat) : Prop := ∀ i j : Nat, i < ns.length + 1 → j < ns.length + 1 → i ≠ g + 1 → cnt ns i j ≤ cnt ms i j
def Low (ns : List Int) (g : Nat) : Prop := ns.getD g 0 ≤ ns.getD (g + 1) 0
def High (ns : List Int) (g : Nat) : Prop := ns.getD (g + 1) 0 ≤ ns.getD g 0
theorem off_iff {ns ms : List Int} {g : Nat} (h : g + 1 < ns.length) (hl : ns.length = ms.length) (hg : Low ns g ∨ High ms g) : more ns ms = [] ↔ Off ns ms g := by
  rw [more_iff]
  refine ⟨fun a i j hi hj _ => a i j hi hj, fun o i j hi hj => ?_⟩
  by_cases e : i = g + 1
  · subst e
    have a0 := o g j (by omega) hj (by omega)
    have a2 := o (g + 2) j (by omega) hj (by omega)
    have n1 := cnt_at (ns := ns) (g := g) (by omega) (j : Int)
    have n2 : cnt ns (g + 2) (j : Int) = cnt ns (g + 1) (j : Int) + if (j : Int) ≤ ns.getD (g + 1) 0 then 1 else 0 := cnt_at (ns := ns) (g := g + 1) h (j : Int)
    have m1 := cnt_at (ns := ms) (g := g) (by omega) (j : Int)
    have m2 : cnt ms (g + 2) (j : Int) = cnt ms (g + 1) (j : Int) + if (j : Int) ≤ ms.getD (g + 1) 0 then 1 else 0 := cnt_at (ns := ms) (g := g + 1) (by omega) (j : Int)
    rcases hg with hg | hg
    · unfold Low at hg
      split at n1 <;> split at n2 <;> split at m1 <;> split at m2 <;> omega
    · unfold High at hg
      split at n1 <;> split at n2 <;> split at m1 <;> split at m2 <;> omega
  · exact o i j hi hj e
/-- of so many people, its corners alike but at the gap -/
structure Like (ns ms : List Int) (g : Nat) : Prop where
  len : ms.length = ns.length
  row : IsRow ms
  cnt : ∀ (i : Nat) (j : Int), i ≠ g + 1 → cnt ms i j = cnt ns i j
theorem Like.self {ns : List Int} {g : Nat} (r : IsRow ns) : Like ns ns g := ⟨rfl, r, fun _ _ _ => rfl⟩
theorem Like.sw {ns : List Int} {g : Nat} (h : g + 1 < ns.length) (r : IsRow ns) : Like ns (swL ns g) g := ⟨sw_len h, sw_row h r, fun _ j hi => sw_cnt h j hi⟩
theorem Like.off {ns ms ns' ms' : List Int} {g : Nat} (a : Like ns ns' g) (b : Like ms ms' g) : Off ns' ms' g ↔ Off ns ms g := by
  unfold Off
  rw [a.len]
  constructor
  · intro h i j hi hj e
    have := h i j hi hj e
    rwa [a.cnt i j e, b.cnt i j e] at this
  · intro h i j hi hj e
    rw [a.cnt i j e, b.cnt i j e]; exact h i j hi hj e
theorem Like.bel {ns ms ns' ms' : List Int} {g : Nat} (a : Like ns ns' g) (b : Like ms ms' g) (h : g + 1 < ns.length) (hl : ns.length = ms.length) (hg : Low ns' g ∨ High ms' g) : decide (more ns' ms' = []) = true ↔ Off ns ms g := by
  rw [decide_eq_true_iff, off_iff (by rw [a.len]; exact h) (by rw [a.len, b.len, hl]) hg, a.off b]
theorem bel_off {ns ms : List Int} {g : Nat} (h : more ns ms = []) : Off ns ms g := fun i j hi hj _ => more_iff.mp h i j hi hj
end MM
namespace MM
open PySem PySem.Spec PyProof.Rows L2 GxR
theorem walk_zipT {K : PySem.W.Frag} {a b : Addr} {xs ys : List V} {n : Nat} (h1 : xs.length = n) (h2 : ys.length = n) : Walk (RZ.ItzT K a b) n (fun H => SqT K H a xs ∧ SqT K H b ys) (YPair (fun i => xs[i]?) (fun i => ys[i]?)) := by
  refine ⟨fun i _ hi q => ?_, fun _ q => ⟨xs, ys, q.1, q.2, by omega⟩, fun i H v H' _ q y => ?_⟩
  · have h1 : i < xs.length := by omega
    have h2 : i < ys.length := by omega
    exact ⟨xs, ys, xs[i], ys[i], q.1, q.2, by simp [h1], by simp [h2]⟩
  · obtain ⟨T, x, z, h1, h2, h3, h4, h5⟩ := y
    exact ⟨T, x, z, h1, h2, h3, h4 xs q.1, h5 ys q.2⟩
/-! ### books, goings, the rows of a going -/
def BookOk (m : Nat) (gs : List Int) : Prop := ∀ x ∈ gs, 0 ≤ x ∧ x + 2 ≤ m
def row0 (n : Nat) : List Int := (List.range n).map Int.ofNat
theorem row0_len (n : Nat) : (row0 n).length = n := by unfold row0; rw [List.length_map, List.length_range]
theorem row0_row {n : Nat} (h1 : 1 ≤ n) (h9 : n ≤ 9) : IsRow (row0 n) := ⟨by rw [row0_len]; exact h1, by rw [row0_len]; exact h9, by rw [row0_len]; exact List.Perm.refl _⟩
def rowAt (r : List Int) (gs : List Int) (cs : List Bool) : Nat → List Int
  | 0 => r
  | k + 1 => if cs.getD k false = true then swL (rowAt r gs cs k) (gs.getD k 0).toNat else rowAt r gs cs k
theorem rowAt_ok {m : Nat} {r gs : List Int} {cs : List Bool} (hr : IsRow r) (hl : r.length = m) (hb : BookOk m gs) : ∀ k, k ≤ gs.length → IsRow (rowAt r gs cs k) ∧ (rowAt r gs cs k).length = m
  | 0, _ => ⟨hr, hl⟩
  | k + 1, hk => by
    obtain ⟨a, b⟩ := rowAt_ok (cs := cs) hr hl hb k (by omega)
    have hg := hb (gs.getD k 0) (by rw [List.getD_eq_getElem?_getD, List.getElem?_eq_getElem (by omega : k < gs.length)]; exact List.getElem_mem _)
    unfold rowAt
    by_cases c : cs.getD k false = true
    · rw [if_pos c]
      exact ⟨sw_row (by rw [b]; omega) a, by rw [sw_len (by rw [b]; omega), b]⟩
    · rw [if_neg c]; exact ⟨a, b⟩
theorem book_at {m : Nat} {gs : List Int} (hb : BookOk m gs) {k : Nat} (hk : k < gs.length) : ∃ g : Nat, gs.getD k 0 = (g : Int) ∧ g + 1 < m := by
  have hg := hb (gs.getD k 0) (by rw [List.getD_eq_getElem?_getD, List.getElem?_eq_getElem hk]; exact List.getElem_mem _)
  exact ⟨(gs.getD k 0).toNat, by omega, by omega⟩
/-- rows in a list: the first n of them -/
structure RowsTo (K : PySem.W.Frag) (H : Hp) (r gs : List Int) (cs : List Bool) (n : Nat) (ts : List Addr) : Prop where
  len : ts.length = n
  at_ : ∀ k t, ts[k]? = some t → SqT K H t ((rowAt r gs cs k).map V.int)
theorem RowsTo.ex {K : PySem.W.Frag} {B : Addr → Prop} {H H' : Hp} {r gs : List Int} {cs : List Bool} {n : Nat} {ts : List Addr} (h : RowsTo K H r gs cs n ts) (e : ExB B H H') : RowsTo K H' r gs cs n ts := ⟨h.len, fun k t a => e.sqt (h.at_ k t a)⟩
theorem RowsTo.push {K : PySem.W.Frag} {H : Hp} {r gs : List Int} {cs : List Bool} {n : Nat} {ts : List Addr} {t : Addr} (h : RowsTo K H r gs cs n ts) (q : SqT K H t ((rowAt r gs cs n).map V.int)) : RowsTo K H r gs cs (n + 1) (ts ++ [t]) := by
  refine ⟨by rw [List.length_append, h.len]; rfl, fun k u hk => ?_⟩
  by_cases hkn : k < ts.length
  · rw [List.getElem?_append_left hkn] at hk; exact h.at_ k u hk
  · rw [List.getElem?_append_right (by omega)] at hk
    have hk0 : k = ts.length := by
      have := (List.getElem?_eq_some_iff.mp hk).1; simp at this; omega
    subst hk0
    simp at hk; subst hk
    rw [h.len]; exact q
def rowsD (r gs : List Int) (cs : List Bool) (n : Nat) : List PyData := (List.range n).map fun k => .tuple ((rowAt r gs cs k).map PyData.int)
theorem dp_row1 {K : PySem.W.Frag} {H : Hp} {t : Addr} {ns : List Int} (h : SqT K H t (ns.map V.int)) : Dp K H (.ref t) (.tuple (ns.map PyData.int)) := dp_row h
theorem RowsTo.dp {K : PySem.W.Frag} {H : Hp} {r gs : List Int} {cs : List Bool} {n : Nat} {ts : List Addr} {a : Addr} (h : RowsTo K H r gs cs n ts) (ha : H a = some (.lst (ts.map V.ref))) : Dp K H (.ref a) (.list (rowsD r gs cs n)) := by
  refine .lst (SqL.of ha) (dpAll_of (by unfold rowsD; rw [List.length_map, List.length_map, List.length_range, h.len]) fun k v d h1 h2 => ?_)
  rw [List.getElem?_map] at h1
  unfold rowsD at h2
  rw [List.getElem?_map] at h2
  cases e : ts[k]? with
  | none => rw [e] at h1; cases h1
  | some t =>
    rw [e] at h1
    cases h1
    have hk : k < n := by rw [← h.len]; exact (List.getElem?_eq_some_iff.mp e).1
    rw [List.getElem?_range hk] at h2
    cases h2
    exact dp_row (h.at_ k t e)
theorem nice_row {ns : List Int} (r : IsRow ns) : Nice 1 (9 * (51 + 2) + 3) (.tuple (ns.map PyData.int)) := nice_tuple (nice_ints fun i hi => by have := r.mem hi; have := r.2.1; omega) (by rw [List.length_map]; exact r.2.1)
theorem nice_rows {m : Nat} {r gs : List Int} {cs : List Bool} (hr : IsRow r) (hl : r.length = m) (hb : BookOk m gs) (hn : gs.length ≤ 100) : Nice 2 (101 * (9 * (51 + 2) + 3 + 2) + 3) (.list (rowsD r gs cs (gs.length + 1))) := nice_list (fun d hd => by
  unfold rowsD at hd
  obtain ⟨k, hk, rfl⟩ := List.mem_map.mp hd
  exact nice_row (rowAt_ok hr hl hb k (by have := List.mem_range.mp hk; omega)).1) (by unfold rowsD; rw [List.length_map, List.length_range]; omega)
end MM
namespace MM
open PySem PySem.Spec PyProof.Rows L2 GxR
/-! ### a row and where each one stands -/
def ofF (n : Nat) (a : Nat → Nat) : List Int := (List.range n).map fun i => (a i : Int)
structure IsInv (n : Nat) (a b : Nat → Nat) : Prop where
  ab : ∀ i, i < n → a i < n ∧ b (a i) = i
  ba : ∀ j, j < n → b j < n ∧ a (b j) = j
theorem IsInv.symm {n : Nat} {a b : Nat → Nat} (h : IsInv n a b) : IsInv n b a := ⟨h.ba, h.ab⟩
theorem ofF_len (n : Nat) (a : Nat → Nat) : (ofF n a).length = n := by unfold ofF; rw [List.length_map, List.length_range]
theorem ofF_get {n : Nat} {a : Nat → Nat} {i : Nat} (h : i < n) : (ofF n a)[i]? = some (a i : Int) := by unfold ofF; rw [List.getElem?_map, List.getElem?_range h]; rfl
theorem ofF_take {n : Nat} {a : Nat → Nat} {i : Nat} (h : i < n) : (ofF n a).take (i + 1) = (ofF n a).take i ++ [(a i : Int)] := by rw [List.take_add_one, ofF_get h]; rfl
theorem index_fact {n : Nat} {a b : Nat → Nat} (h : IsInv n a b) {p : Nat} (hp : p < n) : (ofF n a)[b p]? = some (p : Int) ∧ ∀ (m : Nat) z, m < b p → (ofF n a)[m]? = some z → z ≠ (p : Int) := by
  obtain ⟨h1, h2⟩ := h.ba p hp
  refine ⟨by rw [ofF_get h1, h2], fun m z hm hz e => ?_⟩
  have hmn : m < n := Nat.lt_trans hm h1
  rw [ofF_get hmn] at hz
  have e2 : a m = p := by have := Option.some.inj hz; omega
  have := (h.ab m hmn).2
  rw [e2] at this; omega
def trs (g j : Nat) : Nat := if j = g then g + 1 else if j = g + 1 then g else j
theorem trs_trs (g j : Nat) : trs g (trs g j) = j := by
  unfold trs
  by_cases h1 : j = g
  · subst h1; simp
  · rw [if_neg h1]
    by_cases h2 : j = g + 1
    · subst h2; simp
    · rw [if_neg h2, if_neg h1, if_neg h2]
theorem trs_lt {n g j : Nat} (hg : g + 1 < n) (hj : j < n) : trs g j < n := by
  unfold trs
  split
  · exact hg
  · split <;> omega
theorem IsInv.tr {n g : Nat} {a b : Nat → Nat} (h : IsInv n a b) (hg : g + 1 < n) : IsInv n (fun i => a (trs g i)) (fun j => trs g (b j)) :=
  ⟨fun i hi => by
    obtain ⟨h1, h2⟩ := h.ab _ (trs_lt hg hi)
    exact ⟨h1, by show trs g (b (a (trs g i))) = i; rw [h2, trs_trs]⟩, fun j hj => by
    obtain ⟨h1, h2⟩ := h.ba _ hj
    exact ⟨trs_lt hg h1, by show a (trs g (trs g (b j))) = j; rw [trs_trs, h2]⟩⟩
theorem sw_get {ns : List Int} {g : Nat} (h : g + 1 < ns.length) (k : Nat) : (swL ns g)[k]? = ns[trs g k]? := by
  obtain ⟨l, r, a, b, rfl, rfl⟩ := two_at h
  rw [sw_form]
  unfold trs
  by_cases h1 : k = l.length
  · rw [if_pos h1, h1, List.getElem?_append_right (Nat.le_refl _), List.getElem?_append_right (by omega)]; simp
  · rw [if_neg h1]
    by_cases h2 : k = l.length + 1
    · rw [if_pos h2, h2, List.getElem?_append_right (by omega), List.getElem?_append_right (Nat.le_refl _)]; simp
    · rw [if_neg h2]
      by_cases h3 : k < l.length
      · rw [List.getElem?_append_left h3, List.getElem?_append_left h3]
      · obtain ⟨j, rfl⟩ : ∃ j, k = l.length + (j + 2) := ⟨k - l.length - 2, by omega⟩
        rw [List.getElem?_append_right (by omega), List.getElem?_append_right (by omega), show l.length + (j + 2) - l.length = j + 2 by omega]; rfl
theorem sw_ofF {n g : Nat} {a : Nat → Nat} (hg : g + 1 < n) : swL (ofF n a) g = ofF n fun i => a (trs g i) := by
  apply List.ext_getElem?
  intro k
  rw [sw_get (by rw [ofF_len]; exact hg)]
  by_cases hk : k < n
  · rw [ofF_get (trs_lt hg hk), ofF_get hk]
  · have e : trs g k = k := by unfold trs; rw [if_neg (by omega), if_neg (by omega)]
    rw [e, List.getElem?_eq_none (by rw [ofF_len]; omega), List.getElem?_eq_none (by rw [ofF_len]; omega)]
theorem sw_sw {ns : List Int} {g : Nat} (h : g + 1 < ns.length) : swL (swL ns g) g = ns := by
  apply List.ext_getElem?
  intro k
  rw [sw_get (by rw [sw_len h]; exact h), sw_get h, trs_trs]
theorem row0_ofF (n : Nat) : row0 n = ofF n id := rfl
theorem inv_id (n : Nat) : IsInv n id id := ⟨fun i h => ⟨h, rfl⟩, fun i h => ⟨h, rfl⟩⟩
theorem IsRow.nodup {ns : List Int} (r : IsRow ns) : ns.Nodup := by
  refine r.2.2.nodup_iff.mpr ?_
  rw [List.Nodup, List.pairwise_map]
  exact List.nodup_range.imp fun h e => h (Int.ofNat.inj e)
theorem IsRow.inv {ns : List Int} (r : IsRow ns) : ∃ a b, IsInv ns.length a b ∧ ns = ofF ns.length a := by
  have hm : ∀ i (h : i < ns.length), 0 ≤ ns[i] ∧ ns[i] < ns.length := fun i h => r.mem (List.getElem_mem h)
  have hin : ∀ j, j < ns.length → (j : Int) ∈ ns := fun j h => r.2.2.mem_iff.mpr (List.mem_map.mpr ⟨j, List.mem_range.mpr h, rfl⟩)
  have nd := r.nodup
  refine ⟨fun i => (ns.getD i 0).toNat, fun j => ns.idxOf (j : Int), ⟨fun i hi => ?_, fun j hj => ?_⟩, ?_⟩
  · have e : ns.getD i 0 = ns[i] := by rw [List.getD_eq_getElem?_getD, List.getElem?_eq_getElem hi]; rfl
    have := hm i hi
    refine ⟨by show (ns.getD i 0).toNat < ns.length; rw [e]; omega, ?_⟩
    show ns.idxOf (((ns.getD i 0).toNat : Nat) : Int) = i
    rw [e, Int.toNat_of_nonneg this.1]
    exact nd.idxOf_getElem i hi
  · have hlt : ns.idxOf (j : Int) < ns.length := List.idxOf_lt_length_of_mem (hin j hj)
    refine ⟨hlt, ?_⟩
    show (ns.getD (ns.idxOf (j : Int)) 0).toNat = j
    rw [List.getD_eq_getElem?_getD, List.getElem?_eq_getElem hlt, List.getElem_idxOf hlt]; rfl
  · apply List.ext_getElem?
    intro k
    by_cases hk : k < ns.length
    · rw [ofF_get hk, List.getElem?_eq_getElem hk]
      have := hm k hk
      show some ns[k] = some (((ns.getD k 0).toNat : Nat) : Int)
      rw [List.getD_eq_getElem?_getD, List.getElem?_eq_getElem hk]
      show some ns[k] = some ((ns[k].toNat : Nat) : Int)
      rw [Int.toNat_of_nonneg this.1]
    · rw [List.getElem?_eq_none (by omega), List.getElem?_eq_none (by rw [ofF_len]; omega)]
end MM
namespace MM
open PySem PySem.Spec PyProof.Rows L2 GxR
theorem later2 {R : Int → Hp → Prop} {G : Prop} {T : Int → Hp → Prop} (k : (∀ u H, R u H → T u H) → G) (rest : ∀ u H, R u H → T u H) : G := k rest
theorem later1 {R : Int → Prop} {G : Prop} {T : Int → Prop} (k : (∀ u, R u → T u) → G) (rest : ∀ u, R u → T u) : G := k rest
/-! ### the row of always changing -/
def upS (r : List Int) (g : Nat) : List Int := if r.getD g 0 < r.getD (g + 1) 0 then swL r g else r
theorem up_ok {m g : Nat} {r : List Int} (h : g + 1 < m) (hl : r.length = m) (hr : IsRow r) : IsRow (upS r g) ∧ (upS r g).length = m ∧ High (upS r g) g ∧ Like r (upS r g) g := by
  have hg : g + 1 < r.length := by omega
  unfold upS
  by_cases c : r.getD g 0 < r.getD (g + 1) 0
  · rw [if_pos c]
    exact ⟨sw_row hg hr, by rw [sw_len hg, hl], by unfold High; rw [(sw_g hg).1, (sw_g hg).2]; exact Int.le_of_lt c, Like.sw hg hr⟩
  · rw [if_neg c]
    exact ⟨hr, hl, by unfold High; omega, Like.self hr⟩
def farAt (r gs : List Int) : Nat → List Int
  | 0 => r
  | k + 1 => upS (farAt r gs k) (gs.getD k 0).toNat
theorem farAt_ok {m : Nat} {r gs : List Int} (hr : IsRow r) (hl : r.length = m) (hb : BookOk m gs) : ∀ k, k ≤ gs.length → IsRow (farAt r gs k) ∧ (farAt r gs k).length = m
  | 0, _ => ⟨hr, hl⟩
  | k + 1, hk => by
    obtain ⟨a, b⟩ := farAt_ok hr hl hb k (by omega)
    obtain ⟨g, e, hg⟩ := book_at hb (k := k) (by omega)
    have := up_ok hg b a
    unfold farAt
    rw [e, Int.toNat_natCast]
    exact ⟨this.1, this.2.1⟩
/-- what stays below the row of always changing -/
theorem below_up {m g : Nat} {a a' b : List Int} (h : g + 1 < m) (hl : a.length = m) (hl2 : b.length = m) (hr2 : IsRow b) (la : Like a a' g) (hm : more a b = []) : more a' (upS b g) = [] := by
  obtain ⟨_, _, h3, h4⟩ := up_ok h hl2 hr2
  exact of_decide_eq_true ((la.bel h4 (by omega) (by rw [hl, hl2]) (.inr h3)).mpr (bel_off hm))
theorem more_self (a : List Int) : more a a = [] := more_iff.mpr fun _ _ _ _ => Nat.le_refl _
/-! ### data alike -/
inductive Da (K : PySem.W.Frag) (H : Hp) : Nat → V → V → Prop
  | int {n : Nat} (i : Int) : Da K H n (.int i) (.int i)
  | bl {n : Nat} (c : Bool) : Da K H n (.bl c) (.bl c)
  | lst {n : Nat} {a b : Addr} {xs ys : List V} (ha : H a = some (.lst xs)) (hb : H b = some (.lst ys)) (hl : xs.length = ys.length) (h : ∀ (k : Nat) (x y : V), xs[k]? = some x → ys[k]? = some y → Da K H n x y) (hz : xs.length ≤ 1000) : Da K H (n + 1) (.ref a) (.ref b)
  | tup {n : Nat} {a b : Addr} {xs ys : List V} (ha : SqT K H a xs) (hb : SqT K H b ys) (hl : xs.length = ys.length) (h : ∀ (k : Nat) (x y : V), xs[k]? = some x → ys[k]? = some y → Da K H n x y) (hz : xs.length ≤ 1000) : Da K H (n + 1) (.ref a) (.ref b)
theorem Da.ex {K : PySem.W.Frag} {H H' : Hp} (e : Ex H H') : ∀ {n : Nat} {x y : V}, Da K H n x y → Da K H' n x y := fun {n x y} h => by
  induction h with
  | int i => exact .int i
  | bl c => exact .bl c
  | lst ha hb hl _ hz ih => exact .lst (Ex.lst e ha) (Ex.lst e hb) hl ih hz
  | tup ha hb hl _ hz ih => exact .tup (e.sqt ha) (e.sqt hb) hl ih hz
theorem da_row {K : PySem.W.Frag} {H : Hp} {a b : Addr} {ns : List Int} (ha : SqT K H a (ns.map V.int)) (hb : SqT K H b (ns.map V.int)) (hl : ns.length ≤ 1000) {n : Nat} : Da K H (n + 1) (.ref a) (.ref b) := .tup ha hb rfl (fun k x y h1 h2 => by
  rw [h1] at h2; cases h2
  rw [List.getElem?_map] at h1
  cases e : ns[k]? with
  | none => rw [e] at h1; cases h1
  | some i => rw [e] at h1; cases h1; exact .int i) (by rw [List.length_map]; exact hl)
theorem da_list {K : PySem.W.Frag} {H : Hp} {a b : Addr} {ns : List Int} (ha : H a = some (.lst (ns.map V.int))) (hb : H b = some (.lst (ns.map V.int))) (hl : ns.length ≤ 1000) {n : Nat} : Da K H (n + 1) (.ref a) (.ref b) := .lst ha hb rfl (fun k x y h1 h2 => by
  rw [h1] at h2; cases h2
  rw [List.getElem?_map] at h1
  cases e : ns[k]? with
  | none => rw [e] at h1; cases h1
  | some i => rw [e] at h1; cases h1; exact .int i) (by rw [List.length_map]; exact hl)
/-! ### turned pairs -/
def prs (ns : List Int) : Nat → Nat
  | 0 => 0
  | k + 1 => prs ns k + cnt ns k (ns.getD k 0 + 1)
def pairsN (ns : List Int) : Nat := prs ns ns.length
theorem prs_sw {ns : List Int} {g : Nat} (h : g + 1 < ns.length) (hx : ns.getD g 0 < ns.getD (g + 1) 0) : ∀ k, (k ≤ g → prs (swL ns g) k = prs ns k) ∧ (g + 2 ≤ k → k ≤ ns.length → prs (swL ns g) k = prs ns k + 1)
  | 0 => ⟨fun _ => rfl, fun h => absurd h (by omega)⟩
  | k + 1 => by
    obtain ⟨i1, i2⟩ := prs_sw h hx k
    have same : k ≠ g → k ≠ g + 1 → (swL ns g).getD k 0 = ns.getD k 0 := fun a b => by
      rw [List.getD_eq_getElem?_getD, List.getD_eq_getElem?_getD, sw_get h, show trs g k = k by unfold trs; rw [if_neg a, if_neg b]]
    refine ⟨fun hk => ?_, fun hk hl => ?_⟩
    · show prs (swL ns g) k + cnt (swL ns g) k ((swL ns g).getD k 0 + 1) = prs ns k + cnt ns k (ns.getD k 0 + 1)
      rw [i1 (by omega), same (by omega) (by omega), sw_cnt h _ (by omega)]
    · by_cases e : k = g + 1
      · subst e
        obtain ⟨j1, _⟩ := prs_sw h hx g
        show (prs (swL ns g) g + cnt (swL ns g) g ((swL ns g).getD g 0 + 1)) + cnt (swL ns g) (g + 1) ((swL ns g).getD (g + 1) 0 + 1) = (prs ns g + cnt ns g (ns.getD g 0 + 1)) + cnt ns (g + 1) (ns.getD (g + 1) 0 + 1) + 1
        have c1 := cnt_at (ns := ns) (g := g) (by omega) (ns.getD (g + 1) 0 + 1)
        have c2 := cnt_at (ns := swL ns g) (g := g) (by rw [sw_len h]; omega) (ns.getD g 0 + 1)
        rw [(sw_g h).1, sw_cnt (i := g) h _ (by omega), if_pos (by omega)] at c2
        rw [if_neg (by omega)] at c1
        rw [j1 (Nat.le_refl _), (sw_g h).1, (sw_g h).2, sw_cnt (i := g) h _ (by omega), c1, c2]
        omega
      · show prs (swL ns g) k + cnt (swL ns g) k ((swL ns g).getD k 0 + 1) = prs ns k + cnt ns k (ns.getD k 0 + 1) + 1
        rw [i2 (by omega) (by omega), same (by omega) e, sw_cnt h _ (by omega)]
        omega
theorem pairs_sw {ns : List Int} {g : Nat} (h : g + 1 < ns.length) (hx : ns.getD g 0 < ns.getD (g + 1) 0) : pairsN (swL ns g) = pairsN ns + 1 := by
  unfold pairsN
  rw [sw_len h]
  exact (prs_sw h hx ns.length).2 (by omega) (Nat.le_refl _)
end MM
namespace MM
open PySem PySem.Spec PyProof.Rows L2 GxR
/-! ### meetings left out, kept -/
def farRow (m : Nat) (gs : List Int) : List Int := farAt (row0 m) gs gs.length
theorem farRow_ok {m : Nat} {gs : List Int} (h1 : 1 ≤ m) (h9 : m ≤ 9) (hb : BookOk m gs) : IsRow (farRow m gs) ∧ (farRow m gs).length = m := farAt_ok (row0_row h1 h9) (row0_len m) hb gs.length (Nat.le_refl _)
def outL (gs : List Int) (k : Nat) : List Int := gs.take k ++ gs.drop (k + 1)
theorem book_sub {m : Nat} {gs hs : List Int} (hb : BookOk m gs) (h : ∀ x ∈ hs, x ∈ gs) : BookOk m hs := fun x hx => hb x (h x hx)
theorem outL_sub {gs : List Int} {k : Nat} : ∀ x ∈ outL gs k, x ∈ gs := fun x hx => (List.mem_append.mp hx).elim List.mem_of_mem_take List.mem_of_mem_drop
theorem outL_len {gs : List Int} {k : Nat} : (outL gs k).length ≤ gs.length := by unfold outL; rw [List.length_append, List.length_take, List.length_drop]; omega
def needTo (m : Nat) (gs : List Int) (n : Nat) : List Int := ((List.range n).filter fun k => decide (farRow m (outL gs k) = farRow m gs)).map fun k => ((k : Nat) : Int)
theorem needTo_succ (m : Nat) (gs : List Int) (n : Nat) : needTo m gs (n + 1) = needTo m gs n ++ (if farRow m (outL gs n) = farRow m gs then [(n : Int)] else []) := by
  unfold needTo
  rw [List.range_succ, List.filter_append, List.map_append]
  by_cases h : farRow m (outL gs n) = farRow m gs
  · rw [if_pos h]; simp [h]
  · rw [if_neg h]; simp [h]
theorem needTo_len (m : Nat) (gs : List Int) (n : Nat) : (needTo m gs n).length ≤ n := by
  unfold needTo
  rw [List.length_map]
  exact Nat.le_trans (List.length_filter_le _ _) (by rw [List.length_range]; exact Nat.le_refl _)
theorem farAt_pre {r xs ys : List Int} : ∀ k, k ≤ xs.length → farAt r (xs ++ ys) k = farAt r xs k
  | 0, _ => rfl
  | k + 1, h => by
    have e : (xs ++ ys).getD k 0 = xs.getD k 0 := by rw [List.getD_eq_getElem?_getD, List.getD_eq_getElem?_getD, List.getElem?_append_left (by omega)]
    show upS (farAt r (xs ++ ys) k) ((xs ++ ys).getD k 0).toNat = upS (farAt r xs k) (xs.getD k 0).toNat
    rw [farAt_pre k (by omega), e]
theorem farRow_snoc {m : Nat} {xs : List Int} {g : Nat} : farRow m (xs ++ [(g : Int)]) = upS (farRow m xs) g := by
  unfold farRow
  rw [List.length_append]
  show upS (farAt (row0 m) (xs ++ [(g : Int)]) xs.length) ((xs ++ [(g : Int)]).getD xs.length 0).toNat = _
  have e : (xs ++ [(g : Int)]).getD xs.length 0 = (g : Int) := by rw [List.getD_eq_getElem?_getD, List.getElem?_append_right (Nat.le_refl _)]; simp
  rw [e, farAt_pre _ (Nat.le_refl _), Int.toNat_natCast]
theorem up_ne {r : List Int} {g : Nat} (h : g + 1 < r.length) : upS r g = r ↔ ¬ r.getD g 0 < r.getD (g + 1) 0 := by
  unfold upS
  constructor
  · intro e c
    rw [if_pos c] at e
    have := (sw_g h).1
    rw [e] at this; omega
  · intro c; rw [if_neg c]
def keptAt (m : Nat) (gs : List Int) : Nat → List Int
  | 0 => []
  | k + 1 => if (farAt (row0 m) gs k).getD (gs.getD k 0).toNat 0 < (farAt (row0 m) gs k).getD ((gs.getD k 0).toNat + 1) 0 then keptAt m gs k ++ [gs.getD k 0] else keptAt m gs k
theorem cnt_row0 {m k : Nat} (hk : k ≤ m) : cnt (row0 m) k ((k : Int)) = 0 := by
  unfold cnt
  rw [List.length_eq_zero_iff, List.filter_eq_nil_iff]
  intro x hx
  have : x ∈ (List.range k).map Int.ofNat := by
    have e : (row0 m).take k = (List.range k).map Int.ofNat := by unfold row0; rw [← List.map_take, List.take_range, Nat.min_eq_left hk]
    rw [← e]; exact hx
  obtain ⟨j, hj, rfl⟩ := List.mem_map.mp this
  have := List.mem_range.mp hj
  show ¬ decide ((k : Int) ≤ (j : Int)) = true
  rw [decide_eq_true_iff]; omega
theorem cnt_mono {ns : List Int} {i : Nat} {j j' : Int} (h : j ≤ j') : cnt ns i j' ≤ cnt ns i j := by
  unfold cnt
  rw [← List.countP_eq_length_filter, ← List.countP_eq_length_filter]
  exact List.countP_mono_left fun x _ hx => by
    rw [decide_eq_true_iff] at hx ⊢; omega
theorem pairs_row0 (m : Nat) : ∀ k, k ≤ m → prs (row0 m) k = 0
  | 0, _ => rfl
  | k + 1, h => by
    show prs (row0 m) k + cnt (row0 m) k ((row0 m).getD k 0 + 1) = 0
    have e : (row0 m).getD k 0 = (k : Int) := by
      rw [List.getD_eq_getElem?_getD, row0_ofF, ofF_get (by omega)]; rfl
    have h0 := cnt_row0 (m := m) (k := k) (by omega)
    have h1 := cnt_mono (ns := row0 m) (i := k) (show (k : Int) ≤ (k : Int) + 1 by omega)
    rw [pairs_row0 m k (by omega), e]; omega
theorem kept_ok {m : Nat} {gs : List Int} (h1 : 1 ≤ m) (h9 : m ≤ 9) (hb : BookOk m gs) : ∀ k, k ≤ gs.length → (∀ x ∈ keptAt m gs k, x ∈ gs) ∧ farRow m (keptAt m gs k) = farAt (row0 m) gs k ∧ (keptAt m gs k).length ≤ k ∧ (keptAt m gs k).length = pairsN (farAt (row0 m) gs k)
  | 0, _ => ⟨(fun _ h => nomatch h), rfl, Nat.le_refl _, by
    show 0 = pairsN (row0 m)
    unfold pairsN; rw [row0_len, pairs_row0 m m (Nat.le_refl _)]⟩
  | k + 1, hk => by
    obtain ⟨i1, i2, i3, i4⟩ := kept_ok h1 h9 hb k (by omega)
    obtain ⟨g, e, hg⟩ := book_at hb (k := k) (by omega)
    obtain ⟨hr, hl⟩ := farAt_ok (row0_row h1 h9) (row0_len m) hb k (by omega)
    have hgr : g + 1 < (farAt (row0 m) gs k).length := by rw [hl]; exact hg
    have ev : farAt (row0 m) gs (k + 1) = upS (farAt (row0 m) gs k) g := by show upS (farAt (row0 m) gs k) (gs.getD k 0).toNat = _; rw [e, Int.toNat_natCast]
    unfold keptAt
    rw [ev, e, Int.toNat_natCast]
    by_cases c : (farAt (row0 m) gs k).getD g 0 < (farAt (row0 m) gs k).getD (g + 1) 0
    · rw [if_pos c]
      refine ⟨fun x hx => ?_, by rw [farRow_snoc, i2], by rw [List.length_append]; show _ + 1 ≤ k + 1; omega, ?_⟩
      · rcases List.mem_append.mp hx with z | z
        · exact i1 x z
        · rw [List.mem_singleton.mp z, ← e, List.getD_eq_getElem?_getD, List.getElem?_eq_getElem (by omega : k < gs.length)]; exact List.getElem_mem _
      · rw [List.length_append, i4]
        unfold upS
        rw [if_pos c, pairs_sw hgr c]; rfl
    · rw [if_neg c]
      have eu : upS (farAt (row0 m) gs k) g = farAt (row0 m) gs k := (up_ne hgr).mpr c
      rw [eu]
      exact ⟨i1, i2, by omega, i4⟩
end MM
namespace MM
open PySem PySem.Spec PyProof.Rows L2 GxR
/-! ### the rows that come by some going are those below the row of always changing -/
def Come (m : Nat) (gs : List Int) : Nat → List Int → Prop
  | 0, x => x = row0 m
  | k + 1, x => Come m gs k x ∨ ∃ y, IsRow y ∧ y.length = m ∧ Come m gs k y ∧ x = swL y (gs.getD k 0).toNat
theorem least_row {m : Nat} {x : List Int} (hr : IsRow x) (hl : x.length = m) (h : more x (row0 m) = []) : x = row0 m := by
  have hm := more_iff.mp h
  have small : ∀ i, i < m → x.getD i 0 ≤ i ∧ 0 ≤ x.getD i 0 := fun i hi => by
    have h1 := hm (i + 1) (i + 1) (by omega) (by omega)
    have h2 := cnt_row0 (m := m) (k := i + 1) (by omega)
    have h3 := cnt_at (ns := x) (g := i) (by omega) (((i + 1 : Nat) : Nat) : Int)
    have hx : x.getD i 0 ∈ x := by rw [List.getD_eq_getElem?_getD, List.getElem?_eq_getElem (by omega : i < x.length)]; exact List.getElem_mem _
    have := hr.mem hx
    refine ⟨?_, this.1⟩
    rw [h2] at h1
    by_cases c : (((i + 1 : Nat) : Nat) : Int) ≤ x.getD i 0
    · rw [if_pos c] at h3; omega
    · omega
  have nd := hr.nodup
  have key : ∀ i, i < m → x.getD i 0 = (i : Int) := by
    intro i
    induction i using Nat.strongRecOn with
    | ind i ih =>
      intro hi
      obtain ⟨h1, h2⟩ := small i hi
      by_cases e : x.getD i 0 = (i : Int)
      · exact e
      · obtain ⟨j, hj⟩ : ∃ j : Nat, x.getD i 0 = (j : Int) := ⟨(x.getD i 0).toNat, by omega⟩
        have hji : j < i := by omega
        have := ih j hji (by omega)
        have hxi : i < x.length := by omega
        have hxj : j < x.length := by omega
        have e2 : x[i] = x[j] := by
          have a1 : x.getD i 0 = x[i] := by rw [List.getD_eq_getElem?_getD, List.getElem?_eq_getElem hxi]; rfl
          have a2 : x.getD j 0 = x[j] := by rw [List.getD_eq_getElem?_getD, List.getElem?_eq_getElem hxj]; rfl
          rw [← a1, ← a2, hj, this]
        have e3 : i = j := nd_ix nd (by rw [List.getElem?_eq_getElem hxi]) (by rw [List.getElem?_eq_getElem hxj, e2])
        omega
  apply List.ext_getElem?
  intro k
  by_cases hk : k < m
  · rw [getD_some (ns := x) (by omega), key k hk, row0_ofF, ofF_get hk]; rfl
  · rw [List.getElem?_eq_none (by omega), List.getElem?_eq_none (by rw [row0_len]; omega)]
theorem come_iff {m : Nat} {gs : List Int} (h1 : 1 ≤ m) (h9 : m ≤ 9) (hb : BookOk m gs) : ∀ k, k ≤ gs.length → ∀ x, IsRow x → x.length = m → (Come m gs k x ↔ more x (farAt (row0 m) gs k) = [])
  | 0, _, x, hr, hl => ⟨fun h => by rw [show x = row0 m from h]; exact more_self _, fun h => least_row hr hl h⟩
  | k + 1, hk, x, hr, hl => by
    have ih := come_iff h1 h9 hb k (by omega)
    obtain ⟨g, e, hg⟩ := book_at hb (k := k) (by omega)
    obtain ⟨hri, hrl⟩ := farAt_ok (row0_row h1 h9) (row0_len m) hb k (by omega)
    have hgx : g + 1 < x.length := by rw [hl]; exact hg
    obtain ⟨u1, u2, u3, u4⟩ := up_ok hg hrl hri
    have ev : farAt (row0 m) gs (k + 1) = upS (farAt (row0 m) gs k) g := by show upS (farAt (row0 m) gs k) (gs.getD k 0).toNat = _; rw [e, Int.toNat_natCast]
    have hlen : x.length = (farAt (row0 m) gs k).length := by rw [hl, hrl]
    have goal : more x (upS (farAt (row0 m) gs k) g) = [] ↔ Off x (farAt (row0 m) gs k) g := by
      have := (Like.self hr).bel u4 hgx hlen (.inr u3)
      rw [decide_eq_true_iff] at this; exact this
    have rs := sw_row hgx hr
    have ls : (swL x g).length = m := by rw [sw_len hgx, hl]
    have step : Come m gs (k + 1) x ↔ Come m gs k x ∨ Come m gs k (swL x g) := by
      show (Come m gs k x ∨ ∃ y, IsRow y ∧ y.length = m ∧ Come m gs k y ∧ x = swL y (gs.getD k 0).toNat) ↔ _
      rw [e, Int.toNat_natCast]
      constructor
      · rintro (h | ⟨y, _, hyl, hy, rfl⟩)
        · exact .inl h
        · have hgy : g + 1 < y.length := by rw [hyl]; exact hg
          exact .inr (by rw [sw_sw hgy]; exact hy)
      · rintro (h | h)
        · exact .inl h
        · exact .inr ⟨_, rs, ls, h, (sw_sw hgx).symm⟩
    rw [step, ev, goal, ih x hr hl, ih _ rs ls]
    constructor
    · rintro (h | h)
      · exact bel_off h
      · exact ((Like.sw hgx hr).off (Like.self hri)).mp (bel_off h)
    · intro o
      rcases Int.le_total (x.getD g 0) (x.getD (g + 1) 0) with c | c
      · exact .inl ((off_iff hgx hlen (.inl c)).mpr o)
      · refine .inr ((off_iff (by rw [sw_len hgx]; exact hgx) (by rw [sw_len hgx]; exact hlen) (.inl ?_)).mpr (((Like.sw hgx hr).off (Like.self hri)).mpr o))
        unfold Low
        rw [(sw_g hgx).1, (sw_g hgx).2]; exact c
end MM
namespace MM
open PySem PySem.Spec PyProof.Rows L2 GxR
/-! ### rows as keys -/
theorem nodup_lt : ∀ (N : Nat) (l : List Nat), l.Nodup → (∀ x ∈ l, x < N) → l.length ≤ N
  | 0, [], _, _ => Nat.le_refl _
  | 0, x :: _, _, h => absurd (h x List.mem_cons_self) (Nat.not_lt_zero _)
  | N + 1, l, hn, h => by
    by_cases hN : N ∈ l
    · have h1 := nodup_lt N (l.erase N) (hn.erase N) (fun x hx => by
        have h2 := (hn.mem_erase_iff).mp hx
        have := h x h2.2
        have := h2.1
        omega)
      rw [List.length_erase_of_mem hN] at h1
      omega
    · have h1 := nodup_lt N l hn (fun x hx => by
        have := h x hx
        have : x ≠ N := fun z => hN (z ▸ hx)
        omega)
      omega
theorem perm_lt : ∀ (N : Nat) (l : List Nat), l.Nodup → (∀ x ∈ l, x < N) → l.length = N → l.Perm (List.range N)
  | 0, l, _, _, h => by rw [List.length_eq_zero_iff.mp h]; exact List.Perm.refl _
  | N + 1, l, hn, h, hl => by
    have hN : N ∈ l := by
      by_cases hN : N ∈ l
      · exact hN
      · have := nodup_lt N l hn (fun x hx => by
          have := h x hx
          have : x ≠ N := fun z => hN (z ▸ hx)
          omega)
        omega
    have h1 := perm_lt N (l.erase N) (hn.erase N) (fun x hx => by
      have h2 := (hn.mem_erase_iff).mp hx
      have := h x h2.2
      have := h2.1
      omega) (by rw [List.length_erase_of_mem hN]; omega)
    rw [List.range_succ]
    exact (List.perm_cons_erase hN).trans ((h1.cons N).trans (List.perm_append_singleton N (List.range N)).symm)
theorem toNat_nodup : ∀ {ns : List Int}, ns.Nodup → (∀ x ∈ ns, 0 ≤ x) → (ns.map Int.toNat).Nodup
  | [], _, _ => List.nodup_nil
  | x :: ns, h, h0 => by
    rw [List.nodup_cons] at h
    rw [List.map_cons, List.nodup_cons]
    refine ⟨fun z => ?_, toNat_nodup h.2 fun y hy => h0 y (List.mem_cons_of_mem _ hy)⟩
    obtain ⟨y, hy, e⟩ := List.mem_map.mp z
    have h1 := h0 x List.mem_cons_self
    have h2 := h0 y (List.mem_cons_of_mem _ hy)
    have : y = x := by omega
    exact h.1 (this ▸ hy)
theorem row_nodup {ns : List Int} {m : Nat} (h1 : 1 ≤ m) (h9 : m ≤ 9) (hn : ns.Nodup) (hb : ∀ x ∈ ns, 0 ≤ x ∧ x < (m : Int)) (hl : ns.length = m) : IsRow ns := by
  refine ⟨by omega, by omega, ?_⟩
  have h := perm_lt m (ns.map Int.toNat) (toNat_nodup hn fun x hx => (hb x hx).1) (fun x hx => by
    obtain ⟨y, hy, rfl⟩ := List.mem_map.mp hx
    have := hb y hy
    omega) (by rw [List.length_map, hl])
  have h2 := h.map Int.ofNat
  rw [List.map_map] at h2
  have e : ns.map (Int.ofNat ∘ Int.toNat) = ns := by
    conv => rhs; rw [← List.map_id ns]
    refine List.map_congr_left fun x hx => ?_
    have := hb x hx
    show Int.ofNat x.toNat = x
    rw [Int.ofNat_eq_natCast]; omega
  rw [e] at h2
  rw [hl]
  exact h2
theorem row_nd {ns : List Int} (h : IsRow ns) : ns.Nodup := by
  refine h.2.2.symm.nodup ?_
  rw [List.nodup_iff_pairwise_ne, List.pairwise_map]
  refine (List.nodup_iff_pairwise_ne.mp List.nodup_range).imp fun {a b} hab z => hab (by injection z)
/-- a row's number -/
def numR : List Int → Nat
  | [] => 0
  | x :: ns => x.toNat + 9 * numR ns
theorem numR_lt : ∀ {ns : List Int}, (∀ x ∈ ns, 0 ≤ x ∧ x < 9) → numR ns < 9 ^ ns.length
  | [], _ => by decide
  | x :: ns, h => by
    have h1 := numR_lt (ns := ns) fun y hy => h y (List.mem_cons_of_mem _ hy)
    have h2 := h x List.mem_cons_self
    rw [List.length_cons, Nat.pow_succ]
    show x.toNat + 9 * numR ns < _
    omega
theorem numR_inj : ∀ {ns ms : List Int}, (∀ x ∈ ns, 0 ≤ x ∧ x < 9) → (∀ x ∈ ms, 0 ≤ x ∧ x < 9) → ns.length = ms.length → numR ns = numR ms → ns = ms
  | [], [], _, _, _, _ => rfl
  | x :: ns, y :: ms, h, h', hl, e => by
    have h1 := h x List.mem_cons_self
    have h2 := h' y List.mem_cons_self
    have e' : x.toNat + 9 * numR ns = y.toNat + 9 * numR ms := e
    have e1 : x = y := by omega
    have e2 : numR ns = numR ms := by omega
    rw [e1, numR_inj (fun z hz => h z (List.mem_cons_of_mem _ hz)) (fun z hz => h' z (List.mem_cons_of_mem _ hz)) (by simpa using hl) e2]
abbrev rk (ns : List Int) : List Key := ns.map Sum.inl
theorem rk_kV (ns : List Int) : (rk ns).map kV = ns.map V.int := by
  unfold rk; rw [List.map_map]; rfl
theorem rk_inj : ∀ {a b : List Int}, rk a = rk b → a = b
  | [], [], _ => rfl
  | x :: a, y :: b, h => by
    unfold rk at h
    rw [List.map_cons, List.map_cons] at h
    injection h with h1 h2
    injection h1 with h1
    rw [h1, rk_inj h2]
structure RowsK (m : Nat) (S : List Int → Prop) (kvs : List (List Key × V)) : Prop where
  nd : (kvs.map (·.1)).Nodup
  all : ∀ p ∈ kvs, ∃ ns, p.1 = rk ns ∧ IsRow ns ∧ ns.length = m
  isk : ∀ ns, (valV kvs (rk ns)).isSome = true ↔ S ns
theorem RowsK.le {m : Nat} {S : List Int → Prop} {kvs : List (List Key × V)} (h : RowsK m S kvs) (h6 : m ≤ 6) : kvs.length ≤ 531441 := by
  have key : ∀ k ∈ kvs.map (·.1), ∃ ns, k = rk ns ∧ IsRow ns ∧ ns.length = m := fun k hk => by
    obtain ⟨p, hp, rfl⟩ := List.mem_map.mp hk; exact h.all p hp
  have dig : ∀ {ns : List Int}, IsRow ns → ∀ x ∈ ns, 0 ≤ x ∧ x < 9 := fun hR x hx => by have := hR.mem hx; have := hR.2.1; omega
  have go : ∀ l : List (List Key), l.Nodup → (∀ k ∈ l, ∃ ns, k = rk ns ∧ IsRow ns ∧ ns.length = m) → ∃ L : List Nat, L.length = l.length ∧ L.Nodup ∧ (∀ z ∈ L, z < 9 ^ m) ∧ ∀ z ∈ L, ∃ ns, rk ns ∈ l ∧ IsRow ns ∧ ns.length = m ∧ z = numR ns := by
    intro l
    induction l with
    | nil => exact fun _ _ => ⟨[], rfl, List.nodup_nil, (fun _ h => nomatch h), (fun _ h => nomatch h)⟩
    | cons k l ih =>
      intro hn hk
      rw [List.nodup_cons] at hn
      obtain ⟨L, a, b, c, d⟩ := ih hn.2 fun k' hk' => hk k' (List.mem_cons_of_mem _ hk')
      obtain ⟨ns, rfl, hR, hl⟩ := hk k List.mem_cons_self
      refine ⟨numR ns :: L, by rw [List.length_cons, List.length_cons, a], ?_, ?_, ?_⟩
      · rw [List.nodup_cons]
        refine ⟨fun z => ?_, b⟩
        obtain ⟨ms, h1, h2, h3, h4⟩ := d _ z
        have := numR_inj (dig hR) (dig h2) (by rw [hl, h3]) h4
        exact hn.1 (this ▸ h1)
      · intro z hz
        rcases List.mem_cons.mp hz with e | hz
        · rw [e, ← hl]; exact numR_lt (dig hR)
        · exact c z hz
      · intro z hz
        rcases List.mem_cons.mp hz with e | hz
        · exact ⟨ns, List.mem_cons_self, hR, hl, e⟩
        · obtain ⟨ms, h1, h2⟩ := d z hz
          exact ⟨ms, List.mem_cons_of_mem _ h1, h2⟩
  obtain ⟨L, a, b, c, _⟩ := go _ h.nd key
  have h1 := nodup_lt _ L b c
  rw [List.length_map] at a
  have h2 : 9 ^ m ≤ 9 ^ 6 := Nat.pow_le_pow_right (by decide) h6
  have h3 : (9 : Nat) ^ 6 = 531441 := by decide
  omega
theorem putK_keys {kvs : List (List Key × V)} {k : List Key} {v : V} : (putK kvs k v).map (·.1) = if (valV kvs k).isSome = true then kvs.map (·.1) else kvs.map (·.1) ++ [k] := by
  unfold putK
  rw [valV_any]
  by_cases h : (valV kvs k).isSome = true
  · rw [if_pos h, if_pos h, List.map_map]
    refine List.map_congr_left fun p _ => ?_
    show (if p.1 = k then (p.1, v) else p).1 = p.1
    split <;> rfl
  · rw [if_neg h, if_neg h, List.map_append]; rfl
theorem valV_mem {kvs : List (List Key × V)} {k : List Key} : (valV kvs k).isSome = true ↔ k ∈ kvs.map (·.1) := by
  rw [← valV_any, List.any_eq_true]
  constructor
  · rintro ⟨p, hp, e⟩; exact List.mem_map.mpr ⟨p, hp, of_decide_eq_true e⟩
  · intro h; obtain ⟨p, hp, e⟩ := List.mem_map.mp h; exact ⟨p, hp, decide_eq_true e⟩
theorem RowsK.put {m : Nat} {S : List Int → Prop} {kvs : List (List Key × V)} (h : RowsK m S kvs) {ns : List Int} (hR : IsRow ns) (hl : ns.length = m) (v : V) : RowsK m (fun x => S x ∨ x = ns) (putK kvs (rk ns) v) := by
  refine ⟨?_, fun p hp => ?_, fun x => ?_⟩
  · rw [putK_keys]
    by_cases e : (valV kvs (rk ns)).isSome = true
    · rw [if_pos e]; exact h.nd
    · rw [if_neg e]
      rw [List.nodup_append]
      refine ⟨h.nd, (by simp), fun a ha b hb z => ?_⟩
      rw [List.mem_singleton.mp hb] at z
      exact e (valV_mem.mpr (z ▸ ha))
  · have : p.1 ∈ (putK kvs (rk ns) v).map (·.1) := List.mem_map.mpr ⟨p, hp, rfl⟩
    rw [putK_keys] at this
    have key : ∀ k ∈ kvs.map (·.1), ∃ ns, k = rk ns ∧ IsRow ns ∧ ns.length = m := fun k hk => by
      obtain ⟨p, hp, rfl⟩ := List.mem_map.mp hk; exact h.all p hp
    by_cases e : (valV kvs (rk ns)).isSome = true
    · rw [if_pos e] at this; exact key _ this
    · rw [if_neg e] at this
      rcases List.mem_append.mp this with z | z
      · exact key _ z
      · exact ⟨ns, List.mem_singleton.mp z, hR, hl⟩
  · rw [valV_put]
    by_cases e : rk x = rk ns
    · rw [if_pos e]
      exact ⟨fun _ => .inr (rk_inj e), fun _ => rfl⟩
    · rw [if_neg e, h.isk x]
      exact ⟨.inl, fun z => z.resolve_right fun q => e (by rw [q])⟩
theorem RowsK.congr {m : Nat} {S S' : List Int → Prop} {kvs : List (List Key × V)} (h : RowsK m S kvs) (e : ∀ x, S x ↔ S' x) : RowsK m S' kvs := ⟨h.nd, h.all, fun ns => (h.isk ns).trans (e ns)⟩
theorem RowsK.one {ns : List Int} {m : Nat} (hR : IsRow ns) (hl : ns.length = m) (v : V) : RowsK m (fun x => x = ns) (putK [] (rk ns) v) :=
  (RowsK.put (S := fun _ => False) (kvs := []) ⟨List.nodup_nil, (fun _ h => nomatch h), fun x => ⟨fun h => (nomatch h), fun h => h.elim⟩⟩ hR hl v).congr fun x => ⟨fun h => h.resolve_left id, .inr⟩
theorem paired_at {α β : Type} {F : α → β → Prop} : ∀ {l : List α} {m : List β}, Paired F l m → l.length = m.length ∧ ∀ i (h : i < l.length) (h' : i < m.length), F l[i] m[i]
  | _, _, .nil => ⟨rfl, fun _ h => absurd h (Nat.not_lt_zero _)⟩
  | _, _, .cons h t => by
    obtain ⟨a, b⟩ := paired_at t
    refine ⟨by rw [List.length_cons, List.length_cons, a], fun i h1 h2 => ?_⟩
    cases i with
    | zero => exact h
    | succ i => exact b i (by simpa using h1) (by simpa using h2)
end MM
namespace MM
open PySem PySem.Spec PyProof.Rows L2 GxR
/-! ### going back from a row, and going on from where its people stand -/
theorem row_ne {x : List Int} {g : Nat} (hr : IsRow x) (hg : g + 1 < x.length) : x.getD g 0 ≠ x.getD (g + 1) 0 := fun e => by
  have h1 := getD_some (ns := x) (g := g) (by omega)
  have h2 := getD_some (ns := x) (g := g + 1) hg
  rw [← e] at h2
  have := nd_ix hr.nodup h1 h2
  omega
def lowS (x : List Int) (g : Nat) : List Int := if x.getD g 0 < x.getD (g + 1) 0 then x else swL x g
theorem low_ok {m g : Nat} {x : List Int} (h : g + 1 < m) (hl : x.length = m) (hr : IsRow x) : IsRow (lowS x g) ∧ (lowS x g).length = m := by
  unfold lowS
  split
  · exact ⟨hr, hl⟩
  · exact ⟨sw_row (by rw [hl]; exact h) hr, by rw [sw_len (by rw [hl]; exact h), hl]⟩
def dnL : List Int → List Int → List Int
  | [], x => x
  | g :: l, x => dnL l (lowS x g.toNat)
theorem dnL_app : ∀ (l l' : List Int) (x : List Int), dnL (l ++ l') x = dnL l' (dnL l x)
  | [], _, _ => rfl
  | g :: l, l', x => dnL_app l l' (lowS x g.toNat)
theorem dnL_succ {gs x : List Int} {i : Nat} (h : i < gs.length) : dnL (gs.take (i + 1)) x = lowS (dnL (gs.take i) x) (gs.getD i 0).toNat := by
  rw [List.take_add_one, getD_some h, dnL_app]; rfl
theorem dnL_ok {m : Nat} : ∀ {gs : List Int} {x : List Int}, BookOk m gs → IsRow x → x.length = m → IsRow (dnL gs x) ∧ (dnL gs x).length = m
  | [], _, _, hr, hl => ⟨hr, hl⟩
  | g :: gs, x, hb, hr, hl => by
    have h := hb g List.mem_cons_self
    obtain ⟨a, b⟩ := low_ok (g := g.toNat) (by omega) hl hr
    show IsRow (dnL gs (lowS x g.toNat)) ∧ (dnL gs (lowS x g.toNat)).length = m
    exact dnL_ok (gs := gs) (fun y hy => hb y (List.mem_cons_of_mem _ hy)) a b
theorem come_low {m : Nat} {gs : List Int} (h1 : 1 ≤ m) (h9 : m ≤ 9) (hb : BookOk m gs) {k : Nat} (hk : k < gs.length) {x : List Int} (hr : IsRow x) (hl : x.length = m) : Come m gs (k + 1) x ↔ Come m gs k (lowS x (gs.getD k 0).toNat) := by
  obtain ⟨g, e, hg⟩ := book_at hb hk
  obtain ⟨hri, hrl⟩ := farAt_ok (row0_row h1 h9) (row0_len m) hb k (by omega)
  have hgx : g + 1 < x.length := by rw [hl]; exact hg
  obtain ⟨u1, u2, u3, u4⟩ := up_ok hg hrl hri
  have ev : farAt (row0 m) gs (k + 1) = upS (farAt (row0 m) gs k) g := by show upS (farAt (row0 m) gs k) (gs.getD k 0).toNat = _; rw [e, Int.toNat_natCast]
  have hlen : x.length = (farAt (row0 m) gs k).length := by rw [hl, hrl]
  have goal : more x (upS (farAt (row0 m) gs k) g) = [] ↔ Off x (farAt (row0 m) gs k) g := by
    have := (Like.self hr).bel u4 hgx hlen (.inr u3)
    rw [decide_eq_true_iff] at this; exact this
  rw [e, Int.toNat_natCast]
  obtain ⟨lr, ll⟩ := low_ok hg hl hr
  rw [come_iff h1 h9 hb (k + 1) hk x hr hl, ev, goal, come_iff h1 h9 hb k (by omega) _ lr ll]
  unfold lowS
  by_cases c : x.getD g 0 < x.getD (g + 1) 0
  · rw [if_pos c]
    exact (off_iff hgx hlen (.inl (Int.le_of_lt c))).symm
  · rw [if_neg c]
    have o := (Like.sw hgx hr).off (Like.self hri)
    rw [← o]
    refine (off_iff (by rw [sw_len hgx]; exact hgx) (by rw [sw_len hgx]; exact hlen) (.inl ?_)).symm
    unfold Low
    rw [(sw_g hgx).1, (sw_g hgx).2]; omega
theorem come_dn {m : Nat} {gs : List Int} (h1 : 1 ≤ m) (h9 : m ≤ 9) (hb : BookOk m gs) : ∀ k, k ≤ gs.length → ∀ {x : List Int}, IsRow x → x.length = m → (Come m gs k x ↔ dnL (gs.take k).reverse x = row0 m)
  | 0, _, _, _, _ => Iff.rfl
  | k + 1, hk, x, hr, hl => by
    obtain ⟨g, e, hg⟩ := book_at hb (k := k) (by omega)
    rw [come_low h1 h9 hb (by omega) hr hl]
    obtain ⟨lr, ll⟩ := low_ok hg hl hr
    rw [e, Int.toNat_natCast, come_dn h1 h9 hb k (by omega) lr ll, List.take_add_one, getD_some (by omega), e, List.reverse_append]
    show _ ↔ dnL ((g : Int) :: (gs.take k).reverse) x = row0 m
    show _ ↔ dnL (gs.take k).reverse (lowS x ((g : Int)).toNat) = row0 m
    rw [Int.toNat_natCast]
theorem come_all {m : Nat} {gs : List Int} (h1 : 1 ≤ m) (h9 : m ≤ 9) (hb : BookOk m gs) {x : List Int} (hr : IsRow x) (hl : x.length = m) : Come m gs gs.length x ↔ dnL gs.reverse x = row0 m := by
  rw [come_dn h1 h9 hb gs.length (Nat.le_refl _) hr hl, List.take_length]
theorem row_ofF {m : Nat} {a b : Nat → Nat} (h1 : 1 ≤ m) (h9 : m ≤ 9) (h : IsInv m a b) : IsRow (ofF m a) := by
  refine row_nodup h1 h9 ?_ (fun x hx => ?_) (ofF_len m a)
  · rw [List.nodup_iff_pairwise_ne, List.pairwise_iff_getElem]
    intro i j hi hj hij e
    have hi' : i < m := by rw [ofF_len] at hi; exact hi
    have hj' : j < m := by rw [ofF_len] at hj; exact hj
    have e1 := ofF_get (a := a) hi'
    have e2 := ofF_get (a := a) hj'
    rw [List.getElem?_eq_getElem hi] at e1
    rw [List.getElem?_eq_getElem hj, ← e, e1] at e2
    have e3 : a i = a j := by have := Option.some.inj e2; omega
    have b1 := (h.ab i hi').2
    have b2 := (h.ab j hj').2
    rw [e3, b2] at b1
    omega
  · unfold ofF at hx
    obtain ⟨i, hi, rfl⟩ := List.mem_map.mp hx
    have := (h.ab i (List.mem_range.mp hi)).1
    omega
/-! ### words -/
def Pw : List Nat → Nat → Nat
  | [], j => j
  | g :: l, j => trs g (Pw l j)
theorem Pw_app : ∀ (l l' : List Nat) (j : Nat), Pw (l ++ l') j = Pw l (Pw l' j)
  | [], _, _ => rfl
  | g :: l, l', j => by show trs g (Pw (l ++ l') j) = trs g (Pw l (Pw l' j)); rw [Pw_app]
theorem Pw_rev : ∀ (l : List Nat) (j : Nat), Pw l.reverse (Pw l j) = j
  | [], _ => rfl
  | g :: l, j => by
    rw [List.reverse_cons, Pw_app]
    show Pw l.reverse (trs g (trs g (Pw l j))) = j
    rw [trs_trs, Pw_rev]
theorem Pw_lt {m : Nat} : ∀ {l : List Nat} {j : Nat}, (∀ g ∈ l, g + 1 < m) → j < m → Pw l j < m
  | [], _, _, h => h
  | g :: l, j, hl, h => trs_lt (hl g List.mem_cons_self) (Pw_lt (fun x hx => hl x (List.mem_cons_of_mem _ hx)) h)
theorem ofF_congr {m : Nat} {a b : Nat → Nat} (h : ∀ j, j < m → a j = b j) : ofF m a = ofF m b := by
  unfold ofF
  exact List.map_congr_left fun j hj => by rw [h j (List.mem_range.mp hj)]
theorem ofF_eq {m : Nat} {a b : Nat → Nat} (h : ofF m a = ofF m b) {j : Nat} (hj : j < m) : a j = b j := by
  have h1 := ofF_get (a := a) hj
  rw [h, ofF_get hj] at h1
  have := Option.some.inj h1
  omega
/-- a book's gaps as numbers -/
abbrev nat (gs : List Int) : List Nat := gs.map Int.toNat
theorem nat_ok {m : Nat} {gs : List Int} (hb : BookOk m gs) : ∀ g ∈ nat gs, g + 1 < m := fun g hg => by
  obtain ⟨x, hx, rfl⟩ := List.mem_map.mp hg
  have := hb x hx; omega
theorem come_word {m : Nat} {gs : List Int} (h1 : 1 ≤ m) (h9 : m ≤ 9) (hb : BookOk m gs) : ∀ k, k ≤ gs.length → ∀ {x : List Int}, Come m gs k x ↔ ∃ l : List Nat, l.Sublist (nat (gs.take k)) ∧ x = ofF m (Pw l)
  | 0, _, x => ⟨fun h => ⟨[], List.Sublist.refl _, h⟩, fun ⟨l, hl, h⟩ => by
      have : l = [] := List.sublist_nil.mp (by simpa using hl)
      rw [this] at h; exact h⟩
  | k + 1, hk, x => by
    obtain ⟨g, e, hg⟩ := book_at hb (k := k) (by omega)
    have et : nat (gs.take (k + 1)) = nat (gs.take k) ++ [g] := by
      unfold nat
      rw [List.take_add_one, getD_some (by omega), e, List.map_append]; rfl
    have sub : ∀ {l : List Nat}, l.Sublist (nat (gs.take k)) → ∀ y ∈ l, y + 1 < m := fun hl y hy => nat_ok hb y (by
      have := hl.subset hy
      obtain ⟨z, hz, ez⟩ := List.mem_map.mp this
      exact List.mem_map.mpr ⟨z, List.mem_of_mem_take hz, ez⟩)
    have ih := fun {x} => come_word h1 h9 hb k (by omega) (x := x)
    have sw : ∀ l : List Nat, swL (ofF m (Pw l)) g = ofF m (Pw (l ++ [g])) := fun l => by
      rw [sw_ofF hg]
      exact ofF_congr fun j _ => (Pw_app l [g] j).symm
    show (Come m gs k x ∨ ∃ y, IsRow y ∧ y.length = m ∧ Come m gs k y ∧ x = swL y (gs.getD k 0).toNat) ↔ _
    rw [e, Int.toNat_natCast, et]
    constructor
    · rintro (h | ⟨y, _, _, hy, rfl⟩)
      · obtain ⟨l, hl, h⟩ := ih.mp h
        exact ⟨l, hl.trans (List.sublist_append_left _ _), h⟩
      · obtain ⟨l, hl, rfl⟩ := ih.mp hy
        exact ⟨l ++ [g], hl.append (List.Sublist.refl _), sw l⟩
    · rintro ⟨l, hl, rfl⟩
      obtain ⟨l1, l2, rfl, a, b⟩ := List.sublist_append_iff.mp hl
      have hb2 : l2 = [] ∨ l2 = [g] := by
        cases b with
        | cons _ b => exact .inl (List.sublist_nil.mp b)
        | cons_cons _ b => exact .inr (by rw [List.sublist_nil.mp b])
      rcases hb2 with rfl | rfl
      · rw [List.append_nil]; exact .inl (ih.mpr ⟨l1, a, rfl⟩)
      · have hc := ih.mpr ⟨l1, a, rfl⟩
        have inv : IsInv m (Pw l1) (Pw l1.reverse) := ⟨fun i hi => ⟨Pw_lt (sub a) hi, Pw_rev l1 i⟩, fun j hj => ⟨Pw_lt (fun g hg => sub a g (List.mem_reverse.mp hg)) hj, by have := Pw_rev l1.reverse j; rw [List.reverse_reverse] at this; exact this⟩⟩
        exact .inr ⟨_, row_ofF h1 h9 inv, ofF_len _ _, hc, (sw l1).symm⟩
end MM
namespace MM
open PySem PySem.Spec PyProof.Rows L2 GxR
/-! ### the fewest changes, found by going on from where the people stand -/
theorem book_rev {m : Nat} {gs : List Int} (hb : BookOk m gs) : BookOk m gs.reverse := fun x hx => hb x (List.mem_reverse.mp hx)
theorem come_rev {m : Nat} {gs : List Int} {a b : Nat → Nat} (h1 : 1 ≤ m) (h9 : m ≤ 9) (hb : BookOk m gs) (hi : IsInv m a b) (h : Come m gs gs.length (ofF m a)) : Come m gs.reverse gs.reverse.length (ofF m b) := by
  obtain ⟨l, hl, e⟩ := (come_word h1 h9 hb gs.length (Nat.le_refl _)).mp h
  rw [List.take_length] at hl
  refine (come_word h1 h9 (book_rev hb) gs.reverse.length (Nat.le_refl _)).mpr ⟨l.reverse, ?_, ?_⟩
  · rw [List.take_length]
    have := List.reverse_sublist.mpr hl
    unfold nat at this ⊢
    rw [List.map_reverse]; exact this
  · refine ofF_congr fun q hq => ?_
    obtain ⟨h2, h3⟩ := hi.ba q hq
    have := ofF_eq e h2
    rw [h3] at this
    conv => rhs; rw [this]
    exact (Pw_rev l (b q)).symm
theorem few_iff {m : Nat} {gs : List Int} {a b : Nat → Nat} (h1 : 1 ≤ m) (h9 : m ≤ 9) (hb : BookOk m gs) (hi : IsInv m a b) : dnL gs (ofF m b) = row0 m ↔ Come m gs gs.length (ofF m a) := by
  have e := come_all h1 h9 (book_rev hb) (row_ofF h1 h9 hi.symm) (ofF_len m b)
  rw [List.reverse_reverse] at e
  rw [← e]
  constructor
  · intro h
    have := come_rev h1 h9 (book_rev hb) hi.symm h
    rw [List.reverse_reverse] at this; exact this
  · exact come_rev h1 h9 hb hi
def gapN (gs : List Int) (k : Nat) : Nat := (gs.getD k 0).toNat
def asc (gs y : List Int) (k : Nat) : Prop := (dnL (gs.take k) y).getD (gapN gs k) 0 < (dnL (gs.take k) y).getD (gapN gs k + 1) 0
instance (gs y : List Int) (k : Nat) : Decidable (asc gs y k) := by unfold asc; infer_instance
def tld (gs y : List Int) (i : Nat) : List Nat := (List.range i).filter fun k => !decide (asc gs y k)
theorem tld_succ (gs y : List Int) (i : Nat) : tld gs y (i + 1) = if asc gs y i then tld gs y i else tld gs y i ++ [i] := by
  unfold tld
  rw [List.range_succ, List.filter_append]
  by_cases h : asc gs y i
  · rw [if_pos h, List.filter_cons_of_neg (by rw [decide_eq_true h]; decide), List.filter_nil, List.append_nil]
  · rw [if_neg h, List.filter_cons_of_pos (by rw [decide_eq_false h]; rfl), List.filter_nil]
theorem mem_tld {gs y : List Int} {n k : Nat} : k ∈ tld gs y n ↔ k < n ∧ ¬ asc gs y k := by
  unfold tld
  rw [List.mem_filter, List.mem_range]; simp
theorem tld_lt {gs y : List Int} {n : Nat} : (tld gs y n).Pairwise (· < ·) := by
  unfold tld
  exact List.Pairwise.filter _ List.pairwise_lt_range
theorem dn_next {gs y : List Int} {i : Nat} (h : i < gs.length) : dnL (gs.take (i + 1)) y = if asc gs y i then dnL (gs.take i) y else swL (dnL (gs.take i) y) (gapN gs i) := dnL_succ h
def wrd (gs y : List Int) (i : Nat) : List Nat := (tld gs y i).map fun k => gapN gs k
theorem wrd_succ (gs y : List Int) (i : Nat) : wrd gs y (i + 1) = if asc gs y i then wrd gs y i else wrd gs y i ++ [gapN gs i] := by
  unfold wrd
  rw [tld_succ]
  split
  · rfl
  · rw [List.map_append]; rfl
theorem gap_lt {m : Nat} {gs : List Int} (hb : BookOk m gs) {k : Nat} (hk : k < gs.length) : gapN gs k + 1 < m := by
  obtain ⟨g, e, hg⟩ := book_at hb hk
  unfold gapN; rw [e, Int.toNat_natCast]; exact hg
theorem wrd_ok {m : Nat} {gs y : List Int} (hb : BookOk m gs) {i : Nat} (hi : i ≤ gs.length) : ∀ g ∈ wrd gs y i, g + 1 < m := fun g hg => by
  obtain ⟨k, hk, rfl⟩ := List.mem_map.mp hg
  have := (mem_tld.mp hk).1
  exact gap_lt hb (by omega)
theorem dn_word {m : Nat} {gs : List Int} {b : Nat → Nat} (hb : BookOk m gs) : ∀ i, i ≤ gs.length → dnL (gs.take i) (ofF m b) = ofF m fun j => b (Pw (wrd gs (ofF m b) i) j)
  | 0, _ => rfl
  | i + 1, hi => by
    have ih := dn_word (b := b) hb i (by omega)
    rw [dn_next (by omega), wrd_succ]
    by_cases h : asc gs (ofF m b) i
    · rw [if_pos h, if_pos h]; exact ih
    · rw [if_neg h, if_neg h, ih, sw_ofF (gap_lt hb (by omega))]
      refine ofF_congr fun j _ => ?_
      rw [Pw_app]; rfl
theorem walk_word {m : Nat} {gs y : List Int} {cs : Nat → Bool} (hb : BookOk m gs) {n : Nat} (hn : n ≤ gs.length) (hc : ∀ k, k < n → (cs k = true ↔ k ∈ tld gs y n)) : ∀ i, i ≤ n → ∀ r : Nat → List Int, r 0 = row0 m → (∀ k, k < n → r (k + 1) = if cs k = true then swL (r k) (gapN gs k) else r k) → r i = ofF m (Pw (wrd gs y i))
  | 0, _, r, h0, _ => h0
  | i + 1, hi, r, h0, hs => by
    have ih := walk_word hb hn hc i (by omega) r h0 hs
    rw [hs i (by omega), ih, wrd_succ]
    have e : cs i = true ↔ ¬ asc gs y i := by rw [hc i (by omega), mem_tld]; exact ⟨fun h => h.2, fun h => ⟨by omega, h⟩⟩
    by_cases h : asc gs y i
    · rw [if_neg (fun z => e.mp z h), if_pos h]
    · rw [if_pos (e.mpr h), if_neg h, sw_ofF (gap_lt hb (by omega))]
      refine ofF_congr fun j _ => ?_
      rw [Pw_app]; rfl
theorem word_inv {m : Nat} {l : List Nat} (hl : ∀ g ∈ l, g + 1 < m) : IsInv m (Pw l) (Pw l.reverse) := ⟨fun i hi => ⟨Pw_lt hl hi, Pw_rev l i⟩, fun j hj => ⟨Pw_lt (fun g hg => hl g (List.mem_reverse.mp hg)) hj, by have := Pw_rev l.reverse j; rw [List.reverse_reverse] at this; exact this⟩⟩
/-- where going on ends in the row in order, the word is the row's -/
theorem few_word {m : Nat} {gs : List Int} {a b : Nat → Nat} (hb : BookOk m gs) (hi : IsInv m a b) (h : dnL gs (ofF m b) = row0 m) : ofF m a = ofF m (Pw (wrd gs (ofF m b) gs.length)) := by
  have e := dn_word (b := b) hb gs.length (Nat.le_refl _)
  rw [List.take_length, h, row0_ofF] at e
  refine ofF_congr fun j hj => ?_
  have h1 := ofF_eq e hj
  have h2 := Pw_lt (wrd_ok (y := ofF m b) hb (Nat.le_refl _)) hj
  have h3 := (hi.ba _ h2).2
  rw [← h1] at h3
  exact h3
/-- turned pairs: at most as many as changes, and each change of going on takes one -/
theorem pairs_word {m : Nat} (h1 : 1 ≤ m) (h9 : m ≤ 9) : ∀ (n : Nat) (l : List Nat), l.length = n → (∀ g ∈ l, g + 1 < m) → pairsN (ofF m (Pw l)) ≤ n
  | 0, l, e, _ => by
    rw [List.length_eq_zero_iff.mp e]
    have := pairs_row0 m m (Nat.le_refl _)
    show pairsN (row0 m) ≤ 0
    unfold pairsN
    rw [row0_len, this]; exact Nat.le_refl _
  | n + 1, l, e, hl => by
    obtain ⟨l', g, rfl⟩ : ∃ l' g, l = l' ++ [g] := by
      have hne : l ≠ [] := by intro z; rw [z] at e; cases e
      exact ⟨l.dropLast, l.getLast hne, (List.dropLast_concat_getLast hne).symm⟩
    have hl' : ∀ g ∈ l', g + 1 < m := fun x hx => hl x (List.mem_append_left _ hx)
    have hg : g + 1 < m := hl g (List.mem_append_right _ List.mem_cons_self)
    have ih := pairs_word h1 h9 n l' (by rw [List.length_append] at e; simpa using e) hl'
    have es : ofF m (Pw (l' ++ [g])) = swL (ofF m (Pw l')) g := by
      rw [sw_ofF hg]; exact ofF_congr fun j _ => Pw_app l' [g] j
    rw [es]
    have hr := row_ofF h1 h9 (word_inv hl')
    have hgx : g + 1 < (ofF m (Pw l')).length := by rw [ofF_len]; exact hg
    by_cases c : (ofF m (Pw l')).getD g 0 < (ofF m (Pw l')).getD (g + 1) 0
    · rw [pairs_sw hgx c]; omega
    · have hne := row_ne hr hgx
      have c2 : (swL (ofF m (Pw l')) g).getD g 0 < (swL (ofF m (Pw l')) g).getD (g + 1) 0 := by
        rw [(sw_g hgx).1, (sw_g hgx).2]; omega
      have := pairs_sw (by rw [sw_len hgx]; exact hgx) c2
      rw [sw_sw hgx] at this
      omega
theorem pairs_tld {m : Nat} {gs y : List Int} (hb : BookOk m gs) (hr : IsRow y) (hl : y.length = m) : ∀ i, i ≤ gs.length → pairsN (dnL (gs.take i) y) + (tld gs y i).length = pairsN y
  | 0, _ => rfl
  | i + 1, hi => by
    have ih := pairs_tld hb hr hl i (by omega)
    obtain ⟨rr, rl⟩ := dnL_ok (gs := gs.take i) (fun x hx => hb x (List.mem_of_mem_take hx)) hr hl
    rw [dn_next (by omega), tld_succ]
    have hg := gap_lt hb (k := i) (by omega)
    have hgx : gapN gs i + 1 < (dnL (gs.take i) y).length := by rw [rl]; exact hg
    by_cases c : asc gs y i
    · rw [if_pos c, if_pos c]; exact ih
    · rw [if_neg c, if_neg c, List.length_append]
      have hne := row_ne rr hgx
      unfold asc at c
      have c2 : (swL (dnL (gs.take i) y) (gapN gs i)).getD (gapN gs i) 0 < (swL (dnL (gs.take i) y) (gapN gs i)).getD (gapN gs i + 1) 0 := by
        rw [(sw_g hgx).1, (sw_g hgx).2]; omega
      have := pairs_sw (by rw [sw_len hgx]; exact hgx) c2
      rw [sw_sw hgx] at this
      show _ + ((tld gs y i).length + 1) = _
      omega
theorem pairs_row00 (m : Nat) : pairsN (row0 m) = 0 := by
  unfold pairsN; rw [row0_len]; exact pairs_row0 m m (Nat.le_refl _)
theorem inv_pairs_le {m : Nat} {gs : List Int} {a b : Nat → Nat} (h1 : 1 ≤ m) (h9 : m ≤ 9) (hb : BookOk m gs) (hi : IsInv m a b) (h : dnL gs (ofF m b) = row0 m) : pairsN (ofF m a) ≤ pairsN (ofF m b) ∧ (tld gs (ofF m b) gs.length).length = pairsN (ofF m b) := by
  have e := pairs_tld hb (row_ofF h1 h9 hi.symm) (ofF_len m b) gs.length (Nat.le_refl _)
  rw [List.take_length, h, pairs_row00, Nat.zero_add] at e
  refine ⟨?_, e⟩
  rw [few_word hb hi h, ← e]
  refine pairs_word h1 h9 _ _ ?_ (wrd_ok hb (Nat.le_refl _))
  unfold wrd; rw [List.length_map]
theorem few_pairs {m : Nat} {gs : List Int} {a b : Nat → Nat} (h1 : 1 ≤ m) (h9 : m ≤ 9) (hb : BookOk m gs) (hi : IsInv m a b) (h : dnL gs (ofF m b) = row0 m) : (tld gs (ofF m b) gs.length).length = pairsN (ofF m a) := by
  obtain ⟨p1, p2⟩ := inv_pairs_le h1 h9 hb hi h
  have hc := (few_iff h1 h9 hb hi).mp h
  have h' := (come_all h1 h9 hb (row_ofF h1 h9 hi) (ofF_len m a)).mp hc
  obtain ⟨p3, _⟩ := inv_pairs_le h1 h9 (book_rev hb) hi.symm h'
  omega
end MM
namespace MM
open PySem PySem.Spec PyProof.Rows L2 GxR
/-! ### the told changes, one behind another -/
theorem filt_range (p : Nat → Bool) {k : Nat} : ∀ n, k ≤ n → (((List.range n).filter p).filter fun x => decide (x < k)) = (List.range k).filter p
  | 0, h => by rw [Nat.le_zero.mp h]; rfl
  | n + 1, h => by
    by_cases e : k = n + 1
    · subst e
      refine List.filter_eq_self.mpr fun x hx => ?_
      have := List.mem_range.mp (List.mem_filter.mp hx).1
      exact decide_eq_true this
    · rw [List.range_succ, List.filter_append, List.filter_append, filt_range p n (by omega)]
      have : (([n].filter p).filter fun x => decide (x < k)) = [] := by
        refine List.filter_eq_nil_iff.mpr fun x hx => ?_
        have := List.mem_singleton.mp (List.mem_filter.mp hx).1
        rw [decide_eq_true_iff]; omega
      rw [this, List.append_nil]
theorem rise_take {L : List Nat} (hp : L.Pairwise (· < ·)) {t k : Nat} (h1 : ∀ i (h : i < L.length), i < t → L[i] < k) (h2 : ∀ i (h : i < L.length), t ≤ i → k ≤ L[i]) : (L.filter fun x => decide (x < k)) = L.take t := by
  conv => lhs; rw [← List.take_append_drop t L]
  rw [List.filter_append]
  have e1 : ((L.take t).filter fun x => decide (x < k)) = L.take t := by
    refine List.filter_eq_self.mpr fun x hx => ?_
    obtain ⟨i, hi, e⟩ := List.getElem_of_mem hx
    rw [List.length_take] at hi
    rw [List.getElem_take] at e
    rw [decide_eq_true_iff, ← e]
    exact h1 i (by omega) (by omega)
  have e2 : ((L.drop t).filter fun x => decide (x < k)) = [] := by
    refine List.filter_eq_nil_iff.mpr fun x hx => ?_
    obtain ⟨i, hi, e⟩ := List.getElem_of_mem hx
    rw [List.length_drop] at hi
    rw [List.getElem_drop] at e
    rw [decide_eq_true_iff, ← e]
    have := h2 (t + i) (by omega) (by omega)
    omega
  rw [e1, e2, List.append_nil]
/-- between two told ones: the word so far -/
theorem tld_seg {gs y : List Int} {n k t : Nat} (hk : k ≤ n) (h1 : ∀ i (h : i < (tld gs y n).length), i < t → (tld gs y n)[i] < k) (h2 : ∀ i (h : i < (tld gs y n).length), t ≤ i → k ≤ (tld gs y n)[i]) : tld gs y k = (tld gs y n).take t := by
  rw [← rise_take tld_lt h1 h2]
  unfold tld
  exact (filt_range _ n hk).symm
theorem tld_seg2 {gs y : List Int} {n k t : Nat} {L : List Nat} (eL : tld gs y n = L) (hk : k ≤ n) (h1 : ∀ i (h : i < L.length), i < t → L[i] < k) (h2 : ∀ i (h : i < L.length), t ≤ i → k ≤ L[i]) : tld gs y k = L.take t := by
  subst eL; exact tld_seg hk h1 h2
theorem rise_at {L : List Nat} (hp : L.Pairwise (· < ·)) {i j : Nat} (hij : i < j) (hj : j < L.length) : L[i] < L[j] := (List.pairwise_iff_getElem.mp hp) i j (by omega) hj hij
end MM
namespace MM
open PySem PySem.Spec PyProof.Rows L2 GxR
/-! ### one book behind another; rows read as places -/
def farL : List Int → List Int → List Int
  | y, [] => y
  | y, g :: gs => farL (upS y g.toNat) gs
theorem farL_app : ∀ (y : List Int) (l l' : List Int), farL y (l ++ l') = farL (farL y l) l'
  | _, [], _ => rfl
  | y, g :: l, l' => farL_app (upS y g.toNat) l l'
theorem farL_at {y gs : List Int} : ∀ k, k ≤ gs.length → farL y (gs.take k) = farAt y gs k
  | 0, _ => rfl
  | k + 1, h => by
    rw [List.take_add_one, getD_some (by omega), farL_app, farL_at k (by omega)]; rfl
theorem farL_all (y gs : List Int) : farL y gs = farAt y gs gs.length := by
  rw [← farL_at gs.length (Nat.le_refl _), List.take_length]
theorem farL_ok {m : Nat} {gs y : List Int} (hb : BookOk m gs) (hr : IsRow y) (hl : y.length = m) : IsRow (farL y gs) ∧ (farL y gs).length = m := by
  rw [farL_all]; exact farAt_ok hr hl hb _ (Nat.le_refl _)
theorem low_up {m g : Nat} {x y : List Int} (hg : g + 1 < m) (hx : IsRow x) (hxl : x.length = m) (hy : IsRow y) (hyl : y.length = m) : more x (upS y g) = [] ↔ more (lowS x g) y = [] := by
  have hgx : g + 1 < x.length := by rw [hxl]; exact hg
  obtain ⟨u1, u2, u3, u4⟩ := up_ok hg hyl hy
  have hlen : x.length = y.length := by rw [hxl, hyl]
  have goal : more x (upS y g) = [] ↔ Off x y g := by
    have := (Like.self hx).bel u4 hgx hlen (.inr u3)
    rw [decide_eq_true_iff] at this; exact this
  rw [goal]
  unfold lowS
  by_cases c : x.getD g 0 < x.getD (g + 1) 0
  · rw [if_pos c]
    exact (off_iff hgx hlen (.inl (Int.le_of_lt c))).symm
  · rw [if_neg c]
    have o := (Like.sw hgx hx).off (Like.self hy)
    rw [← o]
    refine (off_iff (by rw [sw_len hgx]; exact hgx) (by rw [sw_len hgx]; exact hlen) (.inl ?_)).symm
    unfold Low
    rw [(sw_g hgx).1, (sw_g hgx).2]; omega
theorem need_ahead {m : Nat} {x : List Int} (hx : IsRow x) (hxl : x.length = m) : ∀ {gs y : List Int}, BookOk m gs → IsRow y → y.length = m → (more x (farL y gs) = [] ↔ more (dnL gs.reverse x) y = [])
  | [], _, _, _, _ => Iff.rfl
  | g :: gs, y, hb, hy, hyl => by
    have hg := hb g List.mem_cons_self
    have hb' : BookOk m gs := fun z hz => hb z (List.mem_cons_of_mem _ hz)
    obtain ⟨u1, u2, _, _⟩ := up_ok (g := g.toNat) (by omega) hyl hy
    obtain ⟨d1, d2⟩ := dnL_ok (book_rev hb') hx hxl
    show more x (farL (upS y g.toNat) gs) = [] ↔ _
    rw [need_ahead hx hxl hb' u1 u2, low_up (by omega) d1 d2 hy hyl, List.reverse_cons, dnL_app]
    rfl
/-! ### corners of a row and of its places -/
theorem ofF_getD {m i : Nat} {a : Nat → Nat} (h : i < m) : (ofF m a).getD i 0 = (a i : Int) := by
  rw [List.getD_eq_getElem?_getD, ofF_get h]; rfl
theorem cnt_ofF {m i : Nat} {a : Nat → Nat} (h : i < m) (j : Nat) : cnt (ofF m a) (i + 1) (j : Int) = cnt (ofF m a) i (j : Int) + if j ≤ a i then 1 else 0 := by
  rw [cnt_at (by rw [ofF_len]; exact h), ofF_getD h]
  by_cases c : j ≤ a i
  · rw [if_pos c, if_pos (by omega)]
  · rw [if_neg c, if_neg (by omega)]
theorem cnt_step {m : Nat} {a b : Nat → Nat} (hI : IsInv m a b) {i : Nat} (hi : i < m) : ∀ j, j ≤ m → cnt (ofF m b) j (i : Int) = cnt (ofF m b) j ((i + 1 : Nat) : Int) + if a i < j then 1 else 0
  | 0, _ => rfl
  | j + 1, hj => by
    have ih := cnt_step hI hi j (by omega)
    rw [cnt_ofF (by omega), cnt_ofF (by omega), ih]
    have e : b j = i ↔ a i = j := ⟨fun h => by rw [← h]; exact (hI.ba j (by omega)).2, fun h => by rw [← h]; exact (hI.ab i hi).2⟩
    by_cases c : a i = j
    · have c2 := e.mpr c
      rw [if_pos (show i ≤ b j by omega), if_neg (show ¬ i + 1 ≤ b j by omega), if_neg (show ¬ a i < j by omega), if_pos (show a i < j + 1 by omega)]
    · have c2 : b j ≠ i := fun z => c (e.mp z)
      by_cases d : a i < j
      · rw [if_pos d, if_pos (show a i < j + 1 by omega)]
        by_cases k : i ≤ b j
        · rw [if_pos k, if_pos (show i + 1 ≤ b j by omega)]
        · rw [if_neg k, if_neg (show ¬ i + 1 ≤ b j by omega)]
      · rw [if_neg d, if_neg (show ¬ a i < j + 1 by omega)]
        by_cases k : i ≤ b j
        · rw [if_pos k, if_pos (show i + 1 ≤ b j by omega)]
        · rw [if_neg k, if_neg (show ¬ i + 1 ≤ b j by omega)]
theorem cnt_all {m : Nat} {b : Nat → Nat} : ∀ j, j ≤ m → cnt (ofF m b) j ((0 : Nat) : Int) = j
  | 0, _ => rfl
  | j + 1, hj => by rw [cnt_ofF (by omega), cnt_all j (by omega), if_pos (Nat.zero_le _)]
theorem cnt_inv {m : Nat} {a b : Nat → Nat} (hI : IsInv m a b) {j : Nat} (hj : j ≤ m) : ∀ i, i ≤ m → cnt (ofF m a) i (j : Int) + j = cnt (ofF m b) j (i : Int) + i
  | 0, _ => by rw [cnt_zero, cnt_all j hj]; omega
  | i + 1, hi => by
    have ih := cnt_inv hI hj i (by omega)
    have st := cnt_step hI (i := i) (by omega) j hj
    rw [cnt_ofF (by omega)]
    by_cases c : j ≤ a i
    · rw [if_pos c]
      rw [if_neg (show ¬ a i < j by omega)] at st
      omega
    · rw [if_neg c]
      rw [if_pos (show a i < j by omega)] at st
      omega
theorem more_inv {m : Nat} {a b c d : Nat → Nat} (h1 : IsInv m a b) (h2 : IsInv m c d) : more (ofF m a) (ofF m c) = [] ↔ more (ofF m b) (ofF m d) = [] := by
  rw [more_iff, more_iff, ofF_len, ofF_len]
  constructor
  · intro h i j hi hj
    have e1 := cnt_inv h1 (j := i) (by omega) j (by omega)
    have e2 := cnt_inv h2 (j := i) (by omega) j (by omega)
    have := h j i hj hi
    omega
  · intro h i j hi hj
    have e1 := cnt_inv h1 (j := j) (by omega) i (by omega)
    have e2 := cnt_inv h2 (j := j) (by omega) i (by omega)
    have := h j i hj hi
    omega
/-! ### books whose rows are the same -/
theorem come_far {m : Nat} {gs x : List Int} (h1 : 1 ≤ m) (h9 : m ≤ 9) (hb : BookOk m gs) (hr : IsRow x) (hl : x.length = m) : Come m gs gs.length x ↔ more x (farL (row0 m) gs) = [] := by
  rw [farL_all]; exact come_iff h1 h9 hb _ (Nat.le_refl _) x hr hl
theorem book_app {m : Nat} {A B : List Int} (ha : BookOk m A) (hb : BookOk m B) : BookOk m (A ++ B) := fun x hx => (List.mem_append.mp hx).elim (ha x) (hb x)
theorem come_words {m : Nat} {gs x : List Int} (h1 : 1 ≤ m) (h9 : m ≤ 9) (hb : BookOk m gs) : Come m gs gs.length x ↔ ∃ l : List Nat, l.Sublist (nat gs) ∧ x = ofF m (Pw l) := by
  have := come_word h1 h9 hb gs.length (Nat.le_refl _) (x := x)
  rw [List.take_length] at this; exact this
theorem come_app {m : Nat} {A A' B B' : List Int} (h1 : 1 ≤ m) (h9 : m ≤ 9) (ha : BookOk m A) (hb : BookOk m B) (ha' : BookOk m A') (hb' : BookOk m B') (eA : ∀ z, Come m A A.length z → Come m A' A'.length z) (eB : ∀ z, Come m B B.length z → Come m B' B'.length z) {x : List Int} (h : Come m (A ++ B) (A ++ B).length x) : Come m (A' ++ B') (A' ++ B').length x := by
  obtain ⟨l, hl, rfl⟩ := (come_words h1 h9 (book_app ha hb)).mp h
  unfold nat at hl
  rw [List.map_append] at hl
  obtain ⟨l1, l2, rfl, s1, s2⟩ := List.sublist_append_iff.mp hl
  obtain ⟨k1, t1, e1⟩ := (come_words h1 h9 ha').mp (eA _ ((come_words h1 h9 ha).mpr ⟨l1, s1, rfl⟩))
  obtain ⟨k2, t2, e2⟩ := (come_words h1 h9 hb').mp (eB _ ((come_words h1 h9 hb).mpr ⟨l2, s2, rfl⟩))
  refine (come_words h1 h9 (book_app ha' hb')).mpr ⟨k1 ++ k2, ?_, ?_⟩
  · unfold nat; rw [List.map_append]; exact t1.append t2
  · refine ofF_congr fun j hj => ?_
    rw [Pw_app, Pw_app, ofF_eq e2 hj]
    refine ofF_eq e1 (Pw_lt (fun g hg => ?_) hj)
    exact nat_ok hb' g (t2.subset hg)
theorem come_back {m : Nat} {gs : List Int} {a b c d : Nat → Nat} (h1 : 1 ≤ m) (h9 : m ≤ 9) (hb : BookOk m gs) (hI : IsInv m c d) (hf : farL (row0 m) gs = ofF m c) (h2 : IsInv m a b) : Come m gs.reverse gs.reverse.length (ofF m a) ↔ more (ofF m a) (ofF m d) = [] := by
  have e : Come m gs.reverse gs.reverse.length (ofF m a) ↔ Come m gs gs.length (ofF m b) := by
    constructor
    · intro h
      have := come_rev h1 h9 (book_rev hb) h2 h
      rw [List.reverse_reverse] at this; exact this
    · exact come_rev h1 h9 hb h2.symm
  rw [e, come_far h1 h9 hb (row_ofF h1 h9 h2.symm) (ofF_len m b), hf]
  exact (more_inv h2 hI.symm).symm
/-- what is needed behind -/
theorem need_behind {m : Nat} {gf gu gf' gu' : List Int} {a b f fi u ui : Nat → Nat} (h1 : 1 ≤ m) (h9 : m ≤ 9) (hx : IsInv m a b) (hf : IsInv m f fi) (hu : IsInv m u ui) (bf : BookOk m gf) (bu : BookOk m gu) (bf' : BookOk m gf') (bu' : BookOk m gu')
    (ef : farL (row0 m) gf = ofF m f) (eu : farL (row0 m) gu = ofF m u) (ef' : farL (row0 m) gf' = ofF m fi) (eu' : farL (row0 m) gu' = ofF m ui) : more (ofF m b) (farL (ofF m ui) gf') = [] ↔ more (ofF m a) (farL (ofF m f) gu) = [] := by
  have rx := row_ofF h1 h9 hx
  have rb := row_ofF h1 h9 hx.symm
  rw [← eu', ← farL_app, ← ef, ← farL_app, ← come_far h1 h9 (book_app bu' bf') rb (ofF_len m b), ← come_far h1 h9 (book_app bf bu) rx (ofF_len m a)]
  have mid : Come m (gu' ++ gf') (gu' ++ gf').length (ofF m b) ↔ Come m (gf'.reverse ++ gu'.reverse) (gf'.reverse ++ gu'.reverse).length (ofF m a) := by
    rw [← List.reverse_append]
    constructor
    · exact come_rev h1 h9 (book_app bu' bf') hx.symm
    · intro h
      have := come_rev h1 h9 (book_rev (book_app bu' bf')) hx h
      rw [List.reverse_reverse] at this; exact this
  rw [mid]
  have key : ∀ {gs gs' : List Int} {c d : Nat → Nat}, IsInv m c d → BookOk m gs → BookOk m gs' → farL (row0 m) gs = ofF m c → farL (row0 m) gs' = ofF m d → ∀ z, Come m gs'.reverse gs'.reverse.length z ↔ Come m gs gs.length z := fun {gs gs' c d} hI hb hb' e e' z => by
    have word : ∀ {A : List Int}, BookOk m A → Come m A A.length z → ∃ p q, IsInv m p q ∧ z = ofF m p := fun hA h => by
      obtain ⟨l, hl, rfl⟩ := (come_words h1 h9 hA).mp h
      exact ⟨_, _, word_inv (fun g hg => nat_ok hA g (hl.subset hg)), rfl⟩
    constructor
    · intro h
      obtain ⟨p, q, hpq, rfl⟩ := word (book_rev hb') h
      rw [come_far h1 h9 hb (row_ofF h1 h9 hpq) (ofF_len m p), e]
      exact (come_back h1 h9 hb' hI.symm e' hpq).mp h
    · intro h
      obtain ⟨p, q, hpq, rfl⟩ := word hb h
      rw [come_far h1 h9 hb (row_ofF h1 h9 hpq) (ofF_len m p), e] at h
      exact (come_back h1 h9 hb' hI.symm e' hpq).mpr h
  constructor
  · exact come_app h1 h9 (book_rev bf') (book_rev bu') bf bu (fun z => (key hf bf bf' ef ef' z).mp) (fun z => (key hu bu bu' eu eu' z).mp)
  · exact come_app h1 h9 bf bu (book_rev bf') (book_rev bu') (fun z => (key hf bf bf' ef ef' z).mpr) (fun z => (key hu bu bu' eu eu' z).mpr)
end MM
namespace MM
open PySem PySem.Spec PyProof.Rows L2 GxR
/-! ### the book of runs -/
def lowN (fa : Nat → Nat) (pl p : Nat) : Nat := ((List.range pl).filter fun q => decide (fa q < p)).length
def runP (low p : Nat) : List Int := (List.range (p - low)).map fun j => ((p - 1 - j : Nat) : Int)
def runsTo (fa fb : Nat → Nat) : Nat → List Int
  | 0 => []
  | k + 1 => runsTo fa fb k ++ runP (lowN fa (fb k) k) k
theorem up_form {l r : List Int} {a x : Int} (h : a < x) : upS (l ++ a :: x :: r) l.length = l ++ x :: a :: r := by
  unfold upS
  have e1 : (l ++ a :: x :: r).getD l.length 0 = a := by rw [List.getD_eq_getElem?_getD, List.getElem?_append_right (Nat.le_refl _)]; simp
  have e2 : (l ++ a :: x :: r).getD (l.length + 1) 0 = x := by rw [List.getD_eq_getElem?_getD, List.getElem?_append_right (by omega)]; simp
  rw [e1, e2, if_pos h, sw_form]
theorem far_run {A C : List Int} {x : Int} (hx : ∀ y ∈ A, y < x) : ∀ c, c ≤ A.length → farL (A ++ x :: C) ((List.range c).map fun j => ((A.length - 1 - j : Nat) : Int)) = A.take (A.length - c) ++ x :: (A.drop (A.length - c) ++ C)
  | 0, _ => by
    show A ++ x :: C = _
    rw [Nat.sub_zero, List.take_length, List.drop_length]; rfl
  | c + 1, h => by
    rw [List.range_succ, List.map_append, farL_app, far_run hx c (by omega)]
    show upS (A.take (A.length - c) ++ x :: (A.drop (A.length - c) ++ C)) (((A.length - 1 - c : Nat) : Int)).toNat = _
    rw [Int.toNat_natCast]
    have hl : A.length - (c + 1) < A.length := by omega
    have e1 : A.take (A.length - c) = A.take (A.length - (c + 1)) ++ [A[A.length - (c + 1)]] := by
      rw [show A.length - c = (A.length - (c + 1)) + 1 by omega, List.take_add_one, List.getElem?_eq_getElem hl]; rfl
    have e2 : A.drop (A.length - (c + 1)) = A[A.length - (c + 1)] :: A.drop (A.length - c) := by
      rw [List.drop_eq_getElem_cons hl, show A.length - (c + 1) + 1 = A.length - c by omega]
    have e3 : (A.take (A.length - (c + 1))).length = A.length - 1 - c := by rw [List.length_take]; omega
    rw [e1, e2, ← e3, List.append_assoc]
    exact up_form (hx _ (List.getElem_mem hl))
theorem lowN_le (fa : Nat → Nat) (pl p : Nat) : lowN fa pl p ≤ pl := by
  unfold lowN
  exact Nat.le_trans (List.length_filter_le _ _) (by rw [List.length_range]; exact Nat.le_refl _)
def rest (m k : Nat) : List Int := (List.range (m - k)).map fun j => ((k + j : Nat) : Int)
theorem rest_cons {m k : Nat} (h : k < m) : rest m k = (k : Int) :: rest m (k + 1) := by
  unfold rest
  rw [show m - k = (m - (k + 1)) + 1 by omega, List.range_succ_eq_map, List.map_cons, List.map_map]
  refine congrArg (List.cons _) (List.map_congr_left fun j _ => ?_)
  show (((k + (j + 1)) : Nat) : Int) = ((k + 1 + j : Nat) : Int)
  omega
/-- the people below k, in their order in the row -/
def flt (m : Nat) (fa : Nat → Nat) (k : Nat) : List Int := (ofF m fa).filter fun p => decide (p < (k : Int))
theorem flt_step {m : Nat} {fa fb : Nat → Nat} (hI : IsInv m fa fb) {k : Nat} (hk : k < m) : ∃ L R : List Int, flt m fa k = L ++ R ∧ flt m fa (k + 1) = L ++ (k : Int) :: R ∧ L.length = lowN fa (fb k) k := by
  obtain ⟨h1, h2⟩ := hI.ba k hk
  have sp : ofF m fa = (ofF m fa).take (fb k) ++ (k : Int) :: (ofF m fa).drop (fb k + 1) := by
    conv => lhs; rw [← List.take_append_drop (fb k) (ofF m fa)]
    have hl : fb k < (ofF m fa).length := by rw [ofF_len]; exact h1
    rw [List.drop_eq_getElem_cons hl]
    have e := ofF_get (a := fa) h1
    rw [List.getElem?_eq_getElem hl, h2] at e
    rw [Option.some.inj e]
  have ne : ∀ q, q < m → q ≠ fb k → fa q ≠ k := fun q hq hne e => hne (by rw [← e]; exact ((hI.ab q hq).2).symm)
  have tk : (ofF m fa).take (fb k) = (List.range (fb k)).map fun q => (fa q : Int) := by
    unfold ofF
    rw [← List.map_take, List.take_range, Nat.min_eq_left (Nat.le_of_lt h1)]
  have f1 : ((ofF m fa).take (fb k)).filter (fun p => decide (p < ((k + 1 : Nat) : Int))) = ((ofF m fa).take (fb k)).filter fun p => decide (p < (k : Int)) := by
    refine List.filter_congr fun p hp => ?_
    rw [tk] at hp
    obtain ⟨q, hq, rfl⟩ := List.mem_map.mp hp
    have hq := List.mem_range.mp hq
    have := ne q (by omega) (by omega)
    rw [Bool.eq_iff_iff, decide_eq_true_iff, decide_eq_true_iff]; omega
  have f2 : ((ofF m fa).drop (fb k + 1)).filter (fun p => decide (p < ((k + 1 : Nat) : Int))) = ((ofF m fa).drop (fb k + 1)).filter fun p => decide (p < (k : Int)) := by
    refine List.filter_congr fun p hp => ?_
    obtain ⟨i, hi, e⟩ := List.getElem_of_mem hp
    rw [List.length_drop, ofF_len] at hi
    rw [List.getElem_drop] at e
    have e2 := ofF_get (a := fa) (show fb k + 1 + i < m by omega)
    rw [List.getElem?_eq_getElem (by rw [ofF_len]; omega), e] at e2
    have := ne (fb k + 1 + i) (by omega) (by omega)
    rw [Option.some.inj e2, Bool.eq_iff_iff, decide_eq_true_iff, decide_eq_true_iff]; omega
  refine ⟨((ofF m fa).take (fb k)).filter fun p => decide (p < (k : Int)), ((ofF m fa).drop (fb k + 1)).filter fun p => decide (p < (k : Int)), ?_, ?_, ?_⟩
  · unfold flt
    conv => lhs; rw [sp]
    rw [List.filter_append, List.filter_cons_of_neg (by simp)]
  · unfold flt
    conv => lhs; rw [sp]
    rw [List.filter_append, List.filter_cons_of_pos (by rw [decide_eq_true_iff]; omega), f1, f2]
  · rw [tk, List.filter_map, List.length_map]
    unfold lowN
    refine congrArg List.length (List.filter_congr fun q _ => ?_)
    show decide ((fa q : Int) < (k : Int)) = decide (fa q < k)
    rw [Bool.eq_iff_iff, decide_eq_true_iff, decide_eq_true_iff]; omega
theorem flt_len {m : Nat} {fa fb : Nat → Nat} (hI : IsInv m fa fb) : ∀ k, k ≤ m → (flt m fa k).length = k
  | 0, _ => by
    unfold flt
    rw [List.length_eq_zero_iff, List.filter_eq_nil_iff]
    intro p hp
    unfold ofF at hp
    obtain ⟨q, _, rfl⟩ := List.mem_map.mp hp
    rw [decide_eq_true_iff]; omega
  | k + 1, h => by
    obtain ⟨L, R, e1, e2, _⟩ := flt_step hI (k := k) (by omega)
    have ih := flt_len hI k (by omega)
    rw [e1, List.length_append] at ih
    rw [e2, List.length_append, List.length_cons]; omega
theorem low_le {m : Nat} {fa fb : Nat → Nat} (hI : IsInv m fa fb) {k : Nat} (hk : k < m) : lowN fa (fb k) k ≤ k := by
  obtain ⟨L, R, e1, _, e3⟩ := flt_step hI hk
  have := flt_len hI k (by omega)
  rw [e1, List.length_append] at this
  omega
theorem runs_far {m : Nat} {fa fb : Nat → Nat} (hI : IsInv m fa fb) : ∀ k, k ≤ m → farL (row0 m) (runsTo fa fb k) = flt m fa k ++ rest m k
  | 0, _ => by
    have e : flt m fa 0 = [] := List.length_eq_zero_iff.mp (flt_len hI 0 (Nat.zero_le _))
    rw [e]
    show row0 m = [] ++ rest m 0
    unfold row0 rest
    rw [Nat.sub_zero, List.nil_append]
    refine List.map_congr_left fun j _ => ?_
    rw [Nat.zero_add]; rfl
  | k + 1, h => by
    obtain ⟨L, R, e1, e2, e3⟩ := flt_step hI (k := k) (by omega)
    have hlen := flt_len hI k (by omega)
    show farL (row0 m) (runsTo fa fb k ++ runP (lowN fa (fb k) k) k) = _
    rw [farL_app, runs_far hI k (by omega), rest_cons (by omega)]
    unfold runP
    have hx : ∀ y ∈ flt m fa k, y < (k : Int) := fun y hy => by
      have := (List.mem_filter.mp hy).2
      exact of_decide_eq_true this
    have hr := far_run (C := rest m (k + 1)) hx (k - lowN fa (fb k) k) (by omega)
    rw [hlen] at hr
    rw [hr, show k - (k - lowN fa (fb k) k) = L.length by rw [e3]; have := low_le hI (k := k) (by omega); omega, e1, e2, List.take_left', List.drop_left']
    · simp
    · rfl
    · rfl
theorem runs_all {m : Nat} {fa fb : Nat → Nat} (hI : IsInv m fa fb) : farL (row0 m) (runsTo fa fb m) = ofF m fa := by
  rw [runs_far hI m (Nat.le_refl _)]
  have e : rest m m = [] := by unfold rest; rw [Nat.sub_self]; rfl
  rw [e, List.append_nil]
  unfold flt
  refine List.filter_eq_self.mpr fun p hp => ?_
  unfold ofF at hp
  obtain ⟨q, hq, rfl⟩ := List.mem_map.mp hp
  have := (hI.ab q (List.mem_range.mp hq)).1
  exact decide_eq_true (by omega)
theorem runs_book {m : Nat} {fa fb : Nat → Nat} (hI : IsInv m fa fb) : ∀ k, k ≤ m → BookOk m (runsTo fa fb k)
  | 0, _ => fun _ h => nomatch h
  | k + 1, h => book_app (runs_book hI k (by omega)) fun x hx => by
    unfold runP at hx
    obtain ⟨j, hj, rfl⟩ := List.mem_map.mp hx
    have := List.mem_range.mp hj
    omega
theorem runs_len {m : Nat} {fa fb : Nat → Nat} : ∀ k, k ≤ 9 → (runsTo fa fb k).length ≤ k * 9
  | 0, _ => Nat.zero_le _
  | k + 1, h => by
    have := runs_len (m := m) (fa := fa) (fb := fb) k (by omega)
    show (runsTo fa fb k ++ runP (lowN fa (fb k) k) k).length ≤ _
    rw [List.length_append]
    unfold runP
    rw [List.length_map, List.length_range]; omega
end MM
namespace MM
open PySem PySem.Spec PyProof.Rows L2 GxR
theorem more_anti {m : Nat} {x y : List Int} (hx : IsRow x) (hxl : x.length = m) (hy : IsRow y) (hyl : y.length = m) (h : more x y = []) (h' : more y x = []) : x = y := by
  have e : ∀ i j : Nat, i < m + 1 → j < m + 1 → cnt x i j = cnt y i j := fun i j hi hj =>
    Nat.le_antisymm (more_iff.mp h i j (by omega) (by omega)) (more_iff.mp h' i j (by omega) (by omega))
  have hb : ∀ {z : List Int}, IsRow z → z.length = m → ∀ i, i < m → 0 ≤ z.getD i 0 ∧ z.getD i 0 < (m : Int) := fun {z} hz lz i hi => by
    have hm : z.getD i 0 ∈ z := by
      have := getD_some (ns := z) (g := i) (by omega)
      exact List.mem_of_getElem? this
    have := (hz.2.2.mem_iff (a := z.getD i 0)).mp hm
    rw [lz] at this
    obtain ⟨j, hj, e⟩ := List.mem_map.mp this
    have := List.mem_range.mp hj
    have e : (j : Int) = z.getD i 0 := e
    omega
  refine List.ext_getElem? fun i => ?_
  by_cases hi : i < m
  · rw [getD_some (by omega), getD_some (by omega)]
    obtain ⟨a1, a2⟩ := hb hx hxl i hi
    obtain ⟨b1, b2⟩ := hb hy hyl i hi
    have key : ∀ j : Nat, j < m + 1 → ((j : Int) ≤ x.getD i 0 ↔ (j : Int) ≤ y.getD i 0) := fun j hj => by
      have h1 := e (i + 1) j (by omega) hj
      have h2 := e i j (by omega) hj
      rw [cnt_at (by omega), cnt_at (by omega), h2] at h1
      by_cases c1 : (j : Int) ≤ x.getD i 0
      · by_cases c2 : (j : Int) ≤ y.getD i 0
        · exact iff_of_true c1 c2
        · rw [if_pos c1, if_neg c2] at h1; omega
      · by_cases c2 : (j : Int) ≤ y.getD i 0
        · rw [if_neg c1, if_pos c2] at h1; omega
        · exact iff_of_false c1 c2
    have k1 := key (x.getD i 0).toNat (by omega)
    have k2 := key (y.getD i 0).toNat (by omega)
    congr 1
    omega
  · rw [List.getElem?_eq_none (by omega), List.getElem?_eq_none (by omega)]
/-- the product by the runs of what a book leads to is going on by the book -/
theorem far_prod {m : Nat} {A B : List Int} {a b : Nat → Nat} (h1 : 1 ≤ m) (h9 : m ≤ 9) (hA : BookOk m A) (hB : BookOk m B) (hI : IsInv m a b) (hf : farL (row0 m) B = ofF m a) : farL (farL (row0 m) A) (runsTo a b m) = farL (row0 m) (A ++ B) := by
  have hr := runs_book hI m (Nat.le_refl _)
  have eB : ∀ z, Come m B B.length z ↔ Come m (runsTo a b m) (runsTo a b m).length z := fun z => by
    constructor
    · intro h
      obtain ⟨l, hl, rfl⟩ := (come_words h1 h9 hB).mp h
      have hz : IsRow (ofF m (Pw l)) := row_ofF h1 h9 (word_inv fun g hg => nat_ok hB g (hl.subset hg))
      have := (come_far h1 h9 hB hz (ofF_len _ _)).mp h
      rw [hf] at this
      exact (come_far h1 h9 hr hz (ofF_len _ _)).mpr (by rw [runs_all hI]; exact this)
    · intro h
      obtain ⟨l, hl, rfl⟩ := (come_words h1 h9 hr).mp h
      have hz : IsRow (ofF m (Pw l)) := row_ofF h1 h9 (word_inv fun g hg => nat_ok hr g (hl.subset hg))
      have := (come_far h1 h9 hr hz (ofF_len _ _)).mp h
      rw [runs_all hI, ← hf] at this
      exact (come_far h1 h9 hB hz (ofF_len _ _)).mpr this
  rw [← farL_app]
  obtain ⟨p1, p2⟩ := farL_ok (gs := A ++ runsTo a b m) (book_app hA hr) (row0_row h1 h9) (row0_len m)
  obtain ⟨q1, q2⟩ := farL_ok (gs := A ++ B) (book_app hA hB) (row0_row h1 h9) (row0_len m)
  refine more_anti p1 p2 q1 q2 ?_ ?_
  · refine (come_far h1 h9 (book_app hA hB) p1 p2).mp (come_app h1 h9 hA hr hA hB (fun _ h => h) (fun z => (eB z).mpr) ?_)
    exact (come_far h1 h9 (book_app hA hr) p1 p2).mpr (more_self _)
  · refine (come_far h1 h9 (book_app hA hr) q1 q2).mp (come_app h1 h9 hA hB hA hr (fun _ h => h) (fun z => (eB z).mp) ?_)
    exact (come_far h1 h9 (book_app hA hB) q1 q2).mpr (more_self _)
/-! ### one going after the other -/
def compL (x y : List Int) : List Int := y.map fun p => x.getD p.toNat 0
theorem getD_ofF {m k : Nat} {a : Nat → Nat} (h : k < m) : (ofF m a).getD k 0 = (a k : Int) := by
  have h1 := ofF_get (a := a) h
  rw [List.getD_eq_getElem?_getD, h1]; rfl
theorem compL_ofF {m : Nat} {a b : Nat → Nat} (hb : ∀ j, j < m → b j < m) : compL (ofF m a) (ofF m b) = ofF m fun j => a (b j) := by
  unfold compL
  rw [show ofF m b = (List.range m).map (fun j => ((b j : Nat) : Int)) from rfl, List.map_map]
  refine List.map_congr_left fun j hj => ?_
  have hj := List.mem_range.mp hj
  show (ofF m a).getD ((b j : Nat) : Int).toNat 0 = _
  rw [Int.toNat_natCast, getD_ofF (hb j hj)]
theorem come_comp {m : Nat} {A B : List Int} (h1 : 1 ≤ m) (h9 : m ≤ 9) (hA : BookOk m A) (hB : BookOk m B) {z : List Int} : Come m (A ++ B) (A ++ B).length z ↔ ∃ x y, Come m A A.length x ∧ Come m B B.length y ∧ z = compL x y := by
  rw [come_words h1 h9 (book_app hA hB)]
  constructor
  · rintro ⟨l, hl, rfl⟩
    unfold nat at hl
    rw [List.map_append] at hl
    obtain ⟨l1, l2, rfl, s1, s2⟩ := List.sublist_append_iff.mp hl
    refine ⟨ofF m (Pw l1), ofF m (Pw l2), (come_words h1 h9 hA).mpr ⟨l1, s1, rfl⟩, (come_words h1 h9 hB).mpr ⟨l2, s2, rfl⟩, ?_⟩
    rw [compL_ofF fun j hj => Pw_lt (fun g hg => nat_ok hB g (s2.subset hg)) hj]
    exact ofF_congr fun j _ => Pw_app l1 l2 j
  · rintro ⟨x, y, hx, hy, rfl⟩
    obtain ⟨l1, s1, rfl⟩ := (come_words h1 h9 hA).mp hx
    obtain ⟨l2, s2, rfl⟩ := (come_words h1 h9 hB).mp hy
    refine ⟨l1 ++ l2, by unfold nat; rw [List.map_append]; exact s1.append s2, ?_⟩
    rw [compL_ofF fun j hj => Pw_lt (fun g hg => nat_ok hB g (s2.subset hg)) hj]
    exact ofF_congr fun j _ => (Pw_app l1 l2 j).symm
theorem come_row {m : Nat} {A : List Int} (h1 : 1 ≤ m) (h9 : m ≤ 9) (hA : BookOk m A) {x : List Int} (h : Come m A A.length x) : IsRow x ∧ x.length = m := by
  obtain ⟨l, s, rfl⟩ := (come_words h1 h9 hA).mp h
  exact ⟨row_ofF h1 h9 (word_inv fun g hg => nat_ok hA g (s.subset hg)), ofF_len _ _⟩
end MM
namespace MM
open PySem PySem.Spec PyProof.Rows L2 GxR
theorem ahead_iff {m : Nat} {fa fb ga gb ua ub : Nat → Nat} (h1 : 1 ≤ m) (h9 : m ≤ 9) (hI : IsInv m fa fb) (hI2 : IsInv m ga gb) (hU : IsInv m ua ub) : more (dnL (runsTo ga gb m).reverse (ofF m fa)) (ofF m ua) = [] ↔ more (ofF m fa) (farL (ofF m ua) (runsTo ga gb m)) = [] :=
  (need_ahead (row_ofF h1 h9 hI) (ofF_len m fa) (runs_book hI2 m (Nat.le_refl _)) (row_ofF h1 h9 hU) (ofF_len m ua)).symm
theorem behind_iff {m : Nat} {fa fb ga gb ha hb ua ub : Nat → Nat} (h1 : 1 ≤ m) (h9 : m ≤ 9) (hI : IsInv m fa fb) (hI2 : IsInv m ga gb) (hH : IsInv m ha hb) (e : dnL (runsTo gb ga m).reverse (ofF m fb) = ofF m hb) (hU : IsInv m ua ub) : more (ofF m ha) (ofF m ua) = [] ↔ more (ofF m fa) (farL (ofF m ga) (runsTo ua ub m)) = [] := by
  rw [more_inv hH hU, ← e, ahead_iff h1 h9 hI.symm hI2.symm hU.symm]
  exact need_behind h1 h9 hI hI2 hU (runs_book hI2 m (Nat.le_refl _)) (runs_book hU m (Nat.le_refl _)) (runs_book hI2.symm m (Nat.le_refl _)) (runs_book hU.symm m (Nat.le_refl _)) (runs_all hI2) (runs_all hU) (runs_all hI2.symm) (runs_all hU.symm)
theorem wrd_sub {gs y : List Int} : (wrd gs y gs.length).Sublist (nat gs) := by
  have h : (List.range gs.length).map (gapN gs) = nat gs := by
    unfold nat
    refine List.ext_getElem? fun i => ?_
    rw [List.getElem?_map, List.getElem?_map]
    by_cases hi : i < gs.length
    · rw [List.getElem?_range hi, getD_some hi]; rfl
    · rw [List.getElem?_eq_none (by rw [List.length_range]; omega), List.getElem?_eq_none (by omega)]; rfl
  rw [← h]
  unfold wrd tld
  exact (List.filter_sublist).map _
theorem nat_ofNat (w : List Nat) : nat (w.map fun (k : Nat) => (k : Int)) = w := by
  unfold nat
  rw [List.map_map]
  exact (List.map_congr_left fun x _ => Int.toNat_natCast x).trans (List.map_id w)
theorem come_few {m : Nat} {W : List Nat} (h1 : 1 ≤ m) (h9 : m ≤ 9) (hW : ∀ g ∈ W, g + 1 < m) {x : List Int} (h : Come m (W.map fun (k : Nat) => (k : Int)) (W.map fun (k : Nat) => (k : Int)).length x) : pairsN x ≤ W.length := by
  have hb : BookOk m (W.map fun (k : Nat) => (k : Int)) := fun x hx => by
    obtain ⟨z, hz, rfl⟩ := List.mem_map.mp hx
    have := hW z hz
    constructor <;> omega
  obtain ⟨l, hl, rfl⟩ := (come_words h1 h9 hb).mp h
  rw [nat_ofNat] at hl
  exact Nat.le_trans (pairs_word h1 h9 _ l rfl (fun g hg => hW g (hl.subset hg))) hl.length_le
/-- what is needed ahead and behind: together no more turned pairs than the row -/
theorem parts_le {m : Nat} {A B : List Int} {fa fb ua ub va vb ha hb xa xb : Nat → Nat} (h1 : 1 ≤ m) (h9 : m ≤ 9) (hA : BookOk m A) (hB : BookOk m B) (hI : IsInv m fa fb) (hU : IsInv m ua ub) (eA : farL (row0 m) A = ofF m ua) (hV : IsInv m va vb) (eB : farL (row0 m) B = ofF m va)
    (hH : IsInv m ha hb) (eH : dnL (runsTo ub ua m).reverse (ofF m fb) = ofF m hb) (hX : IsInv m xa xb) (eX : dnL (runsTo va vb m).reverse (ofF m fa) = ofF m xa) (hc : Come m (A ++ B) (A ++ B).length (ofF m fa)) : pairsN (ofF m xa) + pairsN (ofF m ha) ≤ pairsN (ofF m fa) := by
  have hAB := book_app hA hB
  have hd := (few_iff h1 h9 hAB hI).mpr hc
  have ew := few_word hAB hI hd
  have ep := few_pairs h1 h9 hAB hI hd
  have hs := wrd_sub (gs := A ++ B) (y := ofF m fb)
  have hl : (wrd (A ++ B) (ofF m fb) (A ++ B).length).length = pairsN (ofF m fa) := by unfold wrd; rw [List.length_map]; exact ep
  generalize wrd (A ++ B) (ofF m fb) (A ++ B).length = w at ew hs hl
  unfold nat at hs
  rw [List.map_append] at hs
  obtain ⟨w1, w2, rfl, s1, s2⟩ := List.sublist_append_iff.mp hs
  have k1 : ∀ g ∈ w1, g + 1 < m := fun g hg => nat_ok hA g (s1.subset hg)
  have k2 : ∀ g ∈ w2, g + 1 < m := fun g hg => nat_ok hB g (s2.subset hg)
  have bk : ∀ {w : List Nat}, (∀ g ∈ w, g + 1 < m) → BookOk m (w.map fun (k : Nat) => (k : Int)) := fun {w} hw x hx => by
    obtain ⟨z, hz, rfl⟩ := List.mem_map.mp hx
    have := hw z hz
    constructor <;> omega
  have hR := row_ofF h1 h9 hI
  have p1 : pairsN (ofF m xa) ≤ w1.length := by
    have hb1 := bk k1
    obtain ⟨r1, l1⟩ := farL_ok (gs := w1.map fun (k : Nat) => (k : Int)) hb1 (row0_row h1 h9) (row0_len m)
    obtain ⟨ca, cb, hC, ec⟩ := r1.inv
    rw [l1] at hC ec
    have c1 : Come m ((w1.map fun (k : Nat) => (k : Int)) ++ B) ((w1.map fun (k : Nat) => (k : Int)) ++ B).length (ofF m fa) := by
      refine (come_words h1 h9 (book_app hb1 hB)).mpr ⟨w1 ++ w2, ?_, ew⟩
      show (w1 ++ w2).Sublist (((w1.map fun (k : Nat) => (k : Int)) ++ B).map Int.toNat)
      rw [List.map_append, show (w1.map fun (k : Nat) => (k : Int)).map Int.toNat = w1 from nat_ofNat w1]
      exact (List.Sublist.refl w1).append s2
    have c2 := (come_far h1 h9 (book_app hb1 hB) hR (ofF_len _ _)).mp c1
    rw [← far_prod h1 h9 hb1 hB hV eB, ec] at c2
    have c3 := (ahead_iff h1 h9 hI hV hC).mpr c2
    rw [eX, ← ec] at c3
    exact come_few h1 h9 k1 ((come_far h1 h9 hb1 (row_ofF h1 h9 hX) (ofF_len _ _)).mpr c3)
  have p2 : pairsN (ofF m ha) ≤ w2.length := by
    have hb2 := bk k2
    obtain ⟨r1, l1⟩ := farL_ok (gs := w2.map fun (k : Nat) => (k : Int)) hb2 (row0_row h1 h9) (row0_len m)
    obtain ⟨ca, cb, hC, ec⟩ := r1.inv
    rw [l1] at hC ec
    have c1 : Come m (A ++ (w2.map fun (k : Nat) => (k : Int))) (A ++ (w2.map fun (k : Nat) => (k : Int))).length (ofF m fa) := by
      refine (come_words h1 h9 (book_app hA hb2)).mpr ⟨w1 ++ w2, ?_, ew⟩
      show (w1 ++ w2).Sublist ((A ++ (w2.map fun (k : Nat) => (k : Int))).map Int.toNat)
      rw [List.map_append, show (w2.map fun (k : Nat) => (k : Int)).map Int.toNat = w2 from nat_ofNat w2]
      exact s1.append (List.Sublist.refl w2)
    have c2 := (come_far h1 h9 (book_app hA hb2) hR (ofF_len _ _)).mp c1
    rw [← far_prod h1 h9 hA hb2 hC ec, eA] at c2
    have c3 := (behind_iff h1 h9 hI hU hH eH hC).mpr c2
    rw [← ec] at c3
    exact come_few h1 h9 k2 ((come_far h1 h9 hb2 (row_ofF h1 h9 hH) (ofF_len _ _)).mpr c3)
  rw [List.length_append] at hl
  omega
/-! ### turned pairs, counted from the front -/
def inv1 : List Int → Nat
  | [] => 0
  | x :: l => (l.filter fun p => decide (p < x)).length + inv1 l
theorem inv1_snoc (x : Int) : ∀ l : List Int, inv1 (l ++ [x]) = inv1 l + (l.filter fun p => decide (x < p)).length
  | [] => rfl
  | y :: l => by
    have ih := inv1_snoc x l
    show ((l ++ [x]).filter fun p => decide (p < y)).length + inv1 (l ++ [x]) = ((l.filter fun p => decide (p < y)).length + inv1 l) + ((y :: l).filter fun p => decide (x < p)).length
    rw [ih, List.filter_append, List.length_append]
    by_cases h : x < y
    · rw [List.filter_cons_of_pos (by rw [decide_eq_true h]), List.filter_cons_of_pos (by rw [decide_eq_true h])]
      simp only [List.filter_nil, List.length_cons, List.length_nil]; omega
    · rw [List.filter_cons_of_neg (by rw [decide_eq_false h]; decide), List.filter_cons_of_neg (by rw [decide_eq_false h]; decide)]
      simp only [List.filter_nil, List.length_nil]; omega
def trn (ns : List Int) : Nat → Nat
  | 0 => 0
  | k + 1 => trn ns k + ((ns.drop k).filter fun p => decide (p < ns.getD k 0)).length
theorem trn_inv (ns : List Int) : ∀ k, k ≤ ns.length → trn ns k + inv1 (ns.drop k) = inv1 ns
  | 0, _ => by show 0 + inv1 (ns.drop 0) = _; rw [List.drop_zero, Nat.zero_add]
  | k + 1, hk => by
    have ih := trn_inv ns k (by omega)
    have e : ns.drop k = ns.getD k 0 :: ns.drop (k + 1) := by
      rw [List.drop_eq_getElem_cons (by omega)]
      congr 1
      have := getD_some (ns := ns) (g := k) (by omega)
      rw [List.getElem?_eq_getElem (by omega)] at this
      exact Option.some.inj this
    show trn ns k + ((ns.drop k).filter fun p => decide (p < ns.getD k 0)).length + inv1 (ns.drop (k + 1)) = _
    rw [← ih]
    conv => rhs; rw [e]
    rw [e, List.filter_cons_of_neg (by rw [decide_eq_false (Int.lt_irrefl _)]; decide)]
    show _ = trn ns k + (((ns.drop (k + 1)).filter fun p => decide (p < ns.getD k 0)).length + inv1 (ns.drop (k + 1)))
    omega
theorem prs_inv (ns : List Int) : ∀ k, k ≤ ns.length → prs ns k = inv1 (ns.take k)
  | 0, _ => rfl
  | k + 1, hk => by
    have ih := prs_inv ns k (by omega)
    show prs ns k + cnt ns k (ns.getD k 0 + 1) = _
    rw [ih, List.take_add_one, getD_some (by omega)]
    show _ = inv1 (ns.take k ++ [ns.getD k 0])
    rw [inv1_snoc]
    congr 1
theorem trn_pairs (ns : List Int) : trn ns ns.length = pairsN ns := by
  have h := trn_inv ns ns.length (Nat.le_refl _)
  have h2 := prs_inv ns ns.length (Nat.le_refl _)
  rw [List.drop_length] at h
  rw [List.take_length] at h2
  unfold pairsN
  rw [h2, ← h]; rfl
end MM
namespace MM
/-! ### the sum over the pairs is the number of pairs that stand turned -/
theorem drop_getD {ns : List Int} {k : Nat} (h : k < ns.length) : ns.drop k = ns.getD k 0 :: ns.drop (k + 1) := by
  rw [List.drop_eq_getElem_cons h]
  congr 1
  have := getD_some (ns := ns) (g := k) h
  rw [List.getElem?_eq_getElem h] at this
  exact Option.some.inj this
theorem cin_gt (ns : List Int) (i : Nat) : ∀ d k, k + d = ns.length → cin (gtAt ns i) d k = ((ns.drop k).filter fun p => decide (p < ns.getD i 0)).length
  | 0, k, h => by rw [List.drop_eq_nil_of_le (by omega)]; rfl
  | d + 1, k, h => by
    rw [drop_getD (show k < ns.length by omega), List.filter_cons]
    show (if gtAt ns i k = true then 1 else 0) + cin (gtAt ns i) d (k + 1) = _
    rw [cin_gt ns i d (k + 1) (by omega)]
    have e : gtAt ns i k = decide (ns.getD k 0 < ns.getD i 0) := by unfold gtAt; rw [List.getD_eq_getElem?_getD, List.getD_eq_getElem?_getD]
    rw [e]
    by_cases hh : ns.getD k 0 < ns.getD i 0
    · rw [decide_eq_true hh, if_pos rfl, if_pos rfl, List.length_cons]; omega
    · rw [decide_eq_false hh, if_neg (by decide), if_neg (by decide)]; omega
theorem cout_trn (ns : List Int) : ∀ d i, i + d = ns.length → trn ns i + cout (gtAt ns) ns.length d i = trn ns ns.length
  | 0, i, h => by rw [show i = ns.length by omega]; rfl
  | d + 1, i, h => by
    have ih := cout_trn ns d (i + 1) (by omega)
    show trn ns i + (cin (gtAt ns i) (ns.length - (i + 1)) (i + 1) + cout (gtAt ns) ns.length d (i + 1)) = _
    rw [cin_gt ns i _ _ (by omega), ← ih]
    show _ = trn ns i + ((ns.drop i).filter fun p => decide (p < ns.getD i 0)).length + _
    rw [drop_getD (show i < ns.length by omega), List.filter_cons_of_neg (by simp)]
    omega
theorem cout_pairs (ns : List Int) : cout (gtAt ns) ns.length ns.length 0 = pairsN ns := by
  rw [← trn_pairs, ← cout_trn ns ns.length 0 (Nat.zero_add _)]
  exact (Nat.zero_add _).symm
end MM
namespace MM
/-! ### products put together -/
theorem prod_assoc {m : Nat} {fa fb ga gb ha hb ua ub va vb : Nat → Nat} (h1 : 1 ≤ m) (h9 : m ≤ 9) (hI : IsInv m fa fb) (hG : IsInv m ga gb) (hH : IsInv m ha hb) (hV : IsInv m va vb) (eU : farL (ofF m fa) (runsTo ga gb m) = ofF m ua) (eV : farL (ofF m ga) (runsTo ha hb m) = ofF m va) :
    farL (ofF m ua) (runsTo ha hb m) = farL (ofF m fa) (runsTo va vb m) := by
  have bA := runs_book hI m (Nat.le_refl _)
  have bB := runs_book hG m (Nat.le_refl _)
  have bC := runs_book hH m (Nat.le_refl _)
  rw [← eU, ← runs_all hI, far_prod h1 h9 bA (book_app bB bC) hV (by rw [farL_app, runs_all hG, eV]), farL_app, farL_app]
theorem one_prod {m : Nat} {fa fb : Nat → Nat} (hI : IsInv m fa fb) : farL (row0 m) (runsTo fa fb m) = ofF m fa := runs_all hI
theorem prod_by {m : Nat} {fa fb va vb : Nat → Nat} {B : List Int} (h1 : 1 ≤ m) (h9 : m ≤ 9) (hI : IsInv m fa fb) (hV : IsInv m va vb) (hB : BookOk m B) (eB : farL (row0 m) B = ofF m va) : farL (ofF m fa) (runsTo va vb m) = farL (ofF m fa) B := by
  rw [← runs_all hI, far_prod h1 h9 (runs_book hI m (Nat.le_refl _)) hB hV eB, farL_app]
theorem prod_one {m : Nat} {fa fb va vb : Nat → Nat} (h1 : 1 ≤ m) (h9 : m ≤ 9) (hI : IsInv m fa fb) (hV : IsInv m va vb) (eV : row0 m = ofF m va) : farL (ofF m fa) (runsTo va vb m) = ofF m fa := by
  rw [prod_by h1 h9 hI hV (B := []) (fun _ h => nomatch h) eV]; rfl
theorem far_rev {m : Nat} {gs : List Int} {c d : Nat → Nat} (h1 : 1 ≤ m) (h9 : m ≤ 9) (hb : BookOk m gs) (hI : IsInv m c d) (hf : farL (row0 m) gs = ofF m c) : farL (row0 m) gs.reverse = ofF m d := by
  have hb' : BookOk m gs.reverse := fun x hx => hb x (List.mem_reverse.mp hx)
  obtain ⟨p1, p2⟩ := farL_ok (gs := gs.reverse) hb' (row0_row h1 h9) (row0_len m)
  obtain ⟨a, b, hA, eA⟩ := p1.inv
  rw [p2] at hA eA
  have hd := row_ofF h1 h9 hI.symm
  refine more_anti p1 p2 hd (ofF_len _ _) ?_ ?_
  · rw [eA]
    refine (come_back h1 h9 hb hI hf hA).mp ?_
    rw [← eA]
    exact (come_far h1 h9 hb' p1 p2).mpr (more_self _)
  · exact (come_far h1 h9 hb' hd (ofF_len _ _)).mp ((come_back h1 h9 hb hI hf hI.symm).mpr (more_self _))
/-- back turns a product about -/
theorem back_prod {m : Nat} {fa fb ga gb ua ub : Nat → Nat} (h1 : 1 ≤ m) (h9 : m ≤ 9) (hI : IsInv m fa fb) (hG : IsInv m ga gb) (hU : IsInv m ua ub) (eU : farL (ofF m fa) (runsTo ga gb m) = ofF m ua) : farL (ofF m gb) (runsTo fb fa m) = ofF m ub := by
  have bA := runs_book hI m (Nat.le_refl _)
  have bB := runs_book hG m (Nat.le_refl _)
  have rA : BookOk m (runsTo fa fb m).reverse := fun x hx => bA x (List.mem_reverse.mp hx)
  have rB : BookOk m (runsTo ga gb m).reverse := fun x hx => bB x (List.mem_reverse.mp hx)
  have eA := far_rev h1 h9 bA hI (runs_all hI)
  have eB := far_rev h1 h9 bB hG (runs_all hG)
  rw [← eB, far_prod h1 h9 rB rA hI.symm eA, ← List.reverse_append]
  exact far_rev h1 h9 (book_app bA bB) hU (by rw [farL_app, runs_all hI, eU])
/-- a book's rows lie below those of a longer one -/
theorem far_sub {m : Nat} {A G : List Int} (h1 : 1 ≤ m) (h9 : m ≤ 9) (hA : BookOk m A) (hG : BookOk m G) (hs : (nat A).Sublist (nat G)) : more (farL (row0 m) A) (farL (row0 m) G) = [] := by
  obtain ⟨p1, p2⟩ := farL_ok hA (row0_row h1 h9) (row0_len m)
  obtain ⟨l, hl, e⟩ := (come_words h1 h9 hA).mp ((come_far h1 h9 hA p1 p2).mpr (more_self _))
  exact (come_far h1 h9 hG p1 p2).mp ((come_words h1 h9 hG).mpr ⟨l, hl.trans hs, e⟩)
theorem prod_over {m : Nat} {fa fb ga gb : Nat → Nat} (h1 : 1 ≤ m) (h9 : m ≤ 9) (hI : IsInv m fa fb) (hG : IsInv m ga gb) : more (ofF m fa) (farL (ofF m fa) (runsTo ga gb m)) = [] ∧ more (ofF m ga) (farL (ofF m fa) (runsTo ga gb m)) = [] := by
  have bA := runs_book hI m (Nat.le_refl _)
  have bB := runs_book hG m (Nat.le_refl _)
  have e : farL (ofF m fa) (runsTo ga gb m) = farL (row0 m) (runsTo fa fb m ++ runsTo ga gb m) := by rw [farL_app, runs_all hI]
  have en : nat (runsTo fa fb m ++ runsTo ga gb m) = nat (runsTo fa fb m) ++ nat (runsTo ga gb m) := by unfold nat; rw [List.map_append]
  constructor
  · rw [e]; conv => lhs; arg 1; rw [← runs_all hI]
    exact far_sub h1 h9 bA (book_app bA bB) (by rw [en]; exact List.sublist_append_left _ _)
  · rw [e]; conv => lhs; arg 1; rw [← runs_all hG]
    exact far_sub h1 h9 bB (book_app bA bB) (by rw [en]; exact List.sublist_append_right _ _)
end MM
namespace MM
/-! ### the last row: all lie below it -/
def lastF (m : Nat) : Nat → Nat := fun k => m - 1 - k
theorem cnt_last {m j : Nat} (hj : j ≤ m) : ∀ i, i ≤ m → cnt (ofF m (lastF m)) i (j : Int) = min i (m - j)
  | 0, _ => by rw [cnt_zero]; omega
  | i + 1, hi => by
    rw [cnt_ofF (by omega), cnt_last hj i (by omega)]
    unfold lastF
    split <;> omega
theorem cnt_none {m : Nat} {a b : Nat → Nat} (hI : IsInv m a b) : ∀ i, i ≤ m → cnt (ofF m a) i (m : Int) = 0
  | 0, _ => rfl
  | i + 1, hi => by
    have := (hI.ab i (by omega)).1
    rw [cnt_ofF (by omega), cnt_none hI i (by omega), if_neg (by omega)]
theorem cnt_up {ns : List Int} {i k : Nat} {j : Int} (h : i ≤ k) : cnt ns i j ≤ cnt ns k j := by
  unfold cnt
  have : (ns.take i).Sublist (ns.take k) := List.take_sublist_take_left h
  exact (this.filter _).length_le
theorem cnt_most {m i j : Nat} {a b : Nat → Nat} (hI : IsInv m a b) (hi : i ≤ m) (hj : j ≤ m) : cnt (ofF m a) i (j : Int) ≤ min i (m - j) := by
  have h1 := cnt_le (ofF m a) i (j : Int)
  have h2 := cnt_up (ns := ofF m a) (j := (j : Int)) hi
  have h3 := cnt_inv hI hj m (Nat.le_refl _)
  rw [cnt_none hI.symm j hj] at h3
  omega
theorem below_last {m : Nat} {a b : Nat → Nat} (hI : IsInv m a b) : more (ofF m a) (ofF m (lastF m)) = [] := more_nil fun i j hi hj => by
  rw [ofF_len] at hi hj
  have h1 := cnt_most hI (show i ≤ m by omega) (show j ≤ m by omega)
  rw [cnt_last (by omega) i (by omega)]
  omega
theorem last_inv (m : Nat) : IsInv m (lastF m) (lastF m) := ⟨fun i hi => by unfold lastF; omega, fun i hi => by unfold lastF; omega⟩
/-- the last row swallows -/
theorem prod_last {m : Nat} {fa fb : Nat → Nat} (h1 : 1 ≤ m) (h9 : m ≤ 9) (hI : IsInv m fa fb) : farL (ofF m fa) (runsTo (lastF m) (lastF m) m) = ofF m (lastF m) ∧ farL (ofF m (lastF m)) (runsTo fa fb m) = ofF m (lastF m) := by
  have hL := last_inv m
  have rL := row_ofF h1 h9 hL
  constructor
  · obtain ⟨p1, p2⟩ := farL_ok (gs := runsTo (lastF m) (lastF m) m) (runs_book hL m (Nat.le_refl _)) (row_ofF h1 h9 hI) (ofF_len m fa)
    obtain ⟨u, v, hU, eU⟩ := p1.inv
    rw [p2] at hU eU
    exact more_anti p1 p2 rL (ofF_len _ _) (by rw [eU]; exact below_last hU) (prod_over h1 h9 hI hL).2
  · obtain ⟨p1, p2⟩ := farL_ok (gs := runsTo fa fb m) (runs_book hI m (Nat.le_refl _)) rL (ofF_len m _)
    obtain ⟨u, v, hU, eU⟩ := p1.inv
    rw [p2] at hU eU
    exact more_anti p1 p2 rL (ofF_len _ _) (by rw [eU]; exact below_last hU) (prod_over h1 h9 hL hI).1
/-- what is needed ahead of the last is the first; what is needed ahead of the first is the row -/
theorem need_last {m : Nat} {fa fb ia ib : Nat → Nat} (h1 : 1 ≤ m) (h9 : m ≤ 9) (hI : IsInv m fa fb) (hS : IsInv m ia ib) (eS : row0 m = ofF m ia) (h0 : ∀ a b, IsInv m a b → more (row0 m) (ofF m a) = []) : dnL (runsTo (lastF m) (lastF m) m).reverse (ofF m fa) = row0 m := by
  have hL := last_inv m
  have bL := runs_book hL m (Nat.le_refl _)
  obtain ⟨p1, p2⟩ := dnL_ok (gs := (runsTo (lastF m) (lastF m) m).reverse) (fun x hx => bL x (List.mem_reverse.mp hx)) (row_ofF h1 h9 hI) (ofF_len m fa)
  obtain ⟨u, v, hU, eU⟩ := p1.inv
  rw [p2] at hU eU
  refine more_anti p1 p2 (row0_row h1 h9) (row0_len m) ?_ (by rw [eU]; exact h0 _ _ hU)
  rw [eS]
  exact (ahead_iff h1 h9 hI hL hS).mpr (by rw [(prod_last h1 h9 hS).1]; exact below_last hI)
theorem need_first {m : Nat} {fa fb ia ib : Nat → Nat} (h1 : 1 ≤ m) (h9 : m ≤ 9) (hI : IsInv m fa fb) (hS : IsInv m ia ib) (eS : row0 m = ofF m ia) : dnL (runsTo ia ib m).reverse (ofF m fa) = ofF m fa := by
  have bL := runs_book hS m (Nat.le_refl _)
  obtain ⟨p1, p2⟩ := dnL_ok (gs := (runsTo ia ib m).reverse) (fun x hx => bL x (List.mem_reverse.mp hx)) (row_ofF h1 h9 hI) (ofF_len m fa)
  obtain ⟨u, v, hU, eU⟩ := p1.inv
  rw [p2] at hU eU
  refine more_anti p1 p2 (row_ofF h1 h9 hI) (ofF_len _ _) ?_ ?_
  · exact (ahead_iff h1 h9 hI hS hI).mpr (by rw [prod_one h1 h9 hI hS eS]; exact more_self _)
  · rw [eU, ← prod_one h1 h9 hU hS eS]
    exact (ahead_iff h1 h9 hI hS hU).mp (by rw [eU]; exact more_self _)
theorem first_below {m : Nat} {a b : Nat → Nat} (h1 : 1 ≤ m) (h9 : m ≤ 9) (hI : IsInv m a b) : more (row0 m) (ofF m a) = [] := by
  have h := far_sub h1 h9 (A := []) (fun _ h => nomatch h) (runs_book hI m (Nat.le_refl _)) (List.nil_sublist _)
  rw [runs_all hI] at h
  exact h
end MM
namespace MM
/-! ### a row and its back have as many turned pairs -/
theorem pairs_back_le {m : Nat} {a b : Nat → Nat} (h1 : 1 ≤ m) (h9 : m ≤ 9) (hI : IsInv m a b) : pairsN (ofF m b) ≤ pairsN (ofF m a) := by
  have bG := runs_book hI m (Nat.le_refl _)
  obtain ⟨k1, k2, _, k4⟩ := kept_ok h1 h9 bG (runsTo a b m).length (Nat.le_refl _)
  rw [← farL_all, runs_all hI] at k2 k4
  generalize keptAt m (runsTo a b m) (runsTo a b m).length = K at k1 k2 k4
  have bK : BookOk m K := fun x hx => bG x (k1 x hx)
  have rK : BookOk m K.reverse := fun x hx => bK x (List.mem_reverse.mp hx)
  have e := far_rev h1 h9 bK hI (by rw [farL_all]; exact k2)
  have eW : (K.reverse.map Int.toNat).map (fun (k : Nat) => (k : Int)) = K.reverse := by
    rw [List.map_map]
    refine (List.map_congr_left fun x hx => ?_).trans (List.map_id _)
    have := (rK x hx).1
    show ((x.toNat : Nat) : Int) = x
    omega
  have rB := row_ofF h1 h9 hI.symm
  have hc := (come_far h1 h9 rK rB (ofF_len _ _)).mpr (by rw [e]; exact more_self _)
  have := come_few (W := K.reverse.map Int.toNat) h1 h9 (fun g hg => by
    obtain ⟨x, hx, rfl⟩ := List.mem_map.mp hg
    have := rK x hx
    omega) (by rw [eW]; exact hc)
  rw [List.length_map, List.length_reverse, k4] at this
  exact this
theorem pairs_back {m : Nat} {a b : Nat → Nat} (h1 : 1 ≤ m) (h9 : m ≤ 9) (hI : IsInv m a b) : pairsN (ofF m b) = pairsN (ofF m a) := Nat.le_antisymm (pairs_back_le h1 h9 hI) (pairs_back_le h1 h9 hI.symm)
end MM
namespace MM
open PySem PySem.Spec PyProof.Rows L2 GxR
/-! ### falls; the runs have as many meetings as there are turned pairs -/
theorem pairs_desc {x : List Int} {g : Nat} (h : g + 1 < x.length) (hx : x.getD (g + 1) 0 < x.getD g 0) : pairsN x = pairsN (swL x g) + 1 := by
  obtain ⟨e1, e2⟩ := sw_g h
  have := pairs_sw (ns := swL x g) (g := g) (by rw [sw_len h]; exact h) (by rw [e1, e2]; exact hx)
  rw [sw_sw h] at this; exact this
theorem far_desc {x l : List Int} {g : Nat} (h : g + 1 < x.length) (hx : x.getD (g + 1) 0 < x.getD g 0) : farL (swL x g) ((g : Int) :: l) = farL x l := by
  obtain ⟨e1, e2⟩ := sw_g h
  show farL (upS (swL x g) (g : Int).toNat) l = _
  rw [Int.toNat_natCast]
  unfold upS
  rw [e1, e2, if_pos hx, sw_sw h]
theorem up_rise {x : List Int} (h : ∀ g, g + 1 < x.length → x.getD g 0 < x.getD (g + 1) 0) : ∀ j i, i < j → j < x.length → x.getD i 0 < x.getD j 0
  | 0, _, hi, _ => absurd hi (Nat.not_lt_zero _)
  | j + 1, i, hi, hj => by
    have h1 := h j hj
    by_cases e : i = j
    · rw [e]; exact h1
    · exact Int.lt_trans (up_rise h j i (by omega) (by omega)) h1
theorem no_desc {x : List Int} (r : IsRow x) (h : ∀ g, g + 1 < x.length → x.getD g 0 < x.getD (g + 1) 0) : x = row0 x.length := by
  refine r.sorted (List.Perm.refl _) (List.pairwise_iff_getElem.mpr fun i j hi hj hij => ?_)
  have := up_rise h j i hij hj
  rw [List.getD_eq_getElem?_getD, List.getD_eq_getElem?_getD, List.getElem?_eq_getElem hi, List.getElem?_eq_getElem hj] at this
  exact Int.le_of_lt this
/-- where a row is not in order, there is a fall -/
theorem has_desc {x : List Int} (r : IsRow x) (h : 0 < pairsN x) : ∃ g, g + 1 < x.length ∧ x.getD (g + 1) 0 < x.getD g 0 := by
  refine Classical.byContradiction fun hn => ?_
  have := no_desc r fun g hg => by
    have h1 := row_ne r hg
    have h2 : ¬ x.getD (g + 1) 0 < x.getD g 0 := fun z => hn ⟨g, hg, z⟩
    omega
  rw [this, pairs_row00] at h
  exact absurd h (Nat.lt_irrefl 0)
theorem no_pairs {x : List Int} (r : IsRow x) (h : pairsN x = 0) : x = row0 x.length := no_desc r fun g hg => by
  have h1 := row_ne r hg
  refine Classical.byContradiction fun hn => ?_
  have := pairs_desc hg (show x.getD (g + 1) 0 < x.getD g 0 by omega)
  omega
theorem pairs_run {A C : List Int} {x : Int} (hx : ∀ y ∈ A, y < x) : ∀ c, c ≤ A.length → pairsN (farL (A ++ x :: C) ((List.range c).map fun j => ((A.length - 1 - j : Nat) : Int))) = pairsN (A ++ x :: C) + c
  | 0, _ => rfl
  | c + 1, hc => by
    have ih := pairs_run (C := C) hx c (by omega)
    have e := far_run (C := C) hx c (by omega)
    rw [List.range_succ, List.map_append, farL_app, ← Nat.add_assoc, ← ih, e]
    obtain ⟨A1, a, eA⟩ : ∃ A1 a, A.take (A.length - c) = A1 ++ [a] := by
      refine ⟨A.take (A.length - c - 1), A[A.length - c - 1]'(by omega), ?_⟩
      have := List.take_append_getElem (l := A) (i := A.length - c - 1) (by omega)
      rw [show A.length - c - 1 + 1 = A.length - c by omega] at this
      exact this.symm
    have hl : A1.length = A.length - 1 - c := by
      have := congrArg List.length eA
      rw [List.length_take, List.length_append] at this
      simp only [List.length_cons, List.length_nil] at this
      omega
    have ha : a < x := hx a (List.mem_of_mem_take (i := A.length - c) (by rw [eA]; simp))
    rw [eA, List.append_assoc]
    show pairsN (upS (A1 ++ a :: x :: _) ((A.length - 1 - c : Nat) : Int).toNat) = _
    rw [Int.toNat_natCast, ← hl, up_form ha]
    have g0 : (A1 ++ a :: x :: (A.drop (A.length - c) ++ C)).getD A1.length 0 = a := by simp [List.getD_eq_getElem?_getD]
    have g1 : (A1 ++ a :: x :: (A.drop (A.length - c) ++ C)).getD (A1.length + 1) 0 = x := by simp [List.getD_eq_getElem?_getD]
    have := pairs_sw (ns := A1 ++ a :: x :: (A.drop (A.length - c) ++ C)) (g := A1.length) (by rw [List.length_append, List.length_cons, List.length_cons]; omega) (by rw [g0, g1]; exact ha)
    rw [sw_form] at this
    exact this
theorem pairs_runs_to {m : Nat} {fa fb : Nat → Nat} (hI : IsInv m fa fb) : ∀ k, k ≤ m → pairsN (flt m fa k ++ rest m k) = (runsTo fa fb k).length
  | 0, _ => by
    rw [← runs_far hI 0 (Nat.zero_le _)]
    exact pairs_row00 m
  | k + 1, hk => by
    have ih := pairs_runs_to hI k (by omega)
    rw [← runs_far hI (k + 1) hk]
    have hl := flt_len hI k (by omega)
    have hc : k - lowN fa (fb k) k ≤ (flt m fa k).length := by omega
    have := pairs_run (A := flt m fa k) (x := (k : Int)) (C := rest m (k + 1)) (fun y hy => of_decide_eq_true (List.mem_filter.mp hy).2) (k - lowN fa (fb k) k) hc
    rw [← rest_cons (by omega : k < m), ih, hl] at this
    show pairsN (farL (row0 m) (runsTo fa fb k ++ runP (lowN fa (fb k) k) k)) = (runsTo fa fb k ++ runP (lowN fa (fb k) k) k).length
    rw [farL_app, runs_far hI k (by omega), List.length_append]
    unfold runP
    rw [List.length_map, List.length_range]
    exact this
theorem runs_pairs {m : Nat} {fa fb : Nat → Nat} (hI : IsInv m fa fb) : (runsTo fa fb m).length = pairsN (ofF m fa) := by
  rw [← pairs_runs_to hI m (Nat.le_refl _), ← runs_far hI m (Nat.le_refl _), runs_all hI]
theorem pairs_most {x : List Int} (r : IsRow x) : pairsN x ≤ 81 := by
  obtain ⟨a, b, h, e⟩ := r.inv
  have := runs_len (fa := a) (fb := b) (m := x.length) x.length r.2.1
  have h9 := r.2.1
  rw [runs_pairs h, ← e] at this
  have : x.length * 9 ≤ 9 * 9 := Nat.mul_le_mul_right 9 h9
  omega
theorem up_up (x : List Int) (g : Nat) (h : g + 1 < x.length) : upS (upS x g) g = upS x g := by
  unfold upS
  by_cases hx : x.getD g 0 < x.getD (g + 1) 0
  · rw [if_pos hx]
    obtain ⟨e1, e2⟩ := sw_g h
    rw [if_neg (by rw [e1, e2]; omega)]
  · rw [if_neg hx, if_neg hx]
def twiceL (gs : List Int) (k : Nat) : List Int := gs.take k ++ gs.drop (k - 1)
theorem twice_far {m : Nat} {gs y : List Int} (hb : BookOk m gs) (hr : IsRow y) (hl : y.length = m) : ∀ k, k ≤ gs.length → farL y (twiceL gs k) = farL y gs
  | 0, _ => rfl
  | k + 1, h => by
    unfold twiceL
    rw [Nat.add_sub_cancel, List.take_add_one, List.getElem?_eq_getElem h, List.drop_eq_getElem_cons (by omega : k < gs.length)]
    have hk : k < gs.length := h
    conv => rhs; rw [← List.take_append_drop k gs, farL_app, List.drop_eq_getElem_cons hk]
    rw [List.append_assoc, farL_app]
    obtain ⟨r2, l2⟩ := farL_ok (gs := gs.take k) (fun x hx => hb x (List.mem_of_mem_take hx)) hr hl
    have hg := hb gs[k] (List.getElem_mem hk)
    show farL (upS (upS (farL y (gs.take k)) gs[k].toNat) gs[k].toNat) _ = farL (upS (farL y (gs.take k)) gs[k].toNat) _
    rw [up_up _ _ (by rw [l2]; omega)]
theorem twice_len {gs : List Int} {k : Nat} (h : k ≤ gs.length) : (twiceL gs k).length = if k = 0 then gs.length else gs.length + 1 := by
  unfold twiceL
  rw [List.length_append, List.length_take, List.length_drop]
  split <;> omega
theorem twice_zero (gs : List Int) : twiceL gs 0 = gs := rfl
theorem twice_book {m : Nat} {gs : List Int} (hb : BookOk m gs) (k : Nat) : BookOk m (twiceL gs k) := book_app (fun x hx => hb x (List.mem_of_mem_take hx)) (fun x hx => hb x (List.mem_of_mem_drop hx))
end MM
namespace MM
open PySem PySem.Spec PyProof.Rows L2 GxR
/-! ### two led back into order; the first corner; pairs of numbers -/
theorem more_trans {a b c : List Int} (hl : a.length = b.length) (h1 : more a b = []) (h2 : more b c = []) : more a c = [] :=
  more_iff.mpr fun i j hi hj => Nat.le_trans (more_iff.mp h1 i j hi hj) (more_iff.mp h2 i j (by omega) (by omega))
def tr2 (k j p : Nat) : Nat := if p = k then j else if p = j then k else p
theorem tr2_tr2 (k j p : Nat) : tr2 k j (tr2 k j p) = p := by
  unfold tr2
  by_cases h1 : p = k
  · subst h1
    rw [if_pos rfl]
    by_cases h2 : j = p
    · subst h2; simp
    · rw [if_neg h2, if_pos rfl]
  · rw [if_neg h1]
    by_cases h2 : p = j
    · subst h2; rw [if_pos rfl, if_pos rfl]
    · rw [if_neg h2, if_neg h1, if_neg h2]
theorem tr2_lt {m k j p : Nat} (hk : k < m) (hj : j < m) (hp : p < m) : tr2 k j p < m := by
  unfold tr2; split <;> (try split) <;> omega
theorem IsInv.tr2 {m k j : Nat} {a b : Nat → Nat} (h : IsInv m a b) (hk : k < m) (hj : j < m) : IsInv m (fun i => a (tr2 k j i)) (fun v => tr2 k j (b v)) :=
  ⟨fun i hi => ⟨(h.ab _ (tr2_lt hk hj hi)).1, by rw [(h.ab _ (tr2_lt hk hj hi)).2, tr2_tr2]⟩, fun v hv => ⟨tr2_lt hk hj (h.ba v hv).1, by show a (MM.tr2 k j (MM.tr2 k j (b v))) = v; rw [tr2_tr2]; exact (h.ba v hv).2⟩⟩
def exL (x : List Int) (k j : Nat) : List Int := (x.set k (x.getD j 0)).set j (x.getD k 0)
theorem exL_ofF {m k j : Nat} {a : Nat → Nat} (hk : k < m) (hj : j < m) : exL (ofF m a) k j = ofF m fun i => a (tr2 k j i) := by
  unfold exL
  rw [ofF_getD hk, ofF_getD hj]
  refine List.ext_getElem? fun i => ?_
  by_cases hi : i < m
  · rw [ofF_get hi, List.getElem?_set, List.length_set, ofF_len]
    unfold tr2
    by_cases h1 : j = i
    · rw [if_pos h1, if_pos hj]
      subst h1
      by_cases h2 : j = k
      · rw [if_pos h2, h2]
      · rw [if_neg h2, if_pos rfl]
    · rw [if_neg h1, List.getElem?_set, ofF_len]
      by_cases h2 : k = i
      · rw [if_pos h2, if_pos hk, if_pos h2.symm]
      · rw [if_neg h2, ofF_get hi, if_neg (fun z => h2 z.symm), if_neg (fun z => h1 z.symm)]
  · rw [List.getElem?_eq_none (by rw [List.length_set, List.length_set, ofF_len]; omega), List.getElem?_eq_none (by rw [ofF_len]; omega)]
/-- two at places k, j with the greater ahead, led back into order: no corner has more -/
theorem cnt_ex {m k j : Nat} {a : Nat → Nat} (hkj : k < j) (hj : j < m) (t : Nat) : ∀ i, i ≤ m →
    (i ≤ k → cnt (ofF m fun p => a (tr2 k j p)) i (t : Int) = cnt (ofF m a) i (t : Int)) ∧ (k < i → i ≤ j → cnt (ofF m fun p => a (tr2 k j p)) i (t : Int) + (if t ≤ a k then 1 else 0) = cnt (ofF m a) i (t : Int) + if t ≤ a j then 1 else 0) ∧ (j < i → cnt (ofF m fun p => a (tr2 k j p)) i (t : Int) = cnt (ofF m a) i (t : Int))
  | 0, _ => ⟨fun _ => rfl, fun h => absurd h (by omega), fun h => absurd h (by omega)⟩
  | i + 1, hi => by
    obtain ⟨h1, h2, h3⟩ := cnt_ex (a := a) hkj hj t i (by omega)
    have e1 := cnt_ofF (m := m) (a := fun p => a (tr2 k j p)) (i := i) (by omega) t
    have e2 := cnt_ofF (m := m) (a := a) (i := i) (by omega) t
    refine ⟨fun h => ?_, fun h h' => ?_, fun h => ?_⟩
    · rw [e1, e2, h1 (by omega)]
      have : tr2 k j i = i := by unfold tr2; rw [if_neg (by omega), if_neg (by omega)]
      rw [this]
    · by_cases hik : i = k
      · have : tr2 k j i = j := by unfold tr2; rw [if_pos hik]
        rw [e1, e2, h1 (by omega), this, hik]; omega
      · have : tr2 k j i = i := by unfold tr2; rw [if_neg hik, if_neg (by omega)]
        have := h2 (by omega) (by omega)
        rw [e1, e2, ‹tr2 k j i = i›]; omega
    · by_cases hij : i = j
      · have : tr2 k j i = k := by unfold tr2; rw [if_neg (by omega), if_pos hij]
        have := h2 (by omega) (by omega)
        rw [e1, e2, ‹tr2 k j i = k›, hij]
        rw [hij] at this
        omega
      · have : tr2 k j i = i := by unfold tr2; rw [if_neg (by omega), if_neg hij]
        rw [e1, e2, h3 (by omega), this]
theorem less_below {m k j : Nat} {a : Nat → Nat} (hkj : k < j) (hj : j < m) (h : a j < a k) : more (ofF m fun p => a (tr2 k j p)) (ofF m a) = [] := more_iff.mpr fun i t hi ht => by
  rw [ofF_len] at hi
  obtain ⟨h1, h2, h3⟩ := cnt_ex (a := a) hkj hj t i (by omega)
  by_cases c1 : i ≤ k
  · exact Nat.le_of_eq (h1 c1)
  · by_cases c2 : i ≤ j
    · have := h2 (by omega) c2
      by_cases d1 : t ≤ a j
      · rw [if_pos d1, if_pos (by omega)] at this; omega
      · rw [if_neg d1] at this; omega
    · exact Nat.le_of_eq (h3 (by omega))
/-- the first corner that has more: none ahead of it has -/
theorem more_first {ns ms : List Int} {i j : Nat} (h : (more ns ms).head? = some (i, j)) : i < ns.length + 1 ∧ j < ns.length + 1 ∧ cnt ms i j < cnt ns i j ∧ ∀ a b : Nat, a < ns.length + 1 → b < ns.length + 1 → (a < i ∨ a = i ∧ b < j) → ¬ cnt ms a b < cnt ns a b := by
  have hm : (i, j) ∈ more ns ms := by
    cases e : more ns ms with
    | nil => rw [e] at h; cases h
    | cons x l => rw [e] at h; cases h; exact List.mem_cons_self
  obtain ⟨hi, hj, hc⟩ := mem_moreTo.mp hm
  refine ⟨hi, hj, hc, fun a b ha hb hab hlt => ?_⟩
  -- the least one
  have ex1 : ∃ a, a < ns.length + 1 ∧ ∃ b, b < ns.length + 1 ∧ cnt ms a b < cnt ns a b := ⟨a, ha, b, hb, hlt⟩
  obtain ⟨a0, ⟨ha0, hb0⟩, hmin⟩ : ∃ a0, (a0 < ns.length + 1 ∧ ∃ b : Nat, b < ns.length + 1 ∧ cnt ms a0 b < cnt ns a0 b) ∧ ∀ a' : Nat, a' < a0 → ¬ (a' < ns.length + 1 ∧ ∃ b : Nat, b < ns.length + 1 ∧ cnt ms a' b < cnt ns a' b) := by
    obtain ⟨x, hx⟩ := ex1
    induction x using Nat.strongRecOn with
    | _ x ih =>
      by_cases hn : ∃ y, y < x ∧ (y < ns.length + 1 ∧ ∃ b : Nat, b < ns.length + 1 ∧ cnt ms y b < cnt ns y b)
      · obtain ⟨y, hy, h2⟩ := hn
        exact ih y hy h2
      · exact ⟨x, hx, fun a' h1 h2 => hn ⟨a', h1, h2⟩⟩
  obtain ⟨b0, ⟨hb0, hc0⟩, hmin2⟩ : ∃ b0, (b0 < ns.length + 1 ∧ cnt ms a0 (b0 : Nat) < cnt ns a0 (b0 : Nat)) ∧ ∀ b' : Nat, b' < b0 → ¬ (b' < ns.length + 1 ∧ cnt ms a0 b' < cnt ns a0 b') := by
    obtain ⟨x, hx⟩ := hb0
    induction x using Nat.strongRecOn with
    | _ x ih =>
      by_cases hn : ∃ y : Nat, y < x ∧ (y < ns.length + 1 ∧ cnt ms a0 y < cnt ns a0 y)
      · obtain ⟨y, hy, h2⟩ := hn
        exact ih y hy h2
      · exact ⟨x, hx, fun a' h1 h2 => hn ⟨a', h1, h2⟩⟩
  have e := more_head (ns := ns) (ms := ms) ha0 hb0 hc0 (fun i' j' h1 h2 h3 => hmin i' h1 ⟨by omega, j', h2, h3⟩) (fun j' h1 h2 => hmin2 j' h1 ⟨by omega, h2⟩)
  rw [h] at e
  have e := Option.some.inj e
  have e1 : i = a0 := congrArg Prod.fst e
  have e2 : j = b0 := congrArg Prod.snd e
  subst e1 e2
  rcases hab with h1 | ⟨h1, h2⟩
  · exact hmin a h1 ⟨ha, b, hb, hlt⟩
  · subst h1
    exact hmin2 b h2 ⟨hb, hlt⟩
def pr2 (a b : Int) : PyData := .tuple [.int a, .int b]
theorem pr2_alike (a b c d : Int) : PySem.W.alike (pr2 a b) (pr2 c d) = true := by
  unfold pr2; simp [PySem.W.alike, PySem.W.alikeAll]
theorem pr2_dep (a b c d : Int) : min (pr2 a b).depth (pr2 c d).depth ≤ 63 := by
  unfold pr2
  simp only [PyData.depth, PyData.depthAll]
  decide
theorem pr2_lt (a b c d : Int) : PySem.W.dataLt (pr2 a b) (pr2 c d) = decide (a < c ∨ (a = c ∧ b < d)) := by
  unfold pr2
  have h1 : PySem.W.alike (PyData.int a) (PyData.int c) = true := by simp [PySem.W.alike]
  have h2 : PySem.W.alike (PyData.int b) (PyData.int d) = true := by simp [PySem.W.alike]
  rw [PySem.W.dataLt_pair h1 h2, PySem.W.dataLt_int, PySem.W.dataLt_int]
  have h3 : PyData.eqv (.int b) (.int d) = decide (b = d) := by
    simp only [PyData.eqv]; exact Bool.eq_iff_iff.mpr (by simp)
  have h4 : PyData.eqv (.int a) (.int c) = decide (a = c) := by
    simp only [PyData.eqv]; exact Bool.eq_iff_iff.mpr (by simp)
  rw [h3, h4]
  by_cases e : a = c
  · subst e
    by_cases e2 : b = d
    · subst e2; simp
    · simp [e2]
  · simp [e]
theorem inV_ints (k : Int) (ns : List Int) : inV (.int k) (ns.map V.int) = decide (k ∈ ns) := by
  unfold inV
  rw [List.any_map]
  rw [Bool.eq_iff_iff, decide_eq_true_iff, List.any_eq_true]
  constructor
  · rintro ⟨x, hx, e⟩
    have : x = k := by simpa [eqV] using e
    exact this ▸ hx
  · intro h
    exact ⟨k, h, by simp [eqV]⟩
/-- the going that changes at the fewest meetings ends in the row -/
theorem few_going {m : Nat} {gs : List Int} {a b : Nat → Nat} (hb : BookOk m gs) (hi : IsInv m a b) (h : dnL gs (ofF m b) = row0 m) : rowAt (row0 m) gs ((List.range gs.length).map fun k => decide (k ∈ tld gs (ofF m b) gs.length)) gs.length = ofF m a := by
  rw [few_word hb hi h]
  refine walk_word (cs := fun k => ((List.range gs.length).map fun k => decide (k ∈ tld gs (ofF m b) gs.length)).getD k false) hb (Nat.le_refl _) (fun k hk => ?_) gs.length (Nat.le_refl _) (rowAt (row0 m) gs ((List.range gs.length).map fun k => decide (k ∈ tld gs (ofF m b) gs.length))) rfl fun k _ => rfl
  rw [List.getD_eq_getElem?_getD, List.getElem?_map, List.getElem?_range hk]
  exact decide_eq_true_iff
end MM
namespace MM
open PySem PySem.Spec PyProof.Rows L2 GxR
/-! ### words that many laws want -/
theorem flat_ints (ns : List Int) : (ns.map V.int).all flatV = true := by
  rw [List.all_map]; exact List.all_eq_true.mpr fun _ _ => rfl
theorem ne_rows {K : PySem.W.Frag} {H : Hp} {a b : Addr} {ns ms : List Int} (ha : SqT K H a (ns.map V.int)) (hb : SqT K H b (ms.map V.int)) (r1 : IsRow ns) (r2 : IsRow ms) {Q : VK} (q : Q (.bl (!decide (ns = ms))) H) : rNeD K (.ref a) (.ref b) H Q := by
  refine ⟨_, _, dp_row ha, dp_row hb, (nice_row r1).shaped (by decide), (nice_row r2).shaped (by decide), ?_⟩
  rw [eqv_rows]; exact q
theorem eq_rows {K : PySem.W.Frag} {H : Hp} {a b : Addr} {ns ms : List Int} (ha : SqT K H a (ns.map V.int)) (hb : SqT K H b (ms.map V.int)) (r1 : IsRow ns) (r2 : IsRow ms) {Q : VK} (q : Q (.bl (decide (ns = ms))) H) : rEqD K (.ref a) (.ref b) H Q := by
  refine ⟨_, _, dp_row ha, dp_row hb, (nice_row r1).shaped (by decide), (nice_row r2).shaped (by decide), ?_⟩
  rw [eqv_rows]; exact q
theorem eq_books {K : PySem.W.Frag} {H : Hp} {a b : Addr} {ns ms : List Int} {m : Nat} (ha : SqT K H a (ns.map V.int)) (hb : SqT K H b (ms.map V.int)) (h9 : m ≤ 9) (r1 : BookOk m ns) (r2 : BookOk m ms) {Q : VK} (q : Q (.bl (decide (ns = ms))) H) : rEqD K (.ref a) (.ref b) H Q := by
  have nn : ∀ {ns : List Int}, BookOk m ns → Nice 1 (ns.length * (51 + 2) + 3) (.tuple (ns.map PyData.int)) := fun r => nice_tuple (nice_ints fun i hi => by have := r i hi; omega) (by rw [List.length_map]; exact Nat.le_refl _)
  refine ⟨_, _, dp_row ha, dp_row hb, (nn r1).shaped (by decide), (nn r2).shaped (by decide), ?_⟩
  rw [eqv_rows]; exact q
inductive DaL (K : PySem.W.Frag) (H : Hp) (d : Nat) : List V → List V → Prop
  | nil : DaL K H d [] []
  | cons {x y : V} {xs ys : List V} (h : Da K H d x y) (t : DaL K H d xs ys) : DaL K H d (x :: xs) (y :: ys)
theorem da_two {K : PySem.W.Frag} {H : Hp} {d : Nat} {a b : Addr} {xs ys : List V} (ha : H a = some (.lst xs)) (hb : H b = some (.lst ys)) (h : DaL K H d xs ys) (hz : xs.length ≤ 1000) : Da K H (d + 1) (.ref a) (.ref b) := by
  have hl : xs.length = ys.length := by clear ha hb hz; induction h with | nil => rfl | cons _ _ ih => simp only [List.length_cons, ih]
  refine .lst ha hb hl (fun k x y hx hy => ?_) hz
  clear ha hb hz hl
  induction h generalizing k with
  | nil => cases hx
  | cons h _ ih => cases k with
    | zero => cases hx; cases hy; exact h
    | succ k => exact ih k hx hy
theorem dec_int (a b : Nat) : decide (V.int (a : Int) = V.int (b : Int)) = decide (a = b) := by
  rw [Bool.eq_iff_iff, decide_eq_true_iff, decide_eq_true_iff]
  exact ⟨fun h => by cases h; omega, fun h => by rw [h]⟩
structure RowsF (H : Hp) (r gs : List Int) (cs : List Bool) (n : Nat) (ts : List Addr) : Prop where
  len : ts.length = n
  at_ : ∀ (k : Nat) t, ts[k]? = some t → FTup H t ((rowAt r gs cs k).map V.int)
theorem RowsF.ex {B : Addr → Prop} {H H' : Hp} {r gs : List Int} {cs : List Bool} {n : Nat} {ts : List Addr} (h : RowsF H r gs cs n ts) (e : ExB B H H') : RowsF H' r gs cs n ts := ⟨h.len, fun k t a => (h.at_ k t a).ex e⟩
theorem RowsF.push {H : Hp} {r gs : List Int} {cs : List Bool} {n : Nat} {ts : List Addr} {t : Addr} (h : RowsF H r gs cs n ts) (q : FTup H t ((rowAt r gs cs n).map V.int)) : RowsF H r gs cs (n + 1) (ts ++ [t]) := by
  refine ⟨by rw [List.length_append, h.len]; rfl, fun k t' hk => ?_⟩
  by_cases hl : k < ts.length
  · rw [List.getElem?_append_left hl] at hk; exact h.at_ k t' hk
  · rw [List.getElem?_append_right (by omega)] at hk
    have : k - ts.length = 0 := by
      refine Classical.byContradiction fun z => ?_
      rw [List.getElem?_eq_none (by show 1 ≤ _; omega)] at hk; cases hk
    rw [this] at hk; cases hk
    have : k = n := by rw [← h.len]; omega
    rw [this]; exact q
end MM
namespace MM
open PySem PySem.Spec PyProof.Rows L2 GxR
/-! ### the other bag of draws; books with meetings left out -/
def BagD (n : Nat) (H : Hp) (b : Addr) : Prop := ∃ x y z : Int, H b = some (.lst [.int x, .int y, .int z]) ∧ 0 ≤ x ∧ 0 ≤ y ∧ y < 10 ^ 41 ∧ 0 ≤ z ∧ z ≤ n
theorem BagD.mono {n m : Nat} {H : Hp} {b : Addr} (h : BagD n H b) (l : n ≤ m) : BagD m H b := let ⟨x, y, z, e, a, c, d, f, g⟩ := h; ⟨x, y, z, e, a, c, d, f, by omega⟩
theorem BagD.ex {n : Nat} {H H' : Hp} {b : Addr} (h : BagD n H b) (e : Ex H H') : BagD n H' b := let ⟨x, y, z, r⟩ := h; ⟨x, y, z, Ex.lst e r.1, r.2⟩
theorem BagD.exB {n : Nat} {H H' : Hp} {b : Addr} {B : Addr → Prop} (h : BagD n H b) (e : ExB B H H') (nb : ¬ B b) : BagD n H' b := let ⟨x, y, z, r⟩ := h; ⟨x, y, z, e.lst r.1 nb, r.2⟩
theorem BagD.some {n : Nat} {H : Hp} {b : Addr} (h : BagD n H b) : H b ≠ none := by obtain ⟨_, _, _, e, _⟩ := h; rw [e]; exact fun z => nomatch z
theorem mix_okD {y z c : Int} (hy : 0 ≤ y) (hy2 : y < 10 ^ 41) (hz : 0 ≤ z) (hz2 : z ≤ 1000000) (hc : 0 ≤ c) (hc2 : c ≤ 1000000000) {e : Int} (he : 0 ≤ e) (he2 : e ≤ 10) : CPowW (y + z * c) e := by
  have h1 : z * c ≤ 1000000 * 1000000000 := Int.mul_le_mul hz2 hc2 hc (by decide)
  have h2 : 0 ≤ z * c := Int.mul_nonneg hz hc
  refine pow_ok (k := 200) he ?_ ?_
  · have h3 : (10 : Int) ^ 41 + 1000000 * 1000000000 < 2 ^ 200 := by decide
    have h4 : (y + z * c) < 2 ^ 200 := by omega
    have h5 : ((y + z * c).natAbs : Int) < ((2 ^ 200 : Nat) : Int) := by
      rw [Int.natAbs_of_nonneg (by omega)]; exact h4
    exact Int.ofNat_lt.mp h5
  · have : (2 : Int) ^ 27 = 134217728 := by decide
    rw [this]
    have : ((200 : Nat) : Int) * e ≤ 200 * 10 := Int.mul_le_mul (by decide) he2 he (by decide)
    omega
/-- the book of the meetings whose numbers, up to n, are not among ks -/
def outS (gs ks : List Int) (n : Nat) : List Int := ((List.range n).filter fun (k : Nat) => !decide ((k : Int) ∈ ks)).map fun k => gs.getD k 0
theorem outS_succ (gs ks : List Int) (n : Nat) : outS gs ks (n + 1) = outS gs ks n ++ if (n : Int) ∈ ks then [] else [gs.getD n 0] := by
  unfold outS
  rw [List.range_succ, List.filter_append, List.map_append]
  by_cases h : (n : Int) ∈ ks
  · rw [if_pos h, List.filter_cons_of_neg (by rw [decide_eq_true h]; decide)]; rfl
  · rw [if_neg h, List.filter_cons_of_pos (by rw [decide_eq_false h]; rfl)]; rfl
theorem outS_len (gs ks : List Int) (n : Nat) : (outS gs ks n).length ≤ n := by
  unfold outS; rw [List.length_map]; exact Nat.le_trans (List.length_filter_le _ _) (by rw [List.length_range]; exact Nat.le_refl _)
theorem outS_book {m : Nat} {gs ks : List Int} (hb : BookOk m gs) {n : Nat} (hn : n ≤ gs.length) : BookOk m (outS gs ks n) := fun x hx => by
  unfold outS at hx
  obtain ⟨k, hk, rfl⟩ := List.mem_map.mp hx
  have := List.mem_range.mp (List.mem_filter.mp hk).1
  obtain ⟨g, e, hg⟩ := book_at hb (k := k) (by omega)
  rw [e]; omega
theorem take_getD (gs : List Int) : ∀ n, n ≤ gs.length → (List.range n).map (fun k => gs.getD k 0) = gs.take n
  | 0, _ => rfl
  | n + 1, h => by
    rw [List.range_succ, List.map_append, take_getD gs n (by omega), List.take_add_one, getD_some (by omega)]; rfl
theorem outS_none (gs : List Int) : outS gs [] gs.length = gs := by
  unfold outS
  rw [List.filter_eq_self.mpr (fun k _ => by simp), take_getD gs gs.length (Nat.le_refl _), List.take_length]
/-- with less left out more is left -/
theorem outS_sub {gs ks js : List Int} (h : ∀ x ∈ js, x ∈ ks) (n : Nat) : (outS gs ks n).Sublist (outS gs js n) := by
  unfold outS
  refine List.Sublist.map _ ?_
  have e : (List.range n).filter (fun (k : Nat) => !decide ((k : Int) ∈ ks)) = ((List.range n).filter fun (k : Nat) => !decide ((k : Int) ∈ js)).filter fun (k : Nat) => !decide ((k : Int) ∈ ks) := by
    rw [List.filter_filter]
    refine List.filter_congr fun k _ => ?_
    by_cases a : (k : Int) ∈ ks
    · simp [a]
    · have : ¬ (k : Int) ∈ js := fun z => a (h _ z)
      simp [a, this]
  rw [e]
  exact List.filter_sublist
theorem nat_sub {a b : List Int} (h : a.Sublist b) : (nat a).Sublist (nat b) := by
  unfold nat; exact h.map _
theorem far_out {m : Nat} {A G : List Int} (h1 : 1 ≤ m) (h9 : m ≤ 9) (hA : BookOk m A) (hG : BookOk m G) (hs : A.Sublist G) : more (farL (row0 m) A) (farL (row0 m) G) = [] := far_sub h1 h9 hA hG (nat_sub hs)
end MM
namespace MM
open PySem PySem.Spec PyProof.Rows L2 GxR
/-! ### name = {k: v for target in iter} on one line -/
theorem dcT_core {X : Cx} {pins : List (Addr × Obj)} {s : Shared} {σ : L2.St} {H : Hp} {Q : VK} {kx vx tg iter : Expr} {ifs : List Expr} {scope : Scope} {own : List (Str × Nat)} {pos pos' : Pos} {wi : TI} {g : TG} {tt : TT} {tk tv : TE} {use : Option (Value → Sem Unit)} {Qf : Value → Shared → Prop} (hu : X.A.units + 1 < cLine) (hc : X.calm = true) (hN : X.N.Nodup) (I0 : Inv X pins σ H s) (hi : PI X tg iter wi) (ok : BlkOk X.N X.env.scope scope own)
    (hg : ∀ s H C cl fp, PG (X.blk s H scope (compEnvC scope cl C X.env) fp) tg g) (ht : ∀ s H C cl fp, PTs (X.blk s H scope (compEnvC scope cl C X.env) fp) ifs tt)
    (hk : ∀ s H C cl fp, PE (X.blk s H scope (compEnvC scope cl C X.env) fp) kx tk) (hv : ∀ s H C cl fp, PE (X.blk s H scope (compEnvC scope cl C X.env) fp) vx tv)
    (hs : ∀ x, foldedSetIterable iter X.env x = pure x) (asked : tDcT wi g tt tk tv (own.map (·.2)) σ H Q)
    (hRR : ∀ D C s' m H', Inv X pins σ H' s' → Q (.ref D) H' → s'.heap.Ns C m → FpOk X pins H' C → compPost (model X.prog X.w) X.A X.xe use Qf (.ref D) C (.ok .next) s') :
    wpAny (model X.prog X.w) X.A (comprehension (.DictComp kx vx [⟨tg, iter, ifs, 0⟩] scope pos) scope X.env pos' newDict false (eval iter X.env) use) Qf X.xe s := by
  have freeOk : ∀ y ∈ scope.names, y.2 = .free → ∃ c, X.env.cells.lookup y.1 = some c := fun y hy e => I0.ok.has _ ((ok.free y hy e).imp id id)
  apply wpAny_comprehension_free (use := use) rfl hs (closure_ok freeOk) ok.kind (fun y hy e => by rw [ok.uniq y hy, e])
  refine thn (hi.run pins s σ H _ I0 asked) fun src sA iterd => thn iterd fun itv sB got => ?_
  obtain ⟨it, fp, tn, J, Ha, rfl, IB, T, stB, foot, ask⟩ := got
  refine wpAny_newObj_type ?_
  refine newEnv_comp ?_
  -- the new dict
  obtain ⟨D, hD⟩ : ∃ D, sB.heap.objs.size = D := ⟨_, rfl⟩
  rw [hD]
  obtain ⟨Go, ⟨first, go0⟩, turns⟩ := ask D (IB.hok.fresh (Nat.le_of_eq hD))
  obtain ⟨sC, hsC⟩ : ∃ sC : Shared, sC = { sB with heap := sB.heap.push { cls := .type "dict", data := .dict #[] } } := ⟨_, rfl⟩
  have heapC : sC.heap = sB.heap.push { cls := .type "dict", data := .dict #[] } := by rw [hsC]
  have IC : Inv X pins σ (upd Ha D (.dT [])) sC := by
    rw [hsC, ← hD]
    exact IB.laid (t' := sB.toks) (fun b o e => Heap.get?_push_of_some _ e) (Nat.le_refl _) (dt_empty sB.heap IB.big)
  have inC : ∀ b o, sB.heap.get? b = some o → sC.heap.get? b = some o := fun b o e => by rw [heapC]; exact Heap.get?_push_of_some _ e
  have footC : ∀ b ∈ fp, FpOk X pins (upd Ha D (.dT [])) b ∧ b < sC.heap.objs.size := by
    intro b hb
    obtain ⟨o, eo, _⟩ := T.obj _ _ stB b hb
    have lt : b < sB.heap.objs.size := Heap.lt_size eo
    refine ⟨⟨(upd_ne (show b ≠ D from fun z => Nat.lt_irrefl _ (by rw [← z] at hD; exact hD ▸ lt))).trans (foot b hb).1, (foot b hb).2⟩, ?_⟩
    rw [heapC, Heap.size_push]
    exact Nat.lt_succ_of_lt lt
  have stC : tn 0 sC.heap := T.keep _ _ _ stB fun b _ o => inC b o
  -- its block
  have started := block_start IC ok hN footC
  obtain ⟨cl, hcl⟩ : ∃ cl, cellsFrom (sC.heap.objs.size + 1) scope.names (cloFrom X.env.cells scope.names []) = cl := ⟨_, rfl⟩
  have goal' : codeAny (model X.prog X.w) X.A (.compStart (.DictComp kx vx [⟨tg, iter, ifs, 0⟩] scope pos) 0 (.ref it) (.ref D) (compEnvC scope cl sC.heap.objs.size X.env)) (compPost (model X.prog X.w) X.A X.xe use Qf (.ref D) sC.heap.objs.size)
      { sC with heap := pushCells (sC.heap.push { cls := .type "dict", data := .dict #[] }) scope.names } := by
    rw [hcl] at started
    obtain ⟨sD, hsD⟩ : ∃ sD : Shared, sD = { sC with heap := pushCells (sC.heap.push { cls := .type "dict", data := .dict #[] }) scope.names } := ⟨_, rfl⟩
    rw [← hsD] at started ⊢
    have stD : tn 0 sD.heap := T.keep _ _ _ stC fun b _ o e => by rw [hsD]; exact pushCells_keeps _ _ _ _ (Heap.get?_push_of_some _ e)
    have targetP := hg sC (upd Ha D (.dT [])) sC.heap.objs.size cl fp
    have testsP := ht sC (upd Ha D (.dT [])) sC.heap.objs.size cl fp
    have keyP := hk sC (upd Ha D (.dT [])) sC.heap.objs.size cl fp
    have valP := hv sC (upd Ha D (.dT [])) sC.heap.objs.size cl fp
    obtain ⟨ce, hce⟩ : ∃ ce, compEnvC scope cl sC.heap.objs.size X.env = ce := ⟨_, rfl⟩
    have locC : ce.locals = sC.heap.objs.size := by rw [← hce]; rfl
    rw [hce] at started targetP testsP keyP valP ⊢
    obtain ⟨Hn, hHn⟩ : ∃ Hn, upd Ha D (.dT []) = Hn := ⟨_, rfl⟩
    rw [hHn] at IC started targetP testsP keyP valP go0 footC
    have still : ∀ {τ : L2.St} {G : Hp} {t : Shared}, Inv (X.blk sC Hn scope ce fp) [] τ G t → (∀ b ∈ fp, G b = none) → ∀ b ∈ fp, FpOk (X.blk sC Hn scope ce fp) [] G b := by
      intro τ G t K0 none b hb
      have fr := K0.ok.exf b hb
      exact ⟨none b hb, fr.1, K0.ok.exfs b hb, .inl hb, fun x c => fr.2 x c, fun p hp => by simp at hp⟩
    have looped : codeAny (model X.prog X.w) X.A (.compLoop (.DictComp kx vx [⟨tg, iter, ifs, 0⟩] scope pos) 0 (.ref it) (.ref D) ce) (compPost (model X.prog X.w) X.A X.xe use Qf (.ref D) sC.heap.objs.size) sD := by
      apply compLoop_anyD (fun left t => ∃ i G, Inv (X.blk sC Hn scope ce fp) [] (wipe σ (own.map (·.2))) G t ∧ tn i t.heap ∧ (∀ b ∈ fp, G b = none) ∧ Go i left G) (n := first) (h := ⟨0, Hn, started, stD, fun b hb => (footC b hb).1.1, go0⟩)
      rintro left t ⟨i, G, IG, stG, noG, goG⟩
      cases turns i left G goG with
      | inl ends =>
        refine thnF (T.done (X.blk sC Hn scope ce fp) rfl rfl rfl hc i [] t _ G (fun _ _ => False) IG (still IG noG) stG ends.1) fun r t1 ⟨er, IT⟩ => ?_
        rw [er]
        have back : Inv X pins σ G t1 := IC.call' (ch := fp) IT.os IT.base IT.hok IT.bare fun b hb => by
          have f := (footC b hb).1.2
          exact ⟨f.2.2.1, f.1, f.2.2.2.1, f.2.2.2.2⟩
        have unseen : G sC.heap.objs.size = none := locC ▸ (show G ce.locals = none from IT.free)
        obtain ⟨m, hm, _⟩ := IT.loc
        have hm : t1.heap.Ns sC.heap.objs.size m := locC ▸ (show t1.heap.Ns ce.locals m from hm)
        exact hRR D sC.heap.objs.size t1 m G back ends.2 hm (IC.fpOk (H' := G) (Nat.le_refl _) unseen)
      | inr goes =>
        obtain ⟨on, Af, less, turn⟩ := goes
        refine thnF (T.item (X.blk sC Hn scope ce fp) rfl rfl rfl hc i [] t _ G (fun _ _ => False) IG (still IG noG) stG on) fun r t1 ⟨u, er, letGo⟩ => ?_
        rw [er]
        refine thnF letGo fun _ t2 ⟨x, G2, I2, rx, yx, st2, no2⟩ => ?_
        have held := I2.pinned (still I2 no2) (T.obj _ _ st2)
        -- what a turn leaves is where the next one begins
        have next : ∀ {τ : L2.St} {G' : Hp} {t' : Shared}, wipe τ (own.map (·.2)) = wipe σ (own.map (·.2)) → Inv (X.blk sC Hn scope ce fp) ([] ++ pinsAt fp t2.heap) τ G' t' → Af G' →
            ∃ m, m < left ∧ ∃ i G, Inv (X.blk sC Hn scope ce fp) [] (wipe σ (own.map (·.2))) G t' ∧ tn i t'.heap ∧ (∀ b ∈ fp, G b = none) ∧ Go i m G := by
          intro τ G' t' ew I' af
          obtain ⟨m, lt, go'⟩ := less G' af
          have pinned : ∀ b ∈ fp, ∀ o, t2.heap.get? b = some o → t'.heap.get? b = some o ∧ G' b = none := by
            intro b hb o e
            have both := I'.pin (b, o) (List.mem_append_right _ (List.mem_append_right _ (mem_pinsAt hb e)))
            exact ⟨both.1, both.2.1⟩
          refine ⟨m, lt, i + 1, G', (I'.unpinned (pins := [])).weak (by rw [← ew, wipe_length]) (fun j v e => (wipe_some (ew ▸ e)).1), T.keep _ _ _ st2 fun b hb o e => (pinned b hb o e).1, ?_, go'⟩
          intro b hb
          obtain ⟨o, eo, _⟩ := T.obj _ _ st2 b hb
          exact (pinned b hb o eo).2
        refine thnF (targetP.run _ t2 _ G2 x u _ held rx (turn x G2 yx)) fun _ t3 ⟨τ, G3, I3, ew, ask3⟩ => thnF (testsP.run _ t3 τ G3 _ I3 ask3) fun c t4 ⟨G4, I4, ask4⟩ => ?_
        cases c with
        | true =>
          rw [if_pos rfl] at ask4
          rw [if_pos rfl]
          refine thnF (keyP.run _ t4 τ G4 _ I4 ask4) fun ku t5 ⟨yk, G5, I5, rk5, ask5⟩ => thnF (valP.run _ t5 τ G5 _ I5 ask5) fun vu t6 ⟨yv, G6, I6, rv6, ent, kk, q, eyk, eq, eD, hz, af⟩ => ?_
          rw [eyk] at rk5
          cases (show ku = Value.ref q from rk5)
          exact d_storeT (Y := X.blk sC Hn scope ce fp) hu I6 eD eq hz rv6 fun t7 I7 => next ew I7 af
        | false =>
          rw [if_neg (fun z => nomatch z)] at ask4
          rw [if_neg (fun z => nomatch z)]
          exact next ew I4 ask4
    exact codeAny_compStart_dict looped (T.self X.A 0 _ _ _ stD looped)
  rw [← hcl] at goal'
  subst hsC
  exact goal'
theorem sw_trueD {kx vx : Expr} {gs : List Comprehension} {scope : Scope} {pos py : Pos} {y : Str} {l : Nat} {env : Env} (hk : env.scope.kind = .function) (hy : env.scope.names.lookup y = some .local) (hl : (py.line == pos.line) = true)
    (ha : (scope.names.any fun (n, k) => n == y && (k == .local || k == .cell)) = false) : swapsWith (.DictComp kx vx gs scope pos) (some (.Name y py)) l env = pure true := by
  have ky : env.kindOf y = some .local := hy
  have hb : env.blockKind = .function := by unfold Env.blockKind; rw [hk]; rfl
  unfold swapsWith
  simp only [hb, ky, ha, Expr.pos, hl]
  rfl
theorem ps_setDcT {X : Cx} {i : Nat} {y : Str} {py : Pos} {kx vx tg iter : Expr} {ifs : List Expr} {scope : Scope} {own : List (Str × Nat)} {pos spos : Pos} {wi : TI} {g : TG} {tt : TT} {tk tv : TE} (hu : X.A.units + 1 < cLine) (hc : X.calm = true) (hN : X.N.Nodup) (hy : X.N[i]? = some y) (hyl : X.env.scope.names.lookup y = some .local)
    (hsw : swapsWith (.DictComp kx vx [⟨tg, iter, ifs, 0⟩] scope pos) (some (.Name y py)) spos.line X.env = pure true) (hi : PI X tg iter wi) (ok : BlkOk X.N X.env.scope scope own)
    (hg : ∀ s H C cl fp, PG (X.blk s H scope (compEnvC scope cl C X.env) fp) tg g) (ht : ∀ s H C cl fp, PTs (X.blk s H scope (compEnvC scope cl C X.env) fp) ifs tt)
    (hk : ∀ s H C cl fp, PE (X.blk s H scope (compEnvC scope cl C X.env) fp) kx tk) (hv : ∀ s H C cl fp, PE (X.blk s H scope (compEnvC scope cl C X.env) fp) vx tv)
    (hs : ∀ x, foldedSetIterable iter X.env x = pure x := by intro _; rfl) :
    PS X (.Assign [.Name y py] (.DictComp kx vx [⟨tg, iter, ifs, 0⟩] scope pos) spos) (tAsg (tDcT wi g tt tk tv (own.map (·.2))) (gName i)) := by
  refine ⟨fun pins s σ H D I h => ?_⟩
  rw [exec_Assign_Name_used _ _ _ _ hsw]
  refine wpAny_bind (wpAny_standAt (wpAny_bind ?_))
  show wpAny _ X.A (do let _ ← comprehension (.DictComp kx vx [⟨tg, iter, ifs, 0⟩] scope pos) scope X.env (firstIterPos [⟨tg, iter, ifs, 0⟩] pos) newDict false (eval iter X.env) (some (assign (.Name y py) X.env))) _ _ s
  have h : tDcT wi g tt tk tv (own.map (·.2)) σ H (fun x H1 => gName i x σ H1 D.nx) := h
  refine wpAny_bind (thn (dcT_core (Qf := fun _ s' => SP X pins D .next s') hu hc hN I hi ok hg ht hk hv hs h fun L C s' m H' I' q hn f => ?_) fun _ s' hq => wpAny_pure (wpAny_pure hq))
  show wpAny _ _ (assign (.Name y py) X.env (.ref L)) _ _ _
  refine wpAny_assign_Name (store_ok2 (v := V.ref L) I' hN hy (.inl hyl) rfl (fun s2 I2 ⟨a, sb, ha⟩ => ?_) (.inr hyl))
  obtain ⟨f0, f1, f2, f3, f4, f5⟩ := f
  have haC : C ≠ a := by
    rcases ha with z | z
    · rw [z]; exact f1
    · exact fun e => f4 y a z e.symm
  refine ⟨m, hn.sameBut sb haC, fun h3 sb3 => ?_⟩
  exact ⟨_, H', I2.turned (t' := s2.toks) (fun b o hb e => (sb3.2 b hb).trans e) f0 f1 f3 f4 f5, q⟩
end MM
namespace MM
open PySem PySem.Spec PyProof.Rows L2 GxR
/-! ### dicts whose keys are any tuples of whole numbers and texts, also those known to have no dict of their own -/
theorem key_ofS {X : Cx} {pins : List (Addr × Obj)} {σ : L2.St} {H : Hp} {s : Shared} {a : Addr} {ks : List Key} (I : Inv X pins σ H s) (e : SqT X.K H a (ks.map kV)) : (tupleKind (mixKind X.prog X.w)).is s.heap ks a := by
  obtain ⟨its, r, ⟨o, h1, h2, n, h3⟩, _⟩ := I.tuple e
  exact ⟨o, its.toArray, n, h1, h2, h3, by simpa using items_are r⟩
abbrev KTn : List (List Key × Addr × V) → List (List Key × Addr × Value) → Prop := Paired fun p q => p.1 = q.1 ∧ p.2.1 = q.2.1 ∧ RelV p.2.2 q.2.2
def kvX (xs : List (List Key × Addr × V)) : List (List Key × V) := xs.map fun p => (p.1, p.2.2)
def putX (xs : List (List Key × Addr × V)) (k : List Key) (b : Addr) (v : V) : List (List Key × Addr × V) :=
  if (kvX xs).any (fun kv => decide (kv.1 = k)) then xs.map (fun p => if p.1 = k then (p.1, p.2.1, v) else p) else xs ++ [(k, b, v)]
theorem kvX_put (xs : List (List Key × Addr × V)) (k : List Key) (b : Addr) (v : V) : kvX (putX xs k b v) = putK (kvX xs) k v := by
  unfold putX putK
  split
  · unfold kvX
    rw [List.map_map, List.map_map]
    refine List.map_congr_left fun p _ => ?_
    show ((if p.1 = k then (p.1, p.2.1, v) else p).1, (if p.1 = k then (p.1, p.2.1, v) else p).2.2) = if p.1 = k then (p.1, v) else (p.1, p.2.2)
    split <;> rfl
  · unfold kvX
    rw [List.map_append]; rfl
theorem mem_putX {xs : List (List Key × Addr × V)} {k : List Key} {b : Addr} {v : V} {p : List Key × Addr × V} (h : p ∈ putX xs k b v) : (∃ q ∈ xs, p.1 = q.1 ∧ p.2.1 = q.2.1) ∨ (p.1 = k ∧ p.2.1 = b) := by
  unfold putX at h
  split at h
  · obtain ⟨q, hq, e⟩ := List.mem_map.mp h
    refine .inl ⟨q, hq, ?_⟩
    split at e <;> (rw [← e]; exact ⟨rfl, rfl⟩)
  · rcases List.mem_append.mp h with h | h
    · exact .inl ⟨p, h, rfl, rfl⟩
    · rw [List.mem_singleton.mp h]; exact .inr ⟨rfl, rfl⟩
theorem KTn.val {xs : List (List Key × Addr × V)} {ys : List (List Key × Addr × Value)} (r : KTn xs ys) (k : List Key) : RelO (valV (kvX xs) k) ((atKey ys k).map (·.2)) := by
  induction r with
  | nil => exact True.intro
  | @cons p q ps qs h t ih =>
    obtain ⟨h1, _, h2⟩ := h
    show RelO (valV ((p.1, p.2.2) :: kvX ps) k) _
    by_cases e : p.1 = k
    · have e' : q.1 = k := h1.symm.trans e
      have b : atKey (q :: qs) k = some q.2 := by simp [atKey, List.find?_cons, e']
      rw [valV_pos e, b]; exact h2
    · have e' : ¬ q.1 = k := fun z => e (h1.trans z)
      have b : atKey (q :: qs) k = atKey qs k := by simp [atKey, List.find?_cons, e']
      rw [valV_neg e, b]; exact ih
theorem KTn.repl {xs : List (List Key × Addr × V)} {ys : List (List Key × Addr × Value)} (r : KTn xs ys) (k : List Key) {v : V} {u : Value} (rv : RelV v u) :
    KTn (xs.map fun p => if p.1 = k then (p.1, p.2.1, v) else p) (ys.map (putAt k u)) := by
  induction r with
  | nil => exact .nil
  | @cons p q ps qs h t ih =>
    rw [List.map_cons, List.map_cons]
    refine .cons ?_ ih
    obtain ⟨h1, h2, h3⟩ := h
    unfold putAt
    by_cases e : p.1 = k
    · rw [if_pos e, if_pos (h1.symm.trans e)]; exact ⟨h1, h2, rv⟩
    · rw [if_neg e, if_neg (fun z => e (h1.trans z))]; exact ⟨h1, h2, h3⟩
theorem KTn.put {xs : List (List Key × Addr × V)} {ys : List (List Key × Addr × Value)} (r : KTn xs ys) (k : List Key) {b : Addr} {v : V} {u : Value} (rv : RelV v u) : KTn (putX xs k b v) (storedH ys k b u) := by
  have e : ((kvX xs).any fun kv => decide (kv.1 = k)) = (atKey ys k).isSome := by
    rw [valV_any, (r.val k).isSome_eq, Option.isSome_map]
  unfold putX storedH
  rw [e]
  by_cases q : (atKey ys k).isSome = true
  · rw [if_pos q, if_pos q]; exact r.repl k rv
  · rw [if_neg q, if_neg q]; exact Paired.snoc r ⟨rfl, rfl, rv⟩
/-- the dict's own object -/
def DTp (P : Program) (w : World) (d : Addr) (xs : List (List Key × Addr × V)) (h : Heap) : Prop := xs.length ≤ sizeLine ∧ (d == sysModules) = false ∧ ∃ ys, KTn xs ys ∧
  ∃ o es ep, h.get? d = some o ∧ o.ExactDict ∧ o.data = .dict es ep ∧ es.toList = ys.map (entryOfKey (tupleKind (mixKind P w))) ∧ (ys.map (·.1)).Nodup
theorem dtp_ok {P : Program} {w : World} {H : Hp} {h : Heap} {d : Addr} {xs : List (List Key × Addr × V)} (R : DTp P w d xs h) : ObjOk P w H h d (.ext (DTp P w d xs)) := by
  obtain ⟨z, y, ys, r, o, es, ep, ho, q⟩ := R
  refine ⟨⟨z, y, ys, r, o, es, ep, ho, q⟩, ⟨o, ho⟩, fun h1 h2 p k => ?_⟩
  obtain ⟨z, y, ys, r, o, es, ep, ho, q⟩ := p
  exact ⟨z, y, ys, r, o, es, ep, k _ ho, q⟩
/-- d is such a dict -/
def DT1 (K : PySem.W.Frag) (P : Program) (w : World) (H : Hp) (d : Addr) (kvs : List (List Key × V)) : Prop := ∃ xs, kvX xs = kvs ∧ H d = some (.ext (DTp P w d xs)) ∧ ∀ p ∈ xs, SqT K H p.2.1 (p.1.map kV)
theorem DT1.ex {K : PySem.W.Frag} {P : Program} {w : World} {B : Addr → Prop} {H H' : Hp} {d : Addr} {kvs : List (List Key × V)} (D : DT1 K P w H d kvs) (e : ExB B H H') (n : ¬ B d) : DT1 K P w H' d kvs := by
  obtain ⟨xs, e1, e2, e3⟩ := D
  exact ⟨xs, e1, e.keep _ _ e2 (fun _ z => nomatch z) n, fun p hp => e.sqt (e3 p hp)⟩
theorem ex_setX {H : Hp} {p : Addr} {φ : Heap → Prop} {o : HO} (h : H p = some (.ext φ)) : ExB (fun a => a = p) H (upd H p o) :=
  ⟨fun a o q f => by rw [upd_ne (fun z => by rw [z, h] at q; cases q; exact f)]; exact q, fun a o q _ n => by rw [upd_ne n]; exact q, fun P ps q => ⟨ps, by rw [upd_ne (fun z => by rw [z, h] at q; cases q)]; exact q, id⟩,
    fun a q z => by by_cases e : a = p; (rw [e, upd_same] at z; cases z); rw [upd_ne e] at z; exact q z⟩
section
variable {X : Cx} {pins : List (Addr × Obj)} {σ : L2.St} {H : Hp} {s : Shared} {d b : Addr} {kvs : List (List Key × V)} {k : List Key} {v : V} {u r : Value} {A : Around} {E : Value → Shared → Prop}
theorem dt1_full (I : Inv X pins σ H s) (D : DT1 X.K X.prog X.w H d kvs) : ∃ xs ys, kvX xs = kvs ∧ H d = some (.ext (DTp X.prog X.w d xs)) ∧ (∀ p ∈ xs, SqT X.K H p.2.1 (p.1.map kV)) ∧ xs.length ≤ sizeLine ∧ (d == sysModules) = false ∧ KTn xs ys ∧ s.heap.DictOfH (tupleKind (mixKind X.prog X.w)) d ys := by
  obtain ⟨xs, e1, e2, e3⟩ := D
  obtain ⟨⟨z, y, ys, rel, o, es, ep, h1, h2, h3, h4, h5⟩, _, _⟩ := (show ObjOk X.prog X.w H s.heap d (.ext (DTp X.prog X.w d xs)) from I.hok d _ e2)
  refine ⟨xs, ys, e1, e2, e3, z, y, rel, o, es, ep, h1, h2, h3, h4, fun x hx => ?_, h5⟩
  have all : ∀ {l : List (List Key × Addr × V)} {m : List (List Key × Addr × Value)}, KTn l m → (∀ p ∈ l, SqT X.K H p.2.1 (p.1.map kV)) → ∀ x ∈ m, (tupleKind (mixKind X.prog X.w)).is s.heap x.1 x.2.1 := by
    intro l m q
    induction q with
    | nil => intro _ x hx; exact nomatch hx
    | @cons p q ps qs hq t ih =>
      intro hl x hx
      rcases List.mem_cons.mp hx with e | hx
      · subst e
        exact key_ofS I (by rw [← hq.1, ← hq.2.1]; exact hl p List.mem_cons_self)
      · exact ih (fun p hp => hl p (List.mem_cons_of_mem _ hp)) x hx
  exact all rel e3 x hx
theorem d_notIn1 {Q : Value → Shared → Prop} (hu : A.units + 1 < cLine) (I : Inv X pins σ H s) (D : DT1 X.K X.prog X.w H d kvs) (hk : SqT X.K H b (k.map kV)) (h : ∀ s', Inv X pins σ H s' → Q (.bool (!(valV kvs k).isSome)) s') :
    wpAny (model X.prog X.w) A (compareOp .NotIn (.ref b) (.ref d)) Q E s := by
  obtain ⟨xs, ys, e1, e2, e3, hz, hd, rel, dd⟩ := dt1_full I D
  refine wpAny_notIn_heap (tupleKind_room_in1 hu) (key_ofS I hk) hd dd ?_
  have q := (rel.val k).isSome_eq
  rw [Option.isSome_map, e1] at q
  rw [← q]
  exact h _ (I.tok _)
theorem d_getItem1 {Q : Value → Shared → Prop} (hu : A.units + 1 < cLine) (I : Inv X pins σ H s) (D : DT1 X.K X.prog X.w H d kvs) (hk : SqT X.K H b (k.map kV)) (hv : valV kvs k = some v) (h : ∀ w' s', Inv X pins σ H s' → RelV v w' → Q w' s') :
    wpAny (model X.prog X.w) A (getItem (.ref d) (.ref b)) Q E s := by
  obtain ⟨xs, ys, e1, e2, e3, hz, hd, rel, dd⟩ := dt1_full I D
  obtain ⟨w', hw, rw'⟩ := RelO.some_of (v := v) (o := (atKey ys k).map (·.2)) (by rw [← hv, ← e1]; exact rel.val k)
  obtain ⟨p, hp, hp2⟩ := Option.map_eq_some_iff.mp hw
  refine wpAny_getItem_heap (tupleKind_room_in1 hu) (key_ofS I hk) dd hp ?_
  rw [hp2]
  exact h w' _ (I.tok _) rw'
theorem d_setItem1 {Q : Unit → Shared → Prop} (hu : A.units + 1 < cLine) (I : Inv X pins σ H s) (D : DT1 X.K X.prog X.w H d kvs) (hk : SqT X.K H b (k.map kV)) (rv : RelV v r) (hl : kvs.length < sizeLine)
    (h : ∀ H' s', Inv X pins σ H' s' → ExB (fun a => a = d) H H' → DT1 X.K X.prog X.w H' d (putK kvs k v) → Q () s') :
    wpAny (model X.prog X.w) A (setItem (.ref d) (.ref b) r) Q E s := by
  obtain ⟨xs, ys, e1, e2, e3, hz, hd, rel, dd⟩ := dt1_full I D
  have hz2 : ys.length ≤ sizeLine := by rw [← Paired.length rel]; exact hz
  refine wpAny_setItem_heap (hsz := hz2) (tupleKind_room_in1 hu) (key_ofS I hk) dd fun h' dd' hs => ?_
  obtain ⟨q, es, ep, hq, h2, h3, h4, _, h5⟩ := dd'
  have hpl : (putX xs k b v).length ≤ sizeLine := by
    have h1 : (kvX (putX xs k b v)).length = (putX xs k b v).length := List.length_map ..
    have h2 := length_putK kvs k v
    rw [kvX_put, e1] at h1
    omega
  have new : DTp X.prog X.w d (putX xs k b v) h' := ⟨hpl, hd, _, rel.put k rv, q, es, ep, hq, h2, h3, h4, h5⟩
  have x := ex_setX (o := .ext (DTp X.prog X.w d (putX xs k b v))) e2
  refine h _ _ (d_write (t' := s.toks + (tupleKind (mixKind X.prog X.w)).draws k) I (by rw [e2]; exact True.intro) hs ⟨q, hq⟩ (dtp_ok new)) x ⟨putX xs k b v, by rw [kvX_put, e1], upd_same, fun p hp => ?_⟩
  rcases mem_putX hp with ⟨p', hp', a1, a2⟩ | ⟨a1, a2⟩
  · rw [a1, a2]; exact x.sqt (e3 p' hp')
  · rw [a1, a2]; exact x.sqt hk
end
def tDNotIn1 (K : PySem.W.Frag) (P : Program) (w : World) (ty td : TE) : TE := fun σ H Q => ty σ H fun y H1 => td σ H1 fun x H2 => ∃ d kvs b k, x = .ref d ∧ y = .ref b ∧ DT1 K P w H2 d kvs ∧ SqT K H2 b (k.map kV) ∧ Q (.bl (!(valV kvs k).isSome)) H2
def tDGetX (K : PySem.W.Frag) (P : Program) (w : World) (td ty : TE) : TE := fun σ H Q => td σ H fun x H1 => ty σ H1 fun y H2 => ∃ d kvs b k v, x = .ref d ∧ y = .ref b ∧ DT1 K P w H2 d kvs ∧ SqT K H2 b (k.map kV) ∧ valV kvs k = some v ∧ Q v H2
def sDPut1 (K : PySem.W.Frag) (P : Program) (w : World) (td ty tv : TE) : TS := fun D σ H => tv σ H fun v H1 => td σ H1 fun x H2 => ty σ H2 fun y H3 => ∃ d kvs b k, x = .ref d ∧ y = .ref b ∧ DT1 K P w H3 d kvs ∧ SqT K H3 b (k.map kV) ∧ kvs.length < sizeLine ∧
  ∀ H4, ExB (fun a => a = d) H3 H4 → DT1 K P w H4 d (putK kvs k v) → D.nx σ H4
def tDNew1 (K : PySem.W.Frag) (P : Program) (w : World) : TE := fun _ H Q => ∀ p H', H p = none → Ex H H' → DT1 K P w H' p [] → Q (.ref p) H'
section
variable {X : Cx} {K : PySem.W.Frag} {P : Program} {w : World} {o i value : Expr} {pos pos' : Pos} {td ty tv : TE}
theorem pc_dnotin1 (hK : X.K = K) (hP : X.prog = P) (hw : X.w = w) (hu : X.A.units + 1 < cLine) (hi : PE X i ty) (ho : PE X o td) : PC X .NotIn i o (tDNotIn1 K P w ty td) := by
  subst hK hP hw
  refine ⟨fun pins s σ H Q I h => ?_⟩
  refine thn (hi.run pins s σ H _ I h) fun iv s1 ⟨y, H1, I1, ry, q1⟩ => thn (ho.run pins s1 σ H1 _ I1 q1) fun u s2 ⟨x, H2, I2, rx, d, kvs, b, k, ex, ey, D, hk, q2⟩ => ?_
  subst ex ey
  obtain rfl : u = Value.ref d := rx
  obtain rfl : iv = Value.ref b := ry
  exact d_notIn1 hu I2 D hk fun s3 I3 => ⟨.bl _, H2, I3, rfl, q2⟩
theorem pe_dget1X (hK : X.K = K) (hP : X.prog = P) (hw : X.w = w) (hu : X.A.units + 1 < cLine) (ho : PE X o td) (hi : PE X i ty) (hs : NoSl i) : PE X (.Subscript o i pos) (tDGetX K P w td ty) := by
  subst hK hP hw
  refine ⟨fun pins s σ H Q I h => ?_⟩
  refine subD_of PySem.F.slot_dict_getitem.lookup hs (thn (ho.run pins s σ H _ I h) fun u s1 ⟨x, H1, I1, rx, q1⟩ => thn (hi.run pins s1 σ H1 _ I1 q1) fun iv s2 ⟨y, H2, I2, ry, d, kvs, b, k, v, ex, ey, D, hk, hv, q2⟩ => ?_)
  subst ex ey
  obtain rfl : u = Value.ref d := rx
  obtain rfl : iv = Value.ref b := ry
  obtain ⟨xs, ys, _, _, _, _, _, _, dd⟩ := dt1_full I2 D
  exact ⟨dd.typeIs, d_getItem1 hu I2 D hk hv fun w' s3 I3 rw' => ⟨v, H2, I3, rw', q2⟩⟩
theorem ps_dput1 (hK : X.K = K) (hP : X.prog = P) (hw : X.w = w) (hu : X.A.units + 1 < cLine) (ho : PE X o td) (hi : PE X i ty) (hv : PE X value tv) (hs : swapsWith value (some (.Subscript o i pos')) pos.line X.env = pure false) :
    PS X (.Assign [.Subscript o i pos'] value pos) (sDPut1 K P w td ty tv) := by
  subst hK hP hw
  refine ⟨fun pins s σ H D I h => ?_⟩
  refine wpAny_Assign_Subscript (thn (hv.run pins s σ H _ I h) fun r s1 ⟨v, H1, I1, rv, q1⟩ => thn (ho.run pins s1 σ H1 _ I1 q1) fun u s2 ⟨x, H2, I2, rx, q2⟩ => thn (hi.run pins s2 σ H2 _ I2 q2) fun iv s3 ⟨y, H3, I3, ry, d, kvs, b, k, ex, ey, D1, hk, hl, q3⟩ => ?_) hs
  subst ex ey
  obtain rfl : u = Value.ref d := rx
  obtain rfl : iv = Value.ref b := ry
  exact d_setItem1 hu I3 D1 hk rv hl fun H4 s4 I4 x4 D4 => ⟨σ, H4, I4, q3 H4 x4 D4⟩
theorem pe_dnew1 (hK : X.K = K) (hP : X.prog = P) (hw : X.w = w) : PE X (.Dict [] [] pos) (tDNew1 K P w) := by
  subst hK hP hw
  refine ⟨fun pins s σ H Q I h => ?_⟩
  have hf := I.hok.fresh (Nat.le_refl _)
  have new : DTp X.prog X.w s.heap.objs.size [] (s.heap.push { cls := .type "dict", data := .dict #[] }) := ⟨Nat.zero_le _, beq_eq_false_iff_ne.mpr (Ne.symm (Nat.ne_of_lt I.big)), [], .nil, _, #[], 0, Heap.get?_push_size _ rfl, ⟨rfl, rfl, rfl⟩, rfl, rfl, List.nodup_nil⟩
  exact wpAny_Dict_empty ⟨.ref s.heap.objs.size, _, I.laid (a := s.heap.objs.size) (o := .ext (DTp X.prog X.w s.heap.objs.size [])) (t' := s.toks) (fun _ _ q => Heap.get?_push_of_some _ q) (Nat.le_refl _) (dtp_ok new), rfl, h _ _ hf (ex_new hf) ⟨[], rfl, upd_same, fun _ z => nomatch z⟩⟩
/-! #### a dict with rows as keys, read at any such tuple -/
def tDGetS (K : PySem.W.Frag) (td ty : TE) : TE := fun σ H Q => td σ H fun x H1 => ty σ H1 fun y H2 => ∃ d kvs b k v, x = .ref d ∧ y = .ref b ∧ Rd H2 d (.dT kvs) ∧ SqT K H2 b (k.map kV) ∧ valV kvs k = some v ∧ Q v H2
theorem pe_dgetS (hK : X.K = K) (hu : X.A.units + 1 < cLine) (ho : PE X o td) (hi : PE X i ty) (hs : NoSl i) : PE X (.Subscript o i pos) (tDGetS K td ty) := by
  subst hK
  refine ⟨fun pins s σ H Q I h => ?_⟩
  refine subD_of PySem.F.slot_dict_getitem.lookup hs (thn (ho.run pins s σ H _ I h) fun u s1 ⟨x, H1, I1, rx, q1⟩ => thn (hi.run pins s1 σ H1 _ I1 q1) fun iv s2 ⟨y, H2, I2, ry, d, kvs, b, k, v, ex, ey, e, hk, hv, q2⟩ => ?_)
  subst ex ey
  obtain rfl : u = Value.ref d := rx
  obtain rfl : iv = Value.ref b := ry
  obtain ⟨z, hd, xs, rel, dd⟩ := dt_rd I2.hok e
  refine ⟨dd.typeIs, ?_⟩
  obtain ⟨w', hw, rw'⟩ := RelO.some_of (v := v) (o := (atKey xs k).map (·.2)) (by rw [← hv]; exact rel.val k)
  obtain ⟨p, hp, hp2⟩ := Option.map_eq_some_iff.mp hw
  refine wpAny_getItem_heap (tupleKind_room_in1 hu) (key_ofS I2 hk) dd hp ?_
  rw [hp2]
  exact ⟨v, H2, I2.tok _, rw', q2⟩
def tDGet2S (K : PySem.W.Frag) (td ty tx : TE) : TE := fun σ H Q => td σ H fun x H1 => ∃ a, x = .ref a ∧ IsD H1 a ∧ ty σ H1 fun y H2 => tx σ H2 fun z H3 => ∃ kvs b k, y = .ref b ∧ Rd H3 a (.dT kvs) ∧ SqT K H3 b (k.map kV) ∧ Q ((valV kvs k).getD z) H3
theorem pe_dget2S {e f : Expr} {apos cpos : Pos} {tx : TE} (hK : X.K = K) (hu : X.A.units + 1 < cLine) (ho : PE X o td) (he : PE X e ty) (hf : PE X f tx) (m : M2 X o "get" apos e f cpos) : PE X (.Call (.Attribute o "get" apos) [e, f] [] cpos) (tDGet2S K td ty tx) := by
  subst hK
  refine ⟨fun pins s σ H Q I h => ?_⟩
  refine wpAny_Call_method m.base m.few m.line PySem.F.plainAttrs_dict PySem.F.slot_dict_get PySem.F.type_dict_get (thn (ho.run pins s σ H _ I h) fun u s1 ⟨x, H1, I1, rx, a, ex, d, q1⟩ => ?_)
  subst ex
  obtain rfl : u = Value.ref a := rx
  obtain ⟨t1, t2, _⟩ := isD_at I1 d
  refine ⟨t1, t2, ?_⟩
  rw [m.trees]
  refine Calls.callWith_builtin rfl (Calls.evalArgs_plain (Calls.spliced_cons (thn (he.run pins s1 σ H1 _ I1 q1) fun iv s2 ⟨y, H2, I2, ry, q2⟩ =>
    Calls.spliced_cons (thn (hf.run pins s2 σ H2 _ I2 q2) fun fv s3 ⟨z, H3, I3, rz, kvs, b, k, ey, e, hk, q3⟩ => Calls.spliced_nil ?_))))
  subst ey
  obtain rfl : iv = Value.ref b := ry
  obtain ⟨z, hd, xs, rel, dd⟩ := dt_rd I3.hok e
  exact call_meetsIn PySem.F.slot_dict_get dd.typeIs PySem.F.entry_dict_get (PySem.F.args_dict_get_3 _ _ _) (meetsH_dict_get_default (tupleKind (mixKind X.prog X.w)) a b hd fv) ⟨tupleKind_room_in1 hu, k, xs, key_ofS I3 hk, dd, ⟨_, H3, I3.tok _, (rel.val k).getD rz, q3⟩⟩
end
end MM
namespace MM
open PySem PySem.Spec PyProof.Rows L2 GxR
/-! ### d.setdefault(k, x) of a dict with tuples as keys; sum of len over d.values() -/
section
variable {X : Cx} {pins : List (Addr × Obj)} {σ : L2.St} {H : Hp} {s : Shared} {a b : Addr} {r : Value} {d : V} {k : List Key} {A : Around} {E : Value → Shared → Prop}
theorem d_setdT {kvs : List (List Key × V)} {Q : Value → Shared → Prop} (hu : A.units + 1 < cLine) (I : Inv X pins σ H s) (e : H a = some (.dT kvs)) (eb : H b = some (.tup (k.map kV))) (rd : RelV d r) (hl : kvs.length < sizeLine)
    (h1 : ∀ v, valV kvs k = some v → ∀ (w' : Value) (s' : Shared), Inv X pins σ H s' → RelV v w' → Q w' s') (h2 : valV kvs k = none → ∀ (w' : Value) (s' : Shared), Inv X pins σ (upd H a (.dT (putK kvs k d))) s' → RelV d w' → Q w' s') :
    wpAny (model X.prog X.w) A (call (.builtin "dict.setdefault") [.ref a, .ref b, r]) Q E s := by
  obtain ⟨z, hd, xs, rel, dd⟩ := dt_of I.hok e
  have hz : xs.length ≤ sizeLine := by rw [← Paired.length rel]; exact z
  refine call_setdefault_heap (hsz := hz) (tupleKind_room_in1 hu) (key_of I.hok eb) hd dd (fun p hp => ?_) fun hn h' dd' hs => ?_
  · have q := rel.val k
    rw [hp] at q
    cases q0 : valV kvs k with
    | none =>
      rw [q0] at q
      exact (show False from q).elim
    | some v0 =>
      rw [q0] at q
      exact h1 v0 q0 _ _ (I.tok _) q
  · have q := rel.val k
    rw [hn] at q
    cases q0 : valV kvs k with
    | some v0 =>
      rw [q0] at q
      exact (show False from q).elim
    | none =>
      have hl2 : (putK kvs k d).length ≤ sizeLine := by have := length_putK kvs k d; omega
      obtain ⟨o, es, ep, hq, g2, g3, g4, _, g5⟩ := dd'
      refine h2 q0 _ _ (d_write (t' := s.toks + (tupleKind (mixKind X.prog X.w)).draws k) I (by rw [e]; exact True.intro) hs ⟨o, hq⟩ ⟨hl2, hd, _, (rel.put k eb rd).keeps fun c ys ec => ?_, o, es, ep, hq, g2, g3, g4, g5⟩) rd
      rw [upd_ne (ne_of ec e (fun z => nomatch z))]
      exact ec
end
/-- d.setdefault(y, z), y a row -/
def tDSetdT (td ty tx : TE) : TE := fun σ H Q => td σ H fun x H1 => ∃ a, x = .ref a ∧ IsD H1 a ∧ ty σ H1 fun y H2 => tx σ H2 fun z H3 => ∃ (kvs : List (List Key × V)) (k : List Key) (b : Addr), H3 a = some (.dT kvs) ∧ y = .ref b ∧ H3 b = some (.tup (k.map kV)) ∧ kvs.length < sizeLine ∧
  (∀ v, valV kvs k = some v → Q v H3) ∧ (valV kvs k = none → Q z (upd H3 a (.dT (putK kvs k z))))
section
variable {X : Cx} {o e f : Expr} {td ty tx : TE} {apos cpos : Pos}
theorem pe_dsetdT (hu : X.A.units + 1 < cLine) (ho : PE X o td) (he : PE X e ty) (hf : PE X f tx) (m : M2 X o "setdefault" apos e f cpos) : PE X (.Call (.Attribute o "setdefault" apos) [e, f] [] cpos) (tDSetdT td ty tx) := by
  refine ⟨fun pins s σ H Q I h => ?_⟩
  refine wpAny_Call_method m.base m.few m.line PySem.F.plainAttrs_dict PySem.F.slot_dict_setdefault PySem.F.type_dict_setdefault (thn (ho.run pins s σ H _ I h) fun u s1 ⟨x, H1, I1, rx, a, ex, d, q1⟩ => ?_)
  subst ex
  obtain rfl : u = Value.ref a := rx
  obtain ⟨t1, t2, _⟩ := isD_at I1 d
  refine ⟨t1, t2, ?_⟩
  rw [m.trees]
  refine Calls.callWith_builtin rfl (Calls.evalArgs_plain (Calls.spliced_cons (thn (he.run pins s1 σ H1 _ I1 q1) fun iv s2 ⟨y, H2, I2, ry, q2⟩ =>
    Calls.spliced_cons (thn (hf.run pins s2 σ H2 _ I2 q2) fun fv s3 ⟨z, H3, I3, rz, kvs, k, b, ea, ey, eb, hl, q3, q4⟩ => Calls.spliced_nil ?_))))
  subst ey
  obtain rfl : iv = Value.ref b := ry
  exact d_setdT hu I3 ea eb rz hl (fun v hv w' s4 I4 rw' => ⟨v, _, I4, rw', q3 v hv⟩) fun hn w' s4 I4 rw' => ⟨z, _, I4, rw', q4 hn⟩
end
end MM
namespace MM
open PySem PySem.Calls PySem.Spec PyProof.Rows L2 GxR
/-! ### dicts whose keys are rows known to have no dict of their own: looked up, walked, sorted -/
abbrev KXs := List (List Key × Addr × V)
def KeysF (H : Hp) (xs : KXs) : Prop := ∀ p ∈ xs, FTup H p.2.1 (p.1.map kV)
theorem KeysF.ex {B : Addr → Prop} {H H' : Hp} {xs : KXs} (h : KeysF H xs) (e : ExB B H H') : KeysF H' xs := fun p hp => (h p hp).ex e
theorem KeysF.nil {H : Hp} : KeysF H [] := fun _ z => nomatch z
theorem KeysF.put {H : Hp} {xs : KXs} (h : KeysF H xs) {k : List Key} {b : Addr} (hb : FTup H b (k.map kV)) (v : V) : KeysF H (putX xs k b v) := fun p hp => by
  rcases mem_putX hp with ⟨p', hp', a1, a2⟩ | ⟨a1, a2⟩
  · rw [a1, a2]; exact h p' hp'
  · rw [a1, a2]; exact hb
/-- it is such a dict, nothing of it known besides -/
def DFo (P : Program) (w : World) (H : Hp) (d : Addr) (xs : KXs) : Prop := H d = some (.ext (DTp P w d xs)) ∧ KeysF H xs
/-- .. read alone -/
def DFr (P : Program) (w : World) (H : Hp) (d : Addr) (xs : KXs) : Prop := Rd H d (.ext (DTp P w d xs)) ∧ KeysF H xs
theorem DFo.rd {P : Program} {w : World} {H : Hp} {d : Addr} {xs : KXs} (h : DFo P w H d xs) : DFr P w H d xs := ⟨.inl h.1, h.2⟩
theorem DFo.ex {P : Program} {w : World} {B : Addr → Prop} {H H' : Hp} {d : Addr} {xs : KXs} (h : DFo P w H d xs) (e : ExB B H H') (n : ¬ B d) : DFo P w H' d xs := ⟨e.keep _ _ h.1 (fun _ z => nomatch z) n, h.2.ex e⟩
section
variable {X : Cx} {pins : List (Addr × Obj)} {σ : L2.St} {H : Hp} {s : Shared} {d b : Addr} {xs : KXs} {k : List Key} {v : V} {u r : Value} {A : Around} {E : Value → Shared → Prop}
theorem df_full (I : Inv X pins σ H s) (D : DFr X.prog X.w H d xs) : xs.length ≤ sizeLine ∧ (d == sysModules) = false ∧ ∃ ys, KTn xs ys ∧ s.heap.DictOfH (tupleKind (mixKind X.prog X.w)) d ys := by
  obtain ⟨e2, e3⟩ := D
  obtain ⟨⟨z, y, ys, rel, o, es, ep, h1, h2, h3, h4, h5⟩, _, _⟩ := (show ObjOk X.prog X.w H s.heap d (.ext (DTp X.prog X.w d xs)) from e2.ok I.hok)
  refine ⟨z, y, ys, rel, o, es, ep, h1, h2, h3, h4, fun x hx => ?_, h5⟩
  have all : ∀ {l : KXs} {m : List (List Key × Addr × Value)}, KTn l m → KeysF H l → ∀ x ∈ m, (tupleKind (mixKind X.prog X.w)).is s.heap x.1 x.2.1 := by
    intro l m q
    induction q with
    | nil => intro _ x hx; exact nomatch hx
    | @cons p q ps qs hq t ih =>
      intro hl x hx
      rcases List.mem_cons.mp hx with e | hx
      · subst e
        exact key_ofS I (by rw [← hq.1, ← hq.2.1]; exact (hl p List.mem_cons_self).sqt)
      · exact ih (fun p hp => hl p (List.mem_cons_of_mem _ hp)) x hx
  exact all rel e3 x hx
end
def tDNotInF (K : PySem.W.Frag) (P : Program) (w : World) (ty td : TE) : TE := fun σ H Q => ty σ H fun y H1 => td σ H1 fun x H2 => ∃ d xs b k, x = .ref d ∧ y = .ref b ∧ DFr P w H2 d xs ∧ SqT K H2 b (k.map kV) ∧ Q (.bl (!(valV (kvX xs) k).isSome)) H2
def tDGetFx (K : PySem.W.Frag) (P : Program) (w : World) (td ty : TE) : TE := fun σ H Q => td σ H fun x H1 => ty σ H1 fun y H2 => ∃ d xs b k v, x = .ref d ∧ y = .ref b ∧ DFr P w H2 d xs ∧ SqT K H2 b (k.map kV) ∧ valV (kvX xs) k = some v ∧ Q v H2
def tDGet2F (K : PySem.W.Frag) (P : Program) (w : World) (td ty tx : TE) : TE := fun σ H Q => td σ H fun x H1 => ∃ a xs, x = .ref a ∧ DFr P w H1 a xs ∧ ty σ H1 fun y H2 => tx σ H2 fun z H3 => ∃ b k, y = .ref b ∧ DFr P w H3 a xs ∧ SqT K H3 b (k.map kV) ∧ Q ((valV (kvX xs) k).getD z) H3
def sDPutF (P : Program) (w : World) (td ty tv : TE) : TS := fun D σ H => tv σ H fun v H1 => td σ H1 fun x H2 => ty σ H2 fun y H3 => ∃ d xs b k, x = .ref d ∧ y = .ref b ∧ DFo P w H3 d xs ∧ FTup H3 b (k.map kV) ∧ (kvX xs).length < sizeLine ∧
  ∀ H4, ExB (fun a => a = d) H3 H4 → DFo P w H4 d (putX xs k b v) → D.nx σ H4
def tDNewF (P : Program) (w : World) : TE := fun _ H Q => ∀ p H', H p = none → Ex H H' → DFo P w H' p [] → Q (.ref p) H'
def tDisp1F (P : Program) (w : World) (tk tv : TE) : TE := fun σ H Q => ∀ p H0, H p = none → Ex H H0 → DFo P w H0 p [] → tk σ H0 fun x H1 => tv σ H1 fun y H2 => DFo P w H2 p [] ∧ ∃ (b : Addr) (k : List Key), x = .ref b ∧ FTup H2 b (k.map kV) ∧
  ∀ H3, ExB (fun a => a = p) H2 H3 → DFo P w H3 p (putX [] k b y) → Q (.ref p) H3
section
variable {X : Cx} {K : PySem.W.Frag} {P : Program} {w : World} {o i value : Expr} {pos pos' : Pos} {td ty tv : TE}
theorem pc_dnotinF (hK : X.K = K) (hP : X.prog = P) (hw : X.w = w) (hu : X.A.units + 1 < cLine) (hi : PE X i ty) (ho : PE X o td) : PC X .NotIn i o (tDNotInF K P w ty td) := by
  subst hK hP hw
  refine ⟨fun pins s σ H Q I h => ?_⟩
  refine thn (hi.run pins s σ H _ I h) fun iv s1 ⟨y, H1, I1, ry, q1⟩ => thn (ho.run pins s1 σ H1 _ I1 q1) fun u s2 ⟨x, H2, I2, rx, d, xs, b, k, ex, ey, D, hk, q2⟩ => ?_
  subst ex ey
  obtain rfl : u = Value.ref d := rx
  obtain rfl : iv = Value.ref b := ry
  obtain ⟨hz, hd, ys, rel, dd⟩ := df_full I2 D
  refine wpAny_notIn_heap (tupleKind_room_in1 hu) (key_ofS I2 hk) hd dd ?_
  have q := (rel.val k).isSome_eq
  rw [Option.isSome_map] at q
  rw [← q]
  exact ⟨.bl _, H2, I2.tok _, rfl, q2⟩
theorem pe_dgetFx (hK : X.K = K) (hP : X.prog = P) (hw : X.w = w) (hu : X.A.units + 1 < cLine) (ho : PE X o td) (hi : PE X i ty) (hs : NoSl i) : PE X (.Subscript o i pos) (tDGetFx K P w td ty) := by
  subst hK hP hw
  refine ⟨fun pins s σ H Q I h => ?_⟩
  refine subD_of PySem.F.slot_dict_getitem.lookup hs (thn (ho.run pins s σ H _ I h) fun u s1 ⟨x, H1, I1, rx, q1⟩ => thn (hi.run pins s1 σ H1 _ I1 q1) fun iv s2 ⟨y, H2, I2, ry, d, xs, b, k, v, ex, ey, D, hk, hv, q2⟩ => ?_)
  subst ex ey
  obtain rfl : u = Value.ref d := rx
  obtain rfl : iv = Value.ref b := ry
  obtain ⟨hz, hd, ys, rel, dd⟩ := df_full I2 D
  refine ⟨dd.typeIs, ?_⟩
  obtain ⟨w', hw, rw'⟩ := RelO.some_of (v := v) (o := (atKey ys k).map (·.2)) (by rw [← hv]; exact rel.val k)
  obtain ⟨p, hp, hp2⟩ := Option.map_eq_some_iff.mp hw
  refine wpAny_getItem_heap (tupleKind_room_in1 hu) (key_ofS I2 hk) dd hp ?_
  rw [hp2]
  exact ⟨v, H2, I2.tok _, rw', q2⟩
theorem pe_dget2F {e f : Expr} {apos cpos : Pos} {tx : TE} (hK : X.K = K) (hP : X.prog = P) (hw : X.w = w) (hu : X.A.units + 1 < cLine) (ho : PE X o td) (he : PE X e ty) (hf : PE X f tx) (m : M2 X o "get" apos e f cpos) : PE X (.Call (.Attribute o "get" apos) [e, f] [] cpos) (tDGet2F K P w td ty tx) := by
  subst hK hP hw
  refine ⟨fun pins s σ H Q I h => ?_⟩
  refine wpAny_Call_method m.base m.few m.line PySem.F.plainAttrs_dict PySem.F.slot_dict_get PySem.F.type_dict_get (thn (ho.run pins s σ H _ I h) fun u s1 ⟨x, H1, I1, rx, a, xs, ex, D1, q1⟩ => ?_)
  subst ex
  obtain rfl : u = Value.ref a := rx
  obtain ⟨_, _, ys1, _, dd1⟩ := df_full I1 D1
  refine ⟨dd1.typeIs, fun b q => by cases q; obtain ⟨ob, _, _, h1, h2, _⟩ := dd1; exact ⟨ob, h1, h2.2.1⟩, ?_⟩
  rw [m.trees]
  refine Calls.callWith_builtin rfl (Calls.evalArgs_plain (Calls.spliced_cons (thn (he.run pins s1 σ H1 _ I1 q1) fun iv s2 ⟨y, H2, I2, ry, q2⟩ =>
    Calls.spliced_cons (thn (hf.run pins s2 σ H2 _ I2 q2) fun fv s3 ⟨z, H3, I3, rz, b, k, ey, D3, hk, q3⟩ => Calls.spliced_nil ?_))))
  subst ey
  obtain rfl : iv = Value.ref b := ry
  obtain ⟨_, hd, ys, rel, dd⟩ := df_full I3 D3
  exact call_meetsIn PySem.F.slot_dict_get dd.typeIs PySem.F.entry_dict_get (PySem.F.args_dict_get_3 _ _ _) (meetsH_dict_get_default (tupleKind (mixKind X.prog X.w)) a b hd fv) ⟨tupleKind_room_in1 hu, k, ys, key_ofS I3 hk, dd, ⟨_, H3, I3.tok _, (rel.val k).getD rz, q3⟩⟩
theorem putX_len (xs : KXs) (k : List Key) (b : Addr) (v : V) : (putX xs k b v).length = (putK (kvX xs) k v).length := by
  rw [← kvX_put]; unfold kvX; rw [List.length_map]
theorem kvX_len (xs : KXs) : (kvX xs).length = xs.length := by unfold kvX; rw [List.length_map]
theorem ps_dputF (hP : X.prog = P) (hw : X.w = w) (hu : X.A.units + 1 < cLine) (ho : PE X o td) (hi : PE X i ty) (hv : PE X value tv) (hs : swapsWith value (some (.Subscript o i pos')) pos.line X.env = pure false) :
    PS X (.Assign [.Subscript o i pos'] value pos) (sDPutF P w td ty tv) := by
  subst hP hw
  refine ⟨fun pins s σ H D I h => ?_⟩
  refine wpAny_Assign_Subscript (thn (hv.run pins s σ H _ I h) fun r s1 ⟨v, H1, I1, rv, q1⟩ => thn (ho.run pins s1 σ H1 _ I1 q1) fun u s2 ⟨x, H2, I2, rx, q2⟩ => thn (hi.run pins s2 σ H2 _ I2 q2) fun iv s3 ⟨y, H3, I3, ry, d, xs, b, k, ex, ey, D1, hk, hl, q3⟩ => ?_) hs
  subst ex ey
  obtain rfl : u = Value.ref d := rx
  obtain rfl : iv = Value.ref b := ry
  obtain ⟨hz, hd, ys, rel, dd⟩ := df_full I3 D1.rd
  have hz2 : ys.length ≤ sizeLine := by rw [← Paired.length rel]; exact hz
  refine wpAny_setItem_heap (hsz := hz2) (tupleKind_room_in1 hu) (key_ofS I3 hk.sqt) dd fun h' dd' hs => ?_
  obtain ⟨q, es, ep, hq, h2, h3, h4, _, h5⟩ := dd'
  have hpl : (putX xs k b v).length ≤ sizeLine := by
    have h2 := length_putK (kvX xs) k v
    rw [putX_len]
    omega
  have new : DTp X.prog X.w d (putX xs k b v) h' := ⟨hpl, hd, _, rel.put k rv, q, es, ep, hq, h2, h3, h4, h5⟩
  have x := ex_setX (o := .ext (DTp X.prog X.w d (putX xs k b v))) D1.1
  exact ⟨σ, _, d_write (t' := s3.toks + (tupleKind (mixKind X.prog X.w)).draws k) I3 (by rw [D1.1]; exact True.intro) hs ⟨q, hq⟩ (dtp_ok new), q3 _ x ⟨upd_same, (D1.2.ex x).put (hk.ex x) v⟩⟩
theorem pe_dnewF (hP : X.prog = P) (hw : X.w = w) : PE X (.Dict [] [] pos) (tDNewF P w) := by
  subst hP hw
  refine ⟨fun pins s σ H Q I h => ?_⟩
  have hf := I.hok.fresh (Nat.le_refl _)
  have new : DTp X.prog X.w s.heap.objs.size [] (s.heap.push { cls := .type "dict", data := .dict #[] }) := ⟨Nat.zero_le _, beq_eq_false_iff_ne.mpr (Ne.symm (Nat.ne_of_lt I.big)), [], .nil, _, #[], 0, Heap.get?_push_size _ rfl, ⟨rfl, rfl, rfl⟩, rfl, rfl, List.nodup_nil⟩
  exact wpAny_Dict_empty ⟨.ref s.heap.objs.size, _, I.laid (a := s.heap.objs.size) (o := .ext (DTp X.prog X.w s.heap.objs.size [])) (t' := s.toks) (fun _ _ q => Heap.get?_push_of_some _ q) (Nat.le_refl _) (dtp_ok new), rfl, h _ _ hf (ex_new hf) ⟨upd_same, KeysF.nil⟩⟩
theorem pe_disp1F {k v : Expr} {tk tv : TE} (hP : X.prog = P) (hw : X.w = w) (hu : X.A.units + 1 < cLine) (hk : PE X k tk) (hv : PE X v tv) : PE X (.Dict [some k] [v] pos) (tDisp1F P w tk tv) := by
  subst hP hw
  refine ⟨fun pins s σ H Q I q => ?_⟩
  have hn := I.hok.fresh (Nat.le_refl s.heap.objs.size)
  have new : DTp X.prog X.w s.heap.objs.size [] (s.heap.push { cls := .type "dict", data := .dict #[] }) := ⟨Nat.zero_le _, beq_eq_false_iff_ne.mpr (Ne.symm (Nat.ne_of_lt I.big)), [], .nil, _, #[], 0, Heap.get?_push_size _ rfl, ⟨rfl, rfl, rfl⟩, rfl, rfl, List.nodup_nil⟩
  have I1 := I.laid (a := s.heap.objs.size) (o := .ext (DTp X.prog X.w s.heap.objs.size [])) (h' := s.heap.push { cls := .type "dict", data := .dict #[] }) (t' := s.toks) (fun _ _ q => Heap.get?_push_of_some _ q) (Nat.le_refl _) (dtp_ok new)
  refine wpAny_Dict_any (by rfl) (by rfl) (by simp) (by show 1 ≤ 15; omega) (pairTrees_cons_walk (thn (hk.run pins _ σ _ _ I1 (q _ _ hn (ex_new hn) ⟨upd_same, KeysF.nil⟩)) fun u s1 ⟨x, H1, I1', rx, q1⟩ => thn (hv.run pins s1 σ H1 _ I1' q1) fun w2 s2 ⟨y, H2, I2, ry, D2, b, kk, ex, eb, q2⟩ => pairTrees_nil_walk ?_))
  subst ex
  cases (show u = Value.ref b from rx)
  obtain ⟨hz, hd, ys, rel, dd⟩ := df_full I2 D2.rd
  cases rel
  show wpAny _ _ (storeAll _ [(Value.ref b, w2)]) _ _ _
  unfold storeAll
  rw [List.forIn_cons]
  refine wpAny_bind (wpAny_bind (wpAny_dictSet_heap (hsz := Nat.zero_le _) (show (tupleKind (mixKind X.prog X.w)).room X.A from (show X.A.units < cLine by omega)) (key_ofS (X := X) I2 (eb.sqt (K := X.K))) dd fun h' dd' hs => wpAny_pure ?_))
  show wpAny _ _ (forIn [] PUnit.unit _) _ _ _
  rw [List.forIn_nil]
  obtain ⟨o, es, ep, hq, h2, h3, h4, _, h5⟩ := dd'
  have new2 : DTp X.prog X.w s.heap.objs.size (putX [] kk b y) h' := ⟨by rw [putX_len]; have := length_putK (kvX []) kk y; rw [kvX_len, List.length_nil] at this; rw [sizeLine_eq]; omega, hd, _, (show KTn [] [] from .nil).put kk ry, o, es, ep, hq, h2, h3, h4, h5⟩
  have x := ex_setX (o := .ext (DTp X.prog X.w s.heap.objs.size (putX [] kk b y))) D2.1
  exact wpAny_pure ⟨.ref s.heap.objs.size, _, d_write I2 (by rw [D2.1]; exact True.intro) hs ⟨o, hq⟩ (dtp_ok new2), rfl, q2 _ x ⟨upd_same, (D2.2.ex x).put (eb.ex x) y⟩⟩
end
/-! #### walked -/
section
variable {X : Cx} {pins : List (Addr × Obj)} {σ : L2.St} {H : Hp} {s : Shared} {d : Addr} {o : Obj}
theorem frzF {xs : KXs} (I : Inv X pins σ H s) (h : H d = some (.frz o (.ext (DTp X.prog X.w d xs)))) :
    (d == sysModules) = false ∧ s.heap.get? d = some o ∧ o.ExactDict ∧ ∃ (es : Array DictEntry) (ep : Nat), o.data = .dict es ep ∧ es.size = xs.length ∧
      ∀ (i : Nat) (k : List Key) (b : Addr) (v : V), xs[i]? = some (k, b, v) → ∃ en : DictEntry, es[i]? = some en ∧ en.key = .ref b := by
  obtain ⟨hd, ⟨z, hs, ys, pr, o', es, ep, ho, hx, hdt, he, _⟩, _⟩ := (show ObjOk X.prog X.w H s.heap d (.frz o (.ext (DTp X.prog X.w d xs))) from I.hok d _ h)
  rw [hd] at ho
  cases ho
  refine ⟨hs, hd, hx, es, ep, hdt, ?_, fun i k b v e => ?_⟩
  · have l1 : es.size = ys.length := size_of_entries he
    have l2 : xs.length = ys.length := Paired.length pr
    omega
  · obtain ⟨b', hb, e1, e2, _⟩ := paired_get pr e
    have q := entry_at he i
    rw [hb] at q
    exact ⟨_, q, by rw [show b = b'.2.1 from e2]; rfl⟩
end
def ItF (P : Program) (w : World) (d : Addr) (o : Obj) (xs : KXs) : It :=
  ⟨fun i H => H d = some (.frz o (.ext (DTp P w d xs))) ∧ i < xs.length, fun i H x H' => H' = H ∧ ∃ (k : List Key) (b : Addr) (v : V), xs[i]? = some (k, b, v) ∧ x = .ref b, fun i H => H d = some (.frz o (.ext (DTp P w d xs))) ∧ xs.length ≤ i⟩
theorem turn_keysF {P : Program} {w : World} {K : PySem.W.Frag} {tg : Expr} {d : Addr} {o : Obj} {es : Array DictEntry} {ep : Nat} {xs : KXs} (it : Addr) (hod : o.data = .dict es ep) : Turn P w K tg (ItF P w d o xs) [it] it (fun i h => h.IsKeyIter it d i xs.length ep) where
  mem := by simp
  obj := fun i h st b hb => by
    have e : b = it := by simpa using hb
    subst e
    obtain ⟨oi, e, c, dd⟩ := st
    exact ⟨oi, e, fun v z => by rw [dd] at z; cases z⟩
  keep := fun i h h' st k => st.at fun oi e => k it (by simp) oi e
  item := by
    intro X hP hw hK hc i pins s σ H E I hf st hg
    subst hP hw hK
    obtain ⟨hd, hi⟩ := hg
    obtain ⟨f0, f1, f2, f3, f4, f5⟩ := hf it (by simp)
    obtain ⟨hs, hgd, hx, es', ep', hdt, hsz, ent⟩ := frzF I hd
    obtain ⟨rfl, rfl⟩ := dict_ep hod hdt
    obtain ⟨⟨k, b, v⟩, hkv⟩ : ∃ p, xs[i]? = some p := ⟨xs[i], List.getElem?_eq_getElem hi⟩
    obtain ⟨en, hen, hkey⟩ := ent i k b v hkv
    refine next_key_item st hgd hdt hsz hen fun h' st' sb => ?_
    have I1 : Inv X pins σ H { s with heap := h' } := I.turned (t' := s.toks) (fun b ob hb e => (sb.2 b hb).trans e) f0 f1 f3 f4 f5
    obtain ⟨oi, e, c, dd⟩ := id st'
    exact ⟨en.key, rfl, go_of (s := { s with heap := h' }) e c dd (by decide) ⟨.ref b, H, I1, hkey, ⟨rfl, k, b, v, hkv, rfl⟩, st', fun b hb => (hf b hb).1⟩⟩
  done := by
    intro X hP hw hK hc i pins s σ H E I hf st hg
    subst hP hw hK
    obtain ⟨hd, hi⟩ := hg
    obtain ⟨f0, f1, f2, f3, f4, f5⟩ := hf it (by simp)
    obtain ⟨hs, hgd, hx, es', ep', hdt, hsz, ent⟩ := frzF I hd
    obtain ⟨rfl, rfl⟩ := dict_ep hod hdt
    exact next_key_end (I.ok.hd hc) st hgd hdt hsz hi fun h' eb => ⟨rfl, I.turned (t' := s.toks) (fun b ob hb e => eb b ob hb e) f0 f1 f3 f4 f5⟩
  self := fun A i s Q E st h => by
    refine wpAny_pyIter_slot st.typeIs F.slot_dict_keyiterator_iter (wpAny_call_entry F.slot_dict_keyiterator_iter st.typeIs F.entry_dict_keyiterator_iter ?_ (F.args_dict_keyiterator_iter_1 _))
    show wpAny _ _ (ret (.ref it)) _ _ s
    exact wpAny_pure ⟨_, rfl, "dict_keyiterator", _, st.typeIs, F.slot_dict_keyiterator_next.lookup, h⟩
def iKeysF (P : Program) (w : World) (td : TE) : TI := fun σ H R => td σ H fun x H1 => ∃ d o xs, x = .ref d ∧ H1 d = some (.frz o (.ext (DTp P w d xs))) ∧ R (ItF P w d o xs) H1
theorem pi_keysF {X : Cx} {P : Program} {w : World} {tg e : Expr} {td : TE} (hP : X.prog = P) (hw : X.w = w) (he : PE X e td) : PI X tg e (iKeysF P w td) := by
  subst hP hw
  refine ⟨fun pins s σ H R I h => ?_⟩
  refine thn (he.run pins s σ H _ I h) fun u s1 ⟨x, H1, I1, rx, d, o, xs, ex, hd, q⟩ => ?_
  subst ex
  obtain rfl : u = Value.ref d := rx
  obtain ⟨hs, hgd, hx, es, ep, hdt, hsz, ent⟩ := frzF I1 hd
  refine iter_keys hs hgd hx hdt (pi_one (tk := s1.toks) I1 _ (turn_keysF _ hdt) ⟨_, Heap.get?_push_size _ rfl, rfl, ?_⟩ q)
  rw [hsz] <;> rfl
theorem walk_keysF {P : Program} {w : World} {d : Addr} {o : Obj} {xs : KXs} : Walk (ItF P w d o xs) xs.length (fun H => H d = some (.frz o (.ext (DTp P w d xs))))
    (fun i H x H' => H' = H ∧ ∃ (k : List Key) (b : Addr) (v : V), xs[i]? = some (k, b, v) ∧ x = .ref b) :=
  ⟨fun _ _ hi q => ⟨q, hi⟩, fun _ q => ⟨q, Nat.le_refl _⟩, fun _ _ _ _ _ _ y => y⟩
end MM
namespace MM
open PySem PySem.Spec PyProof.Rows L2 GxR
/-! ### sorted(xs) of any data that can be held against one another -/
/-- bs: each item with what it reads as -/
def rSortD (K : PySem.W.Frag) : List V → Hp → VK → Prop := fun vs H Q => ∃ (a : Addr) (bs : List (V × PyData)), vs = [.ref a] ∧ SqL K H a (bs.map (·.1)) ∧ (∀ b ∈ bs, Dp K H b.1 b.2) ∧ PySem.W.AllAlike (bs.map (·.2)) ∧ PySem.W.Sortable (bs.map (·.2)) ∧ (∀ b ∈ bs, b.2.depth ≤ 60) ∧
  ∀ p, H p = none → Q (.ref p) (upd H p (.lst ((bs.mergeSort (PySem.W.dataLe false (·.2))).map (·.1))))
section
variable {X : Cx} {K : PySem.W.Frag}
theorem each_of {R : Value → V × PyData → Prop} : ∀ {bs : List (V × PyData)} {us : List Value}, Vals (bs.map (·.1)) us → (∀ b ∈ bs, ∀ u, RelV b.1 u → R u b) → PySem.W.EachIs R us bs
  | [], _, h, _ => by cases h; exact .nil
  | b :: bs, _, h, k => by
    cases h with
    | cons r t => exact .cons (k b List.mem_cons_self _ r) (each_of t fun c hc => k c (List.mem_cons_of_mem _ hc))
theorem vals_of_each : ∀ {bs : List (V × PyData)} {us : List Value}, PySem.W.EachIs (fun u (b : V × PyData) => RelV b.1 u) us bs → Vals (bs.map (·.1)) us
  | [], _, h => by cases h; exact .nil
  | b :: bs, _, h => by
    cases h with
    | cons r t => exact .cons r (vals_of_each t)
theorem cr_sortedD (hu : X.A.units + 64 < cLine) : CallR X (.builtin "sorted") (rSortD X.K) := by
  intro pins s σ H vs us Q I r q
  obtain ⟨a, bs, rfl, hs, hd, hal, hk, hdp, q⟩ := q
  obtain ⟨its, rv, hl, hz⟩ := I.list hs
  rw [Vals.ref1 r]
  have lb : bs.length ≤ sizeLine := by rw [List.length_map] at hz; exact hz
  refine PySem.W.sorted_data (enc := fun b : V × PyData => b.2) hl.isList (each_of rv fun b _ u h => h) (each_of rv fun b hb u h => Dp.reads I b.2 b.1 u (hd b hb) h) hal hk lb (fun b hb => by have := hdp b hb; omega) fun out hlen ho => ?_
  obtain ⟨ep, he⟩ := PyProof.Rows.sortedAll_at s.heap its out.toArray
  refine ⟨.ref _, upd H (s.heap.objs.size + 1) (.lst ((bs.mergeSort (PySem.W.dataLe false (·.2))).map (·.1))), I.laid (t' := s.toks) (fun _ _ => PyProof.Rows.sortedAll_old) (Nat.le_succ _) ⟨?_, out, ep, vals_of_each ho, he⟩, rfl, q _ (I.hok.fresh (Nat.le_succ _))⟩
  rw [List.length_map, List.length_mergeSort]
  exact lb
theorem k_sortD (hK : X.K = K) (hu : X.A.units + 64 < cLine) : CallR X (.builtin "sorted") (rSortD K) := hK ▸ cr_sortedD hu
end
end MM
namespace MM
open PySem PySem.Spec PyProof.Rows L2 GxR
/-! ### sorted(xs) of any data, one alone too (the empty tuple) -/
theorem sortsAt_one {prog : Program} {w : World} {A : Around} {s : Shared} {u : Value} {d : PyData} {as : List Addr} (r : Reads s.heap u d as) (ha : PySem.W.alike d d = true) (hn : d ≠ .none) (hu : A.units + d.depth < cLine) : PySem.W.SortsAt prog w A s (PySem.W.dataKind s.heap [d]) [u] := by
  have hal : PySem.W.AllAlike [d] := fun x hx y hy => by rw [List.mem_singleton.mp hx, List.mem_singleton.mp hy]; exact ha
  refine ⟨fun v hv => ?_, general', ?_, fun h2 => absurd h2 (by simp)⟩
  · rw [List.mem_singleton.mp hv]
    exact ⟨_, PySem.W.dataKind_some hal List.mem_cons_self r⟩
  · intro E x y a b Q hka hkb hq
    obtain ⟨d1, a1, m1, r1, rfl⟩ := PySem.W.dataKind_inv hka
    obtain ⟨d2, a2, m2, r2, rfl⟩ := PySem.W.dataKind_inv hkb
    obtain rfl := List.mem_singleton.mp m1
    obtain rfl := List.mem_singleton.mp m2
    show wpAny _ _ (oneLt' false x y) _ _ _
    exact PySem.W.oneLt_alike (fun h => nomatch h) r1 r2 ha hn (by rw [Nat.min_self]; exact hu) hq
def rSort1 (K : PySem.W.Frag) : List V → Hp → VK → Prop := fun vs H Q => ∃ (a : Addr) (v : V) (d : PyData), vs = [.ref a] ∧ SqL K H a [v] ∧ Dp K H v d ∧ PySem.W.alike d d = true ∧ d ≠ .none ∧ d.depth ≤ 60 ∧ ∀ p, H p = none → Q (.ref p) (upd H p (.lst [v]))
def rSortD1 (K : PySem.W.Frag) : List V → Hp → VK → Prop := fun vs H Q => rSortD K vs H Q ∨ rSort1 K vs H Q
section
variable {X : Cx} {K : PySem.W.Frag}
theorem cr_sort1 (hu : X.A.units + 64 < cLine) : CallR X (.builtin "sorted") (rSort1 X.K) := by
  intro pins s σ H vs us Q I r q
  obtain ⟨a, v, d, rfl, hs, hd, ha, hn, hdp, q⟩ := q
  obtain ⟨its, rv, hl, hz⟩ := I.list hs
  rw [Vals.ref1 r]
  cases rv with
  | @cons _ u _ _ rx t =>
    cases t
    obtain ⟨as, rd⟩ := Dp.reads I d v u hd rx
    have sl : sizeLine = 16777216 := by decide
    refine PySem.W.sorted_vals (κ := PySem.W.dataKind (PySem.W.sortingHeap (PySem.W.copyHeap s.heap [u]) (s.heap.objs.size + 1) [u]) [d]) hl.isList (sortsAt_one (s := { s with heap := PySem.W.sortingHeap (PySem.W.copyHeap s.heap [u]) (s.heap.objs.size + 1) [u] }) (PyProof.Rows.Reads.keeps (fun _ _ => PySem.W.sorting_copy_old) rd) ha hn (by show X.A.in1.in1.units + _ < _; simp only [Around.in1]; omega)) (by rw [sl]; simp) ?_
    have e : PySem.W.sortVals (PySem.W.dataKind (PySem.W.sortingHeap (PySem.W.copyHeap s.heap [u]) (s.heap.objs.size + 1) [u]) [d]) false [u] [u] = [u] := by
      unfold PySem.W.sortVals; simp
    rw [e]
    obtain ⟨ep, he⟩ := PyProof.Rows.sortedAll_at s.heap [u] [u].toArray
    refine ⟨.ref _, upd H (s.heap.objs.size + 1) (.lst [v]), I.laid (t' := s.toks) (fun _ _ => PyProof.Rows.sortedAll_old) (Nat.le_succ _) ⟨by rw [sl]; simp, [u], ep, .cons rx .nil, he⟩, rfl, q _ (I.hok.fresh (Nat.le_succ _))⟩
theorem k_sortD1 (hK : X.K = K) (hu : X.A.units + 64 < cLine) : CallR X (.builtin "sorted") (rSortD1 K) := by
  subst hK
  intro pins s σ H vs us Q I r q
  exact q.elim (k_sortD rfl hu pins s σ H vs us Q I r) (cr_sort1 hu pins s σ H vs us Q I r)
end
end MM
namespace MM
open PySem PySem.Spec PyProof.Rows L2 GxR
theorem cutV_mid {xs : List V} (i j : Nat) : cutV xs (some (i : Int)) (some ((i + j : Nat) : Int)) = (xs.drop i).take j := by
  unfold cutV
  rw [HT.sIx_nat, HT.sIx_nat]
  by_cases h : i ≤ xs.length
  · rw [Nat.min_eq_left h]
    by_cases h2 : i + j ≤ xs.length
    · rw [Nat.min_eq_left h2]
      congr 1
      omega
    · rw [Nat.min_eq_right (by omega), List.take_of_length_le (by rw [List.length_drop]; omega), List.take_of_length_le (by rw [List.length_drop]; omega)]
  · rw [List.drop_of_length_le (by omega : xs.length ≤ i), List.drop_of_length_le (by omega)]
    simp
/-! ### books by which the same rows come -/
def AsSame (m : Nat) (A B : List Int) : Prop := ∀ z, Come m A A.length z ↔ Come m B B.length z
theorem same_words {m : Nat} {A B : List Int} (h1 : 1 ≤ m) (h9 : m ≤ 9) (hA : BookOk m A) (hB : BookOk m B) (h : ∀ l : List Nat, l.Sublist (nat A) → ∃ l', l'.Sublist (nat B) ∧ ∀ j, Pw l j = Pw l' j) (z : List Int) (hz : Come m A A.length z) : Come m B B.length z := by
  obtain ⟨l, hl, rfl⟩ := (come_words h1 h9 hA).mp hz
  obtain ⟨l', hl', e⟩ := h l hl
  exact (come_words h1 h9 hB).mpr ⟨l', hl', ofF_congr fun j _ => e j⟩
theorem same_in {m : Nat} {A B B' C : List Int} (h1 : 1 ≤ m) (h9 : m ≤ 9) (hA : BookOk m A) (hB : BookOk m B) (hB' : BookOk m B') (hC : BookOk m C) (h : AsSame m B B') : AsSame m (A ++ (B ++ C)) (A ++ (B' ++ C)) := fun z =>
  ⟨fun k => come_app h1 h9 hA (book_app hB hC) hA (book_app hB' hC) (fun _ e => e) (fun _ e => come_app h1 h9 hB hC hB' hC (fun y => (h y).mp) (fun _ e => e) e) k,
   fun k => come_app h1 h9 hA (book_app hB' hC) hA (book_app hB hC) (fun _ e => e) (fun _ e => come_app h1 h9 hB' hC hB hC (fun y => (h y).mpr) (fun _ e => e) e) k⟩
theorem far_row {m : Nat} {A : List Int} (h1 : 1 ≤ m) (h9 : m ≤ 9) (hA : BookOk m A) : IsRow (farL (row0 m) A) ∧ (farL (row0 m) A).length = m := farL_ok hA (row0_row h1 h9) (row0_len m)
theorem far_as {m : Nat} {A B : List Int} (h1 : 1 ≤ m) (h9 : m ≤ 9) (hA : BookOk m A) (hB : BookOk m B) (h : AsSame m A B) : farL (row0 m) A = farL (row0 m) B := by
  obtain ⟨ra, la⟩ := far_row h1 h9 hA
  obtain ⟨rb, lb⟩ := far_row h1 h9 hB
  refine more_anti ra la rb lb ?_ ?_
  · exact (come_far h1 h9 hB ra la).mp ((h _).mp ((come_far h1 h9 hA ra la).mpr (more_self _)))
  · exact (come_far h1 h9 hA rb lb).mp ((h _).mpr ((come_far h1 h9 hB rb lb).mpr (more_self _)))
theorem farRow_as {m : Nat} {A B : List Int} (h1 : 1 ≤ m) (h9 : m ≤ 9) (hA : BookOk m A) (hB : BookOk m B) (h : AsSame m A B) : farRow m A = farRow m B := by
  unfold farRow
  rw [← farL_all, ← farL_all]
  exact far_as h1 h9 hA hB h
/-! ### the three steps -/
theorem trs_far {a b : Nat} (h : a + 1 < b ∨ b + 1 < a) (j : Nat) : trs a (trs b j) = trs b (trs a j) := by
  unfold trs
  repeat' split
  all_goals omega
theorem trs_three {a b : Nat} (h : a + 1 = b ∨ b + 1 = a) (j : Nat) : trs a (trs b (trs a j)) = trs b (trs a (trs b j)) := by
  unfold trs
  repeat' split
  all_goals omega
theorem sub1 {a : Nat} {l : List Nat} (h : l.Sublist [a]) : l = [] ∨ l = [a] := by
  rcases List.sublist_cons_iff.mp h with k | ⟨r, e, k⟩
  · exact .inl (List.sublist_nil.mp k)
  · exact .inr (by rw [e, List.sublist_nil.mp k])
theorem sub2 {a b : Nat} {l : List Nat} (h : l.Sublist [a, b]) : l = [] ∨ l = [b] ∨ l = [a] ∨ l = [a, b] := by
  rcases List.sublist_cons_iff.mp h with k | ⟨r, e, k⟩
  · rcases sub1 k with z | z <;> simp [z]
  · rcases sub1 k with z | z <;> simp [e, z]
theorem sub3 {a b c : Nat} {l : List Nat} (h : l.Sublist [a, b, c]) : (l = [] ∨ l = [c] ∨ l = [b] ∨ l = [b, c]) ∨ l = [a] ∨ l = [a, c] ∨ l = [a, b] ∨ l = [a, b, c] := by
  rcases List.sublist_cons_iff.mp h with k | ⟨r, e, k⟩
  · exact .inl (sub2 k)
  · rcases sub2 k with z | z | z | z <;> simp [e, z]
theorem same_far1 {m : Nat} {a b : Int} (h1 : 1 ≤ m) (h9 : m ≤ 9) (hB : BookOk m [a, b]) (hB' : BookOk m [b, a]) (h : a + 1 < b ∨ b + 1 < a) (z : List Int) (k : Come m [a, b] 2 z) : Come m [b, a] 2 z := by
  have ha := hB a (by simp)
  have hb := hB b (by simp)
  refine same_words h1 h9 hB hB' (fun l hl => ?_) z k
  rcases sub2 hl with e | e | e | e <;> subst e
  · exact ⟨[], by simp, fun _ => rfl⟩
  · exact ⟨[b.toNat], by simp [nat], fun _ => rfl⟩
  · exact ⟨[a.toNat], by simp [nat], fun _ => rfl⟩
  · exact ⟨[b.toNat, a.toNat], by simp [nat], fun j => trs_far (by omega) j⟩
theorem swapB {m : Nat} {a b : Int} (hB : BookOk m [a, b]) : BookOk m [b, a] := fun x hx => hB x (by simp at hx ⊢; omega)
theorem same_far {m : Nat} {a b : Int} (h1 : 1 ≤ m) (h9 : m ≤ 9) (hB : BookOk m [a, b]) (h : a + 1 < b ∨ b + 1 < a) : AsSame m [a, b] [b, a] := fun z =>
  ⟨same_far1 h1 h9 hB (swapB hB) h z, same_far1 h1 h9 (swapB hB) hB (by omega) z⟩
theorem same_three1 {m : Nat} {a b : Int} (h1 : 1 ≤ m) (h9 : m ≤ 9) (hB : BookOk m [a, b, a]) (hB' : BookOk m [b, a, b]) (h : a + 1 = b ∨ b + 1 = a) (z : List Int) (k : Come m [a, b, a] 3 z) : Come m [b, a, b] 3 z := by
  have ha := hB a (by simp)
  have hb := hB b (by simp)
  refine same_words h1 h9 hB hB' (fun l hl => ?_) z k
  have s : nat [b, a, b] = [b.toNat, a.toNat, b.toNat] := rfl
  rw [s]
  rcases sub3 hl with (e | e | e | e) | e | e | e | e <;> subst e
  · exact ⟨[], List.nil_sublist _, fun _ => rfl⟩
  · exact ⟨[a.toNat], .cons _ (.cons₂ _ (List.nil_sublist _)), fun _ => rfl⟩
  · exact ⟨[b.toNat], .cons₂ _ (List.nil_sublist _), fun _ => rfl⟩
  · exact ⟨[b.toNat, a.toNat], .cons₂ _ (.cons₂ _ (List.nil_sublist _)), fun _ => rfl⟩
  · exact ⟨[a.toNat], .cons _ (.cons₂ _ (List.nil_sublist _)), fun _ => rfl⟩
  · exact ⟨[], List.nil_sublist _, fun j => trs_trs _ _⟩
  · exact ⟨[a.toNat, b.toNat], .cons _ (List.Sublist.refl _), fun _ => rfl⟩
  · exact ⟨[b.toNat, a.toNat, b.toNat], List.Sublist.refl _, fun j => trs_three (by omega) j⟩
theorem threeB {m : Nat} {a b : Int} (hB : BookOk m [a, b, a]) : BookOk m [b, a, b] := fun x hx => hB x (by simp at hx ⊢; omega)
theorem same_three {m : Nat} {a b : Int} (h1 : 1 ≤ m) (h9 : m ≤ 9) (hB : BookOk m [a, b, a]) (h : a + 1 = b ∨ b + 1 = a) : AsSame m [a, b, a] [b, a, b] := fun z =>
  ⟨same_three1 h1 h9 hB (threeB hB) h z, same_three1 h1 h9 (threeB hB) hB (by omega) z⟩
theorem same_once {m : Nat} {a : Int} (h1 : 1 ≤ m) (h9 : m ≤ 9) (hB : BookOk m [a, a]) : AsSame m [a, a] [a] := by
  have hB1 : BookOk m [a] := fun x hx => hB x (by simp at hx ⊢; exact hx)
  refine fun z => ⟨fun k => same_words h1 h9 hB hB1 (fun l hl => ?_) z k, fun k => same_words h1 h9 hB1 hB (fun l hl => ?_) z k⟩
  · have s : nat [a] = [a.toNat] := rfl
    rw [s]
    rcases sub2 hl with e | e | e | e <;> subst e
    · exact ⟨[], List.nil_sublist _, fun _ => rfl⟩
    · exact ⟨[a.toNat], List.Sublist.refl _, fun _ => rfl⟩
    · exact ⟨[a.toNat], List.Sublist.refl _, fun _ => rfl⟩
    · exact ⟨[], List.nil_sublist _, fun j => trs_trs _ _⟩
  · have s : nat [a, a] = [a.toNat, a.toNat] := rfl
    rw [s]
    rcases sub1 hl with e | e <;> subst e
    · exact ⟨[], List.nil_sublist _, fun _ => rfl⟩
    · exact ⟨[a.toNat], .cons _ (List.Sublist.refl _), fun _ => rfl⟩
/-! ### words and steps -/
def ab (x : Int) : Int := if x < 0 then -x else x
def wordL : List Int → Option Str
  | a :: b :: r => if 1 < ab (a - b) then some "far" else if ab (a - b) = 0 then some "once" else match r with
    | c :: _ => if a = c then some "three" else none
    | [] => none
  | _ => none
def wordM (gs : List Int) (k : Nat) : Option Str := wordL ((gs.drop k).take 3)
def stepM (gs : List Int) (k : Nat) (w : Str) : List Int :=
  if w = "far" then gs.take k ++ [gs.getD (k + 1) 0, gs.getD k 0] ++ gs.drop (k + 2)
  else if w = "three" then gs.take k ++ [gs.getD (k + 1) 0, gs.getD k 0, gs.getD (k + 1) 0] ++ gs.drop (k + 3)
  else gs.take k ++ [gs.getD k 0] ++ gs.drop (k + 2)
inductive IsStep : List Int → Nat → Str → List Int → Prop
  | far (A C : List Int) (a b : Int) (h : a + 1 < b ∨ b + 1 < a) : IsStep (A ++ ([a, b] ++ C)) A.length "far" (A ++ ([b, a] ++ C))
  | three (A C : List Int) (a b : Int) (h : a + 1 = b ∨ b + 1 = a) : IsStep (A ++ ([a, b, a] ++ C)) A.length "three" (A ++ ([b, a, b] ++ C))
  | once (A C : List Int) (a : Int) : IsStep (A ++ ([a, a] ++ C)) A.length "once" (A ++ ([a] ++ C))
theorem getD_mid (A : List Int) (a : Int) (l : List Int) : (A ++ a :: l).getD A.length 0 = a := by simp
theorem getD_mid1 (A : List Int) (a b : Int) (l : List Int) : (A ++ a :: b :: l).getD (A.length + 1) 0 = b := by
  rw [List.getD_eq_getElem?_getD, List.getElem?_append_right (by omega)]
  simp
theorem drop_mid (A : List Int) (k : Nat) (l : List Int) : (A ++ l).drop (A.length + k) = l.drop k := by
  rw [List.drop_append]; simp
theorem step_of {gs : List Int} {k : Nat} {w : Str} (h : wordM gs k = some w) : IsStep gs k w (stepM gs k w) := by
  unfold wordM at h
  have hk : k ≤ gs.length := by
    rcases Nat.lt_or_ge gs.length k with c | c
    · rw [List.drop_of_length_le (by omega)] at h; cases h
    · exact c
  obtain ⟨A, D, rfl, rfl⟩ : ∃ A D, gs = A ++ D ∧ A.length = k := ⟨gs.take k, gs.drop k, (List.take_append_drop k gs).symm, by rw [List.length_take]; omega⟩
  rw [List.drop_left] at h
  match D, h with
  | a :: b :: r, h =>
    unfold stepM
    rw [getD_mid, getD_mid1, List.take_left, drop_mid, drop_mid]
    replace h : (if 1 < ab (a - b) then (some "far" : Option Str) else if ab (a - b) = 0 then some "once" else match r.take 1 with | c :: _ => if a = c then some "three" else none | [] => none) = some w := h
    by_cases c1 : 1 < ab (a - b)
    · rw [if_pos c1] at h
      cases h
      rw [if_pos rfl, List.append_assoc]
      refine IsStep.far A r a b ?_
      unfold ab at c1; split at c1 <;> omega
    · rw [if_neg c1] at h
      by_cases c2 : ab (a - b) = 0
      · rw [if_pos c2] at h
        cases h
        rw [if_neg (by decide), if_neg (by decide), List.append_assoc]
        obtain rfl : a = b := by unfold ab at c2; split at c2 <;> omega
        exact IsStep.once A r a
      · rw [if_neg c2] at h
        match r, h with
        | c :: r, h =>
          replace h : (if a = c then (some "three" : Option Str) else none) = some w := h
          by_cases c3 : a = c
          · rw [if_pos c3] at h
            cases h
            subst c3
            rw [if_neg (by decide), if_pos rfl, List.append_assoc]
            refine IsStep.three A r a b ?_
            unfold ab at c1 c2; split at c1 <;> split at c2 <;> omega
          · rw [if_neg c3] at h; cases h
theorem ab_far {a b : Int} (h : a + 1 < b ∨ b + 1 < a) : 1 < ab (a - b) := by unfold ab; split <;> omega
theorem ab_near {a b : Int} (h : a + 1 = b ∨ b + 1 = a) : ab (a - b) = 1 := by unfold ab; split <;> omega
theorem IsStep.book {m : Nat} {gs hs : List Int} {k : Nat} {w : Str} (h : IsStep gs k w hs) (hb : BookOk m gs) : BookOk m hs := by
  cases h <;> exact fun x hx => hb x (by simp at hx ⊢; grind)
theorem IsStep.len {gs hs : List Int} {k : Nat} {w : Str} (h : IsStep gs k w hs) : hs.length + (if w = "once" then 1 else 0) = gs.length ∧ k + 1 < gs.length := by
  cases h with
  | far A C a b h => rw [if_neg (by decide)]; simp only [List.length_append, List.length_cons, List.length_nil]; omega
  | three A C a b h => rw [if_neg (by decide)]; simp only [List.length_append, List.length_cons, List.length_nil]; omega
  | once A C a => rw [if_pos rfl]; simp only [List.length_append, List.length_cons, List.length_nil]; omega
theorem IsStep.as {m : Nat} {gs hs : List Int} {k : Nat} {w : Str} (h1 : 1 ≤ m) (h9 : m ≤ 9) (h : IsStep gs k w hs) (hb : BookOk m gs) : AsSame m gs hs := by
  cases h with
  | far A C a b h => exact same_in h1 h9 (fun x hx => hb x (by simp [hx])) (fun x hx => hb x (by simp at hx ⊢; grind)) (fun x hx => hb x (by simp at hx ⊢; grind)) (fun x hx => hb x (by simp [hx])) (same_far h1 h9 (fun x hx => hb x (by simp at hx ⊢; grind)) h)
  | three A C a b h => exact same_in h1 h9 (fun x hx => hb x (by simp [hx])) (fun x hx => hb x (by simp at hx ⊢; grind)) (fun x hx => hb x (by simp at hx ⊢; grind)) (fun x hx => hb x (by simp [hx])) (same_three h1 h9 (fun x hx => hb x (by simp at hx ⊢; grind)) h)
  | once A C a => exact same_in h1 h9 (fun x hx => hb x (by simp [hx])) (fun x hx => hb x (by simp at hx ⊢; grind)) (fun x hx => hb x (by simp at hx ⊢; grind)) (fun x hx => hb x (by simp [hx])) (same_once h1 h9 (fun x hx => hb x (by simp at hx ⊢; grind)))
theorem IsStep.back {gs hs : List Int} {k : Nat} {w : Str} (h : IsStep gs k w hs) (hw : w ≠ "once") : wordM hs k = some w ∧ stepM hs k w = gs := by
  cases h with
  | far A C a b h =>
    constructor
    · unfold wordM
      rw [List.drop_left]
      show (if 1 < ab (b - a) then (some "far" : Option Str) else _) = _
      rw [if_pos (ab_far (by omega))]
    · show (if ("far" : Str) = "far" then _ else _) = _
      rw [if_pos rfl, List.cons_append, List.cons_append, getD_mid, getD_mid1, List.take_left, drop_mid, List.append_assoc]; rfl
  | three A C a b h =>
    constructor
    · unfold wordM
      rw [List.drop_left]
      show (if 1 < ab (b - a) then (some "far" : Option Str) else if ab (b - a) = 0 then some "once" else if b = b then some "three" else none) = _
      have := ab_near (a := b) (b := a) (by omega)
      rw [if_neg (by omega), if_neg (by omega), if_pos rfl]
    · show (if ("three" : Str) = "far" then _ else if ("three" : Str) = "three" then _ else _) = _
      rw [if_neg (by decide), if_pos rfl, List.cons_append, List.cons_append, getD_mid, getD_mid1, List.take_left, drop_mid, List.append_assoc]; rfl
  | once => exact absurd rfl hw
end MM
namespace MM
open PySem PySem.Spec PyProof.Rows L2 GxR
/-! ### by how many goings each row comes -/
def tkN (g : Nat) (f : List Int → Nat) : List Int → Nat := fun x => f x + f (swL x g)
def cntS (f : List Int → Nat) (gs : List Int) : List Int → Nat := gs.foldl (fun f (g : Int) => tkN g.toNat f) f
def one0 (m : Nat) : List Int → Nat := fun x => if x = row0 m then 1 else 0
def cntsM (m : Nat) (gs : List Int) : List Int → Nat := cntS (one0 m) gs
theorem cntS_app (f : List Int → Nat) (A B : List Int) : cntS f (A ++ B) = cntS (cntS f A) B := List.foldl_append ..
theorem cnts_succ {m : Nat} {gs : List Int} {i : Nat} (h : i < gs.length) (x : List Int) : cntsM m (gs.take (i + 1)) x = cntsM m (gs.take i) x + cntsM m (gs.take i) (swL x (gapN gs i)) := by
  have e : gs.take (i + 1) = gs.take i ++ [gs.getD i 0] := by rw [List.take_add_one, getD_some h]; rfl
  rw [e]; unfold cntsM; rw [cntS_app]; rfl
theorem cntS_congr {m : Nat} : ∀ {C : List Int} {f f' : List Int → Nat}, BookOk m C → (∀ x, x.length = m → f x = f' x) → ∀ x, x.length = m → cntS f C x = cntS f' C x
  | [], _, _, _, h, x, hx => h x hx
  | g :: C, f, f', hb, h, x, hx => by
    show cntS (tkN g.toNat f) C x = cntS (tkN g.toNat f') C x
    have hg := hb g (by simp)
    refine cntS_congr (m := m) (fun y hy => hb y (by simp [hy])) (fun y hy => ?_) x hx
    unfold tkN
    rw [h y hy, h (swL y g.toNat) (by rw [sw_len (by omega)]; exact hy)]
theorem sw_comm {x : List Int} {a b : Nat} (ha : a + 1 < x.length) (hb : b + 1 < x.length) (h : a + 1 < b ∨ b + 1 < a) : swL (swL x a) b = swL (swL x b) a := by
  apply List.ext_getElem?
  intro k
  rw [sw_get (by rw [sw_len ha]; exact hb), sw_get ha, sw_get (by rw [sw_len hb]; exact ha), sw_get hb, trs_far h]
theorem cnts_far {m : Nat} {A C : List Int} {a b : Int} (hb : BookOk m (A ++ ([a, b] ++ C))) (h : a + 1 < b ∨ b + 1 < a) {x : List Int} (hx : x.length = m) : cntsM m (A ++ ([a, b] ++ C)) x = cntsM m (A ++ ([b, a] ++ C)) x := by
  unfold cntsM
  rw [cntS_app, cntS_app, cntS_app, cntS_app]
  have ha := hb a (by simp)
  have hb2 := hb b (by simp)
  refine cntS_congr (m := m) (fun y hy => hb y (by simp [hy])) (fun y hy => ?_) x hx
  generalize cntS (one0 m) A = f
  show f y + f (swL y a.toNat) + (f (swL y b.toNat) + f (swL (swL y b.toNat) a.toNat)) = f y + f (swL y b.toNat) + (f (swL y a.toNat) + f (swL (swL y a.toNat) b.toNat))
  rw [sw_comm (by omega) (by omega) (by omega : a.toNat + 1 < b.toNat ∨ b.toNat + 1 < a.toNat)]
  omega
theorem IsStep.cnts {m : Nat} {gs hs : List Int} {k : Nat} (h : IsStep gs k "far" hs) (hb : BookOk m gs) {x : List Int} (hx : x.length = m) : cntsM m gs x = cntsM m hs x := by
  generalize hw : ("far" : Str) = w at h
  cases h with
  | far A C a b h => exact cnts_far hb h hx
  | three => exact absurd hw (by decide)
  | once => exact absurd hw (by decide)
/-- the words of a book, by places -/
def stepsM (gs : List Int) (n : Nat) : List (Nat × Str) := (List.range n).filterMap fun k => (wordM gs k).map fun w => (k, w)
theorem stepsM_succ (gs : List Int) (n : Nat) : stepsM gs (n + 1) = stepsM gs n ++ match wordM gs n with | some w => [(n, w)] | none => [] := by
  unfold stepsM
  rw [List.range_succ, List.filterMap_append]
  congr 1
  cases h : wordM gs n with
  | none => simp [h]
  | some w => simp [h]
theorem stepsM_mem {gs : List Int} {n k : Nat} {w : Str} : (k, w) ∈ stepsM gs n ↔ k < n ∧ wordM gs k = some w := by
  unfold stepsM
  rw [List.mem_filterMap]
  constructor
  · rintro ⟨j, hj, e⟩
    obtain ⟨w', h1, h2⟩ := Option.map_eq_some_iff.mp e
    cases h2
    exact ⟨List.mem_range.mp hj, h1⟩
  · exact fun ⟨h1, h2⟩ => ⟨k, List.mem_range.mpr h1, by rw [h2]; rfl⟩
theorem stepsM_len (gs : List Int) (n : Nat) : (stepsM gs n).length ≤ n := by
  unfold stepsM
  refine Nat.le_trans (List.length_filterMap_le _ _) (by rw [List.length_range]; exact Nat.le_refl _)
end MM
namespace MM
open PySem PySem.Spec PyProof.Rows L2 GxR
/-! ### a dict that tells for each row by how many goings it comes -/
def CC (m : Nat) (f : List Int → Nat) (kvs : List (List Key × V)) : Prop := ∀ x, IsRow x → x.length = m → (valV kvs (rk x)).getD (.int 0) = .int ((f x : Nat) : Int)
open Classical in
noncomputable def fJ (kvs : List (List Key × V)) (f : List Int → Nat) (g j : Nat) (x : List Int) : Nat := f x + if rk (swL x g) ∈ (kvs.map (fun p : List Key × V => p.1)).take j then f (swL x g) else 0
theorem fJ_zero (kvs : List (List Key × V)) (f : List Int → Nat) (g : Nat) (x : List Int) : fJ kvs f g 0 x = f x := by
  unfold fJ; rw [List.take_zero, if_neg (fun z => nomatch z)]; rfl
theorem take_key {kvs : List (List Key × V)} {j : Nat} {k : List Key} (h : (kvs[j]?).map (·.1) = some k) : (kvs.map (·.1)).take (j + 1) = (kvs.map (·.1)).take j ++ [k] := by
  rw [List.take_add_one, List.getElem?_map, h]; rfl
theorem not_before {kvs : List (List Key × V)} {j : Nat} {k : List Key} (hn : (kvs.map (·.1)).Nodup) (h : (kvs[j]?).map (·.1) = some k) : k ∉ (kvs.map (·.1)).take j := by
  have := hn.sublist (List.take_sublist (j + 1) _)
  rw [take_key h, List.nodup_append] at this
  exact fun z => this.2.2 k z k List.mem_cons_self rfl
theorem fJ_this {kvs : List (List Key × V)} {f : List Int → Nat} {g j : Nat} {ns : List Int} (hn : (kvs.map (·.1)).Nodup) (h : (kvs[j]?).map (·.1) = some (rk ns)) (hg : g + 1 < ns.length) : fJ kvs f g (j + 1) (swL ns g) = fJ kvs f g j (swL ns g) + f ns := by
  unfold fJ
  rw [sw_sw hg, take_key h, if_pos (List.mem_append_right _ List.mem_cons_self), if_neg (not_before hn h)]
  omega
theorem fJ_other {kvs : List (List Key × V)} {f : List Int → Nat} {g j : Nat} {ns x : List Int} (h : (kvs[j]?).map (·.1) = some (rk ns)) (hg : g + 1 < x.length) (hne : x ≠ swL ns g) : fJ kvs f g (j + 1) x = fJ kvs f g j x := by
  unfold fJ
  have e : rk (swL x g) ≠ rk ns := fun z => hne (by rw [← rk_inj z, sw_sw hg])
  rw [take_key h]
  congr 1
  by_cases c : rk (swL x g) ∈ (kvs.map (·.1)).take j
  · rw [if_pos c, if_pos (List.mem_append_left _ c)]
  · rw [if_neg c, if_neg (fun z => (List.mem_append.mp z).elim c fun z => e (List.mem_singleton.mp z))]
theorem fJ_all {m : Nat} {kvs : List (List Key × V)} {f : List Int → Nat} {g : Nat} (hC : CC m f kvs) {x : List Int} (hr : IsRow x) (hl : x.length = m) (hg : g + 1 < m) : fJ kvs f g kvs.length x = f x + f (swL x g) := by
  unfold fJ
  rw [List.take_of_length_le (by rw [List.length_map]; exact Nat.le_refl _)]
  by_cases c : rk (swL x g) ∈ kvs.map (·.1)
  · rw [if_pos c]
  · rw [if_neg c]
    have h1 := hC (swL x g) (sw_row (by omega) hr) (by rw [sw_len (by omega)]; exact hl)
    have h2 : valV kvs (rk (swL x g)) = none := by
      cases h : valV kvs (rk (swL x g)) with
      | none => rfl
      | some v => exact absurd (valV_mem.mp (by rw [h]; rfl)) c
    rw [h2] at h1
    have : (0 : Int) = ((f (swL x g) : Nat) : Int) := by injection h1
    omega
theorem CC.put {m : Nat} {kvs kv2 : List (List Key × V)} {f : List Int → Nat} {g j : Nat} {ns : List Int} (hn : (kvs.map (·.1)).Nodup) (h : (kvs[j]?).map (·.1) = some (rk ns)) (hl : ns.length = m) (hg : g + 1 < m) (hJ : CC m (fJ kvs f g j) kv2) :
    CC m (fJ kvs f g (j + 1)) (putK kv2 (rk (swL ns g)) (.int (((fJ kvs f g j (swL ns g) : Nat) : Int) + ((f ns : Nat) : Int)))) := by
  intro x hr hx
  rw [valV_put]
  by_cases e : rk x = rk (swL ns g)
  · rw [if_pos e, rk_inj e, fJ_this hn h (by omega)]
    show V.int _ = V.int _
    rw [Int.natCast_add]
  · rw [if_neg e, fJ_other h (by omega) (fun z => e (by rw [z]))]
    exact hJ x hr hx
theorem CC.one {m : Nat} : CC m (one0 m) (putK [] (rk (row0 m)) (.int 1)) := by
  intro x hr hx
  rw [valV_put]
  unfold one0
  by_cases e : rk x = rk (row0 m)
  · rw [if_pos e, if_pos (rk_inj e)]; rfl
  · rw [if_neg e, if_neg (fun z => e (by rw [z]))]; rfl
end MM
namespace MM
open PySem PySem.Spec PyProof.Rows L2 GxR
/-! ### pairs (row, number), sorted -/
def pcd (x : List Int) (c : Int) : PyData := .tuple [.tuple (x.map PyData.int), .int c]
theorem pcd_alike (a b : List Int) (c c' : Int) : PySem.W.alike (pcd a c) (pcd b c') = true := by
  unfold pcd
  simp [PySem.W.alike, PySem.W.alikeAll, MM.alike_ints]
theorem eqv_tup (xs ys : List Int) : PyData.eqv (.tuple (xs.map PyData.int)) (.tuple (ys.map PyData.int)) = decide (xs = ys) := eqv_rows xs ys
theorem pcd_lt (a b : List Int) (c c' : Int) : PySem.W.dataLt (pcd a c) (pcd b c') = decide (a < b ∨ (a = b ∧ c < c')) := by
  unfold pcd
  have h1 : PySem.W.alike (.tuple (a.map PyData.int)) (.tuple (b.map PyData.int)) = true := by simp [PySem.W.alike, MM.alike_ints]
  have h2 : PySem.W.alike (PyData.int c) (PyData.int c') = true := by simp [PySem.W.alike]
  rw [PySem.W.dataLt_pair h1 h2, PySem.W.dataLt_int, eqv_tup, PySem.W.dataLt_tuple]
  have h3 := PySem.W.dataLt_ints a b
  unfold PySem.W.rowLt at h3
  rw [h3]
  have h4 : PyData.eqv (.int c) (.int c') = decide (c = c') := by
    simp only [PyData.eqv]; exact Bool.eq_iff_iff.mpr (by simp)
  rw [h4]
  by_cases e : a = b
  · subst e
    by_cases e2 : c = c'
    · subst e2
      simp [List.lt_irrefl]
    · simp [e2, List.lt_irrefl]
  · simp [e]
theorem le_pcd (c : List Int → Nat) (x y : List Int) : PySem.W.dataLe false (fun x => pcd x ((c x : Nat) : Int)) x y = decide (x ≤ y) := by
  rw [PySem.W.dataLe_eq]
  show (!PySem.W.dataLt (pcd y _) (pcd x _)) = _
  rw [pcd_lt, Bool.eq_iff_iff]
  simp only [Bool.not_eq_true', decide_eq_false_iff_not, decide_eq_true_eq]
  constructor
  · exact fun h => List.not_lt.mp fun z => h (.inl z)
  · rintro h (z | ⟨rfl, z⟩)
    · exact List.not_lt.mpr h z
    · omega
theorem strict {l : List (List Int)} (hs : l.Pairwise (· ≤ ·)) (hn : l.Nodup) : l.Pairwise (· < ·) := by
  refine List.Pairwise.imp ?_ (List.pairwise_and_iff.mpr ⟨hs, hn⟩)
  rintro a b ⟨h, hne⟩
  exact (List.le_iff_lt_or_eq.mp h).resolve_right hne
theorem sort_pairs (c : List Int → Nat) (bs : List (V × List Int)) (hn : (bs.map (·.2)).Nodup) : ∃ L : List (V × List Int), L.Perm bs ∧ (L.map (·.2)).Pairwise (· < ·) ∧
    ((bs.map fun p => (p.1, pcd p.2 ((c p.2 : Nat) : Int))).mergeSort (PySem.W.dataLe false (fun p : V × PyData => p.2))).map (·.1) = L.map (·.1) := by
  refine ⟨bs.mergeSort fun p q => decide (p.2 ≤ q.2), List.mergeSort_perm _ _, ?_, ?_⟩
  · refine strict ?_ (((List.mergeSort_perm bs _).map (·.2)).nodup_iff.mpr hn)
    rw [List.pairwise_map]
    have := List.pairwise_mergeSort (le := fun p q : V × List Int => decide (p.2 ≤ q.2)) (fun a b c h1 h2 => decide_eq_true (List.le_trans (of_decide_eq_true h1) (of_decide_eq_true h2))) (fun a b => by
      rcases List.le_total a.2 b.2 with h | h
      · simp [h]
      · simp [h]) bs
    exact this.imp fun h => of_decide_eq_true h
  · have := List.map_mergeSort (r := fun p q : V × List Int => decide (p.2 ≤ q.2)) (s := PySem.W.dataLe false (fun p : V × PyData => p.2)) (f := fun p : V × List Int => (p.1, pcd p.2 ((c p.2 : Nat) : Int))) (l := bs) (fun a _ b _ => (le_pcd c a.2 b.2).symm)
    rw [← this, List.map_map]
    rfl
end MM
namespace MM
open PySem PySem.Calls PySem.Spec PyProof.Rows L2 GxR
/-! ### sorted(d) of a dict with rows as keys -/
def prow (x : List Int) : PyData := .tuple (x.map PyData.int)
theorem prow_alike (a b : List Int) : PySem.W.alike (prow a) (prow b) = true := by unfold prow; simp [PySem.W.alike, MM.alike_ints]
theorem prow_lt (a b : List Int) : PySem.W.dataLt (prow a) (prow b) = decide (a < b) := by
  unfold prow
  rw [PySem.W.dataLt_tuple]
  have h3 := PySem.W.dataLt_ints a b
  unfold PySem.W.rowLt at h3
  exact h3
theorem le_prow (x y : List Int) : PySem.W.dataLe false prow x y = decide (x ≤ y) := by
  rw [PySem.W.dataLe_eq]
  show (!PySem.W.dataLt (prow y) (prow x)) = _
  rw [prow_lt, Bool.eq_iff_iff]
  simp only [Bool.not_eq_true', decide_eq_false_iff_not, decide_eq_true_eq]
  exact ⟨fun h => List.not_lt.mp h, fun h => List.not_lt.mpr h⟩
theorem prow_depth (x : List Int) : (prow x).depth ≤ 60 := by
  unfold prow
  simp [PyData.depth, PyData.depthAll, PySem.W.depth_ints]
theorem sort_rows (bs : List (V × List Int)) (hn : (bs.map (·.2)).Nodup) : ∃ L : List (V × List Int), L.Perm bs ∧ (L.map (·.2)).Pairwise (· < ·) ∧
    bs.mergeSort (PySem.W.dataLe false (fun p : V × List Int => prow p.2)) = L := by
  refine ⟨bs.mergeSort fun p q => decide (p.2 ≤ q.2), List.mergeSort_perm _ _, ?_, ?_⟩
  · refine strict ?_ (((List.mergeSort_perm bs _).map (·.2)).nodup_iff.mpr hn)
    rw [List.pairwise_map]
    have := List.pairwise_mergeSort (le := fun p q : V × List Int => decide (p.2 ≤ q.2)) (fun a b c h1 h2 => decide_eq_true (List.le_trans (of_decide_eq_true h1) (of_decide_eq_true h2))) (fun a b => by
      rcases List.le_total a.2 b.2 with h | h
      · simp [h]
      · simp [h]) bs
    exact this.imp fun h => of_decide_eq_true h
  · congr 1
    funext p q
    exact le_prow p.2 q.2
/-- Rs: the rows, in the dict's order -/
def rSortDT : List V → Hp → VK → Prop := fun vs H Q => ∃ (d : Addr) (kvs : List (List Key × V)) (Rs : List (List Int)), vs = [.ref d] ∧ Rd H d (.dT kvs) ∧ kvs.map (·.1) = Rs.map (fun x => x.map Sum.inl) ∧ Rs.Nodup ∧ (∀ x ∈ Rs, x ≠ []) ∧
  ∀ p (S : List (V × List Int)), H p = none → (S.map (·.2)).Pairwise (· < ·) → (S.map (·.2)).Perm Rs → (∀ e ∈ S, ∃ b, e.1 = V.ref b ∧ H b = some (.tup (e.2.map V.int))) → Q (.ref p) (upd H p (.lst (S.map (·.1))))
section
variable {X : Cx}
theorem rowsPaired {P : Program} {w : World} {H : Hp} : ∀ {kvs : List (List Key × V)} {ks : List (List Key × Addr × Value)} {Rs : List (List Int)}, KT H kvs ks → kvs.map (·.1) = Rs.map (fun x => x.map Sum.inl) → Paired (fun (b : Addr) (x : List Int) => H b = some (.tup (x.map V.int))) (ks.map fun x => x.2.1) Rs
  | [], _, Rs, r, e => by
    cases r
    cases Rs with
    | nil => exact .nil
    | cons x Rs => exact nomatch e
  | p :: kvs, _, Rs, r, e => by
    cases r with
    | @cons _ q _ qs h t =>
      cases Rs with
      | nil => exact nomatch e
      | cons x Rs =>
        rw [List.map_cons, List.map_cons] at e
        injection e with e1 e2
        refine .cons ?_ (rowsPaired (P := P) (w := w) t e2)
        have h2 := h.2.1
        rw [e1, List.map_map] at h2
        exact h2
theorem each_refs {H : Hp} {R : Value → V × List Int → Prop} : ∀ {as : List Addr} {Rs : List (List Int)}, Paired (fun (b : Addr) (x : List Int) => H b = some (.tup (x.map V.int))) as Rs → (∀ b x, H b = some (.tup (x.map V.int)) → R (.ref b) (.ref b, x)) → PySem.W.EachIs R (as.map Value.ref) ((as.map V.ref).zip Rs)
  | [], _, r, _ => by cases r; exact .nil
  | a :: as, _, r, k => by
    cases r with
    | cons h t => exact .cons (k _ _ h) (each_refs t k)
theorem zip_refs {H : Hp} : ∀ {as : List Addr} {Rs : List (List Int)}, Paired (fun (b : Addr) (x : List Int) => H b = some (.tup (x.map V.int))) as Rs → ∀ p ∈ (as.map V.ref).zip Rs, ∃ b, p.1 = V.ref b ∧ H b = some (.tup (p.2.map V.int))
  | [], _, r => by cases r; exact fun _ h => nomatch h
  | a :: as, _, r => by
    cases r with
    | cons h t =>
      intro p hp
      rcases List.mem_cons.mp hp with e | e
      · rw [e]; exact ⟨a, rfl, h⟩
      · exact zip_refs t p e
theorem vals_of_eachR : ∀ {bs : List (V × List Int)} {us : List Value}, PySem.W.EachIs (fun u (b : V × List Int) => RelV b.1 u) us bs → Vals (bs.map (·.1)) us
  | [], _, h => by cases h; exact .nil
  | b :: bs, _, h => by
    cases h with
    | cons r t => exact .cons r (vals_of_eachR t)
theorem cr_sortDT (hc : X.calm = true) (hu : X.A.units + 64 < cLine) : CallR X (.builtin "sorted") rSortDT := by
  intro pins s σ H vs us Q I r q
  obtain ⟨d, kvs, Rs, rfl, hd, eK, hnd, hne, q⟩ := q
  rw [Vals.ref1 r]
  obtain ⟨z, hs, ks, pr, o, es, ep, ho, hx, hdt, he, hn⟩ := (show ObjOk X.prog X.w H s.heap d (.dT kvs) from hd.ok I.hok)
  have l1 : es.size = ks.length := size_of_entries he
  have l2 : kvs.length = ks.length := Paired.length pr
  have hp := rowsPaired (P := X.prog) (w := X.w) pr eK
  refine call_function_entry kind_sorted plain_sorted entry_sorted (args_sorted1 _) ?_
  unfold Builtin.«sorted»
  refine wpAny_bind (m := checkCount "sorted" 1 1 _) (wpAny_pure ?_)
  refine wpAny_bind (PySem.W.kdu_collect (A := X.A.in1) (kdl_raw hs hx hdt) (I.ok.hd hc) ho (by omega) fun h' tk acc' kp it => ?_)
  have ea : acc'.toList = (ks.map fun x => x.2.1).map Value.ref := by
    have hl : acc'.toList.length = ks.length := by rw [Array.length_toList, it.1]; exact l1
    rw [List.map_map]
    apply List.ext_getElem?
    intro j
    rw [List.getElem?_map]
    cases hj : acc'.toList[j]? with
    | none =>
      have h1 := List.getElem?_eq_none_iff.mp hj
      rw [List.getElem?_eq_none (by omega)]
      all_goals rfl
    | some v =>
      obtain ⟨en, hen, hv⟩ := it.2 j v (by rw [← Array.getElem?_toList]; exact hj)
      have qe := entry_at he j
      rw [hen] at qe
      cases hb : ks[j]? with
      | none =>
        rw [hb] at qe
        exact nomatch (show some en = none from qe)
      | some b =>
        rw [hb] at qe
        have e2 : en = entryOfKey (tupleKind (mixKind X.prog X.w)) b := Option.some.inj qe
        rw [hv, e2]
        all_goals rfl
  rw [ea]
  generalize has : (ks.map fun x => x.2.1) = as at hp ea
  have la : as.length = ks.length := by rw [← has, List.length_map]
  have lr : as.length = Rs.length := Paired.length hp
  refine wpAny_bind (wpAny_newList ?_ (by rw [List.length_map]; omega))
  have kp2 : ∀ b o, s.heap.get? b = some o → (h'.push { cls := .type "list", data := .seq (as.map Value.ref).toArray }).get? b = some o := fun b o e => Heap.get?_push_of_some _ (kp b o e)
  have hA : (h'.push { cls := .type "list", data := .seq (as.map Value.ref).toArray }).get? h'.objs.size = some (seqObj "list" (as.map Value.ref).toArray 0) := Heap.get?_push_size _ rfl
  have hgone : s.heap.get? h'.objs.size = none := by
    cases e : s.heap.get? h'.objs.size with
    | none => rfl
    | some o => exact absurd (Heap.lt_size (kp _ _ e)) (Nat.lt_irrefl _)
  have hfree : H h'.objs.size = none := I.hok.gone hgone
  have reads : ∀ (h2 : Heap), (∀ b o, s.heap.get? b = some o → h2.get? b = some o) → ∀ b x, H b = some (.tup (x.map V.int)) → ∃ as, Reads h2 (.ref b) (prow x) as := fun h2 k b x e => by
    obtain ⟨as, r1⟩ := Dp.reads I (prow x) (.ref b) (.ref b) (dp_row (SqT.of e)) rfl
    exact ⟨as, PyProof.Rows.Reads.keeps k r1⟩
  have nA : ∀ b o, s.heap.get? b = some o → b ≠ h'.objs.size := fun b o e z => by rw [z, hgone] at e; cases e
  have sl : sizeLine = 16777216 := by decide
  have fstz : (((as.map V.ref).zip Rs).map (·.1)) = as.map V.ref := List.map_fst_zip (by rw [List.length_map]; omega)
  have sndz : (((as.map V.ref).zip Rs).map (·.2)) = Rs := List.map_snd_zip (by rw [List.length_map]; omega)
  obtain ⟨L, hperm, hsorted, eL⟩ := sort_rows ((as.map V.ref).zip Rs) (by rw [sndz]; exact hnd)
  generalize hvs : as.map Value.ref = vs at hA kp2 ea ⊢
  have lv : vs.length = as.length := by rw [← hvs, List.length_map]
  generalize hH2 : h'.push { cls := .type "list", data := .seq vs.toArray } = h2 at hA kp2 ⊢
  have e0 : PySem.W.EachIs (fun u (b : V × List Int) => RelV b.1 u) vs ((as.map V.ref).zip Rs) := by rw [← hvs]; exact each_refs hp fun b x _ => rfl
  have er : PySem.W.EachIs (fun u (b : V × List Int) => ∃ as, Reads (PySem.W.sortingHeap h2 h'.objs.size vs) u (prow b.2) as) vs ((as.map V.ref).zip Rs) := by
    rw [← hvs]
    exact each_refs hp fun b x e => by
      rw [hvs]
      exact reads _ (fun b o q => PySem.W.sortingHeap_old (nA b o q) (kp2 b o q)) b x e
  have hal : PySem.W.AllAlike (((as.map V.ref).zip Rs).map fun b => prow b.2) := fun x hx y hy => by
    obtain ⟨p, _, rfl⟩ := List.mem_map.mp hx
    obtain ⟨p2, _, rfl⟩ := List.mem_map.mp hy
    exact prow_alike _ _
  have hk : PySem.W.Sortable (((as.map V.ref).zip Rs).map fun b => prow b.2) := .inl fun x hx => by
    obtain ⟨p, hp, rfl⟩ := List.mem_map.mp hx
    have hm : p.2 ∈ Rs := by rw [← sndz]; exact List.mem_map.mpr ⟨p, hp, rfl⟩
    have := hne _ hm
    cases h : p.2 with
    | nil => exact absurd h this
    | cons g w => exact ⟨_, _, rfl⟩
  have S := PySem.W.SortsAt.data (prog := X.prog) (w := X.w) (A := X.A.in1.in1) (s := { s with heap := PySem.W.sortingHeap h2 h'.objs.size vs, toks := tk }) (PySem.W.each_map (R := fun v d => ∃ as, Reads (PySem.W.sortingHeap h2 h'.objs.size vs) v d as) (fun b : V × List Int => prow b.2) er) hal hk (fun d hd => by
    obtain ⟨p, _, rfl⟩ := List.mem_map.mp hd
    have := prow_depth p.2
    show X.A.in1.in1.units + _ < _
    simp only [Around.in1]
    omega)
  have eV := PySem.W.sortVals_data (h' := PySem.W.sortingHeap h2 h'.objs.size vs) (R := fun u (b : V × List Int) => RelV b.1 u) (enc := fun b : V × List Int => prow b.2) false e0 er hal
  rw [eL] at eV
  have rvL := vals_of_eachR eV
  have fin : ∀ (h3 : Heap), (∀ b o, s.heap.get? b = some o → h3.get? b = some o) → (∃ n, h3.get? h'.objs.size = some (seqObj "list" (PySem.W.sortVals (PySem.W.dataKind (PySem.W.sortingHeap h2 h'.objs.size vs) (((as.map V.ref).zip Rs).map fun b => prow b.2)) false vs vs).toArray n)) → EP X pins σ Q (.ref h'.objs.size) { s with heap := h3, toks := tk } := fun h3 k3 ⟨n3, e3⟩ => by
    have J := I.laidN (a := h'.objs.size) (o := .lst (L.map (·.1))) (h' := h3) (t' := tk) k3 hgone hfree ⟨by
      have := hperm.length_eq
      rw [List.length_map, this, List.length_zip, List.length_map]
      have : min as.length Rs.length ≤ as.length := Nat.min_le_left _ _
      omega, _, n3, rvL, e3⟩
    refine ⟨.ref h'.objs.size, _, J, rfl, q _ L hfree hsorted (by rw [← sndz]; exact hperm.map _) fun e he => zip_refs hp e (hperm.mem_iff.mp he)⟩
  have hg : wpAny (model X.prog X.w) X.A.in1 (call (.builtin "list.sort") [.ref h'.objs.size]) (fun _ s' => EP X pins σ Q (.ref h'.objs.size) s') X.xe { s with heap := h2, toks := tk } := by
    refine wpAny_call_entry slot_list_sort ⟨_, hA, rfl⟩ entry_list_sort (PySem.W.list_sort_vals (s := { s with heap := h2, toks := tk }) hA S (by rw [lv]; omega) ⟨.none, rfl, ?_⟩) (args_list_sort _)
    refine fin _ (fun b o e => ?_) (sortedHeap_at hA)
    rw [sortedHeap_old (nA b o e) (Heap.lt_size (kp2 b o e))]
    exact kp2 b o e
  refine wpAny_bind (wpAny_holding (wpAny_mono hg (fun _ s' x => ?_) fun _ _ e => e))
  exact wpAny_pure ⟨_, rfl, x⟩
end
end MM
namespace MM
open PySem PySem.Calls PySem.Spec PyProof.Rows L2 GxR
/-! ### sorted(d) of such a dict -/
/-- Es: each row's own tuple and the row, in the dict's order -/
def rSortF (P : Program) (w : World) : List V → Hp → VK → Prop := fun vs H Q => ∃ (d : Addr) (xs : KXs) (Es : List (Addr × List Int)), vs = [.ref d] ∧ Rd H d (.ext (DTp P w d xs)) ∧ KeysF H xs ∧ (xs.map fun p => (p.1, p.2.1)) = Es.map (fun e => (e.2.map Sum.inl, e.1)) ∧ (Es.map (·.2)).Nodup ∧ (∀ x ∈ Es.map (·.2), x ≠ []) ∧
  ∀ p (S : List (V × List Int)), H p = none → (S.map (·.2)).Pairwise (· < ·) → S.Perm (Es.map fun e => (V.ref e.1, e.2)) → Q (.ref p) (upd H p (.lst (S.map (·.1))))
theorem addrs_of : ∀ {xs : KXs} {ks : List (List Key × Addr × Value)} {Es : List (Addr × List Int)}, KTn xs ks → (xs.map fun p => (p.1, p.2.1)) = Es.map (fun e => (e.2.map Sum.inl, e.1)) → (ks.map fun x => x.2.1) = Es.map (·.1)
  | [], _, Es, r, e => by
    cases r
    cases Es with
    | nil => rfl
    | cons x Es => exact nomatch e
  | p :: xs, _, Es, r, e => by
    cases r with
    | @cons _ q _ qs h t =>
      cases Es with
      | nil => exact nomatch e
      | cons x Es =>
        rw [List.map_cons, List.map_cons] at e
        injection e with e1 e2
        rw [List.map_cons, List.map_cons, addrs_of t e2]
        injection e1 with e3 e4
        rw [← h.2.1, e4]
theorem paired_maps {G : Addr → List Int → Prop} : ∀ {Es : List (Addr × List Int)}, (∀ e ∈ Es, G e.1 e.2) → Paired G (Es.map (·.1)) (Es.map (·.2))
  | [], _ => .nil
  | e :: Es, h => .cons (h e List.mem_cons_self) (paired_maps fun x hx => h x (List.mem_cons_of_mem _ hx))
theorem zip_maps : ∀ (Es : List (Addr × List Int)), ((Es.map (·.1)).map V.ref).zip (Es.map (·.2)) = Es.map fun e => (V.ref e.1, e.2)
  | [] => rfl
  | e :: Es => by
    show (V.ref e.1, e.2) :: ((Es.map (·.1)).map V.ref).zip (Es.map (·.2)) = _
    rw [zip_maps Es]; rfl
theorem each_refsG {G : Addr → List Int → Prop} {R : Value → V × List Int → Prop} : ∀ {as : List Addr} {Rs : List (List Int)}, Paired G as Rs → (∀ b x, G b x → R (.ref b) (.ref b, x)) → PySem.W.EachIs R (as.map Value.ref) ((as.map V.ref).zip Rs)
  | [], _, h, _ => by cases h; exact .nil
  | b :: as, _, h, f => by
    cases h with
    | cons p t => exact .cons (f _ _ p) (each_refsG t f)
section
variable {X : Cx} {P : Program} {w : World}
theorem cr_sortF (hP : X.prog = P) (hw : X.w = w) (hc : X.calm = true) (hu : X.A.units + 64 < cLine) : CallR X (.builtin "sorted") (rSortF P w) := by
  subst hP hw
  intro pins s σ H vs us Q I r q
  obtain ⟨d, xs, Es, rfl, hd, hkeys, eK, hnd, hne, q⟩ := q
  rw [Vals.ref1 r]
  obtain ⟨z, hs, ks, pr, o, es, ep, ho, hx, hdt, he, hn⟩ := (show ObjOk X.prog X.w H s.heap d (.ext (DTp X.prog X.w d xs)) from hd.ok I.hok).1
  have l1 : es.size = ks.length := size_of_entries he
  have l2 : xs.length = ks.length := Paired.length pr
  generalize hRs : Es.map (·.2) = Rs at hnd hne
  have has0 : (ks.map fun x => x.2.1) = Es.map (·.1) := addrs_of pr eK
  have hp : Paired (fun (b : Addr) (x : List Int) => SqT X.K H b (x.map V.int)) (ks.map fun x => x.2.1) Rs := by
    rw [has0, ← hRs]
    exact paired_maps (fun e he => by
      obtain ⟨p, hp, e2⟩ := List.mem_map.mp (eK ▸ List.mem_map.mpr ⟨e, he, rfl⟩ : (e.2.map Sum.inl, e.1) ∈ xs.map fun p => (p.1, p.2.1))
      have h1 := (hkeys p hp).sqt (K := X.K)
      injection e2 with e3 e4
      rw [e3, e4, List.map_map] at h1
      exact h1)
  refine call_function_entry kind_sorted plain_sorted entry_sorted (args_sorted1 _) ?_
  unfold Builtin.«sorted»
  refine wpAny_bind (m := checkCount "sorted" 1 1 _) (wpAny_pure ?_)
  refine wpAny_bind (PySem.W.kdu_collect (A := X.A.in1) (kdl_raw hs hx hdt) (I.ok.hd hc) ho (by omega) fun h' tk acc' kp it => ?_)
  have ea : acc'.toList = (ks.map fun x => x.2.1).map Value.ref := by
    have hl : acc'.toList.length = ks.length := by rw [Array.length_toList, it.1]; exact l1
    rw [List.map_map]
    apply List.ext_getElem?
    intro j
    rw [List.getElem?_map]
    cases hj : acc'.toList[j]? with
    | none =>
      have h1 := List.getElem?_eq_none_iff.mp hj
      rw [List.getElem?_eq_none (by omega)]
      all_goals rfl
    | some v =>
      obtain ⟨en, hen, hv⟩ := it.2 j v (by rw [← Array.getElem?_toList]; exact hj)
      have qe := entry_at he j
      rw [hen] at qe
      cases hb : ks[j]? with
      | none =>
        rw [hb] at qe
        exact nomatch (show some en = none from qe)
      | some b =>
        rw [hb] at qe
        have e2 : en = entryOfKey (tupleKind (mixKind X.prog X.w)) b := Option.some.inj qe
        rw [hv, e2]
        all_goals rfl
  rw [ea]
  generalize has : (ks.map fun x => x.2.1) = as at hp ea
  have la : as.length = ks.length := by rw [← has, List.length_map]
  have lr : as.length = Rs.length := Paired.length hp
  refine wpAny_bind (wpAny_newList ?_ (by rw [List.length_map]; omega))
  have kp2 : ∀ b o, s.heap.get? b = some o → (h'.push { cls := .type "list", data := .seq (as.map Value.ref).toArray }).get? b = some o := fun b o e => Heap.get?_push_of_some _ (kp b o e)
  have hA : (h'.push { cls := .type "list", data := .seq (as.map Value.ref).toArray }).get? h'.objs.size = some (seqObj "list" (as.map Value.ref).toArray 0) := Heap.get?_push_size _ rfl
  have hgone : s.heap.get? h'.objs.size = none := by
    cases e : s.heap.get? h'.objs.size with
    | none => rfl
    | some o => exact absurd (Heap.lt_size (kp _ _ e)) (Nat.lt_irrefl _)
  have hfree : H h'.objs.size = none := I.hok.gone hgone
  have reads : ∀ (h2 : Heap), (∀ b o, s.heap.get? b = some o → h2.get? b = some o) → ∀ b x, SqT X.K H b (x.map V.int) → ∃ as, Reads h2 (.ref b) (prow x) as := fun h2 k b x e => by
    obtain ⟨as, r1⟩ := Dp.reads I (prow x) (.ref b) (.ref b) (dp_row e) rfl
    exact ⟨as, PyProof.Rows.Reads.keeps k r1⟩
  have nA : ∀ b o, s.heap.get? b = some o → b ≠ h'.objs.size := fun b o e z => by rw [z, hgone] at e; cases e
  have sl : sizeLine = 16777216 := by decide
  have fstz : (((as.map V.ref).zip Rs).map (·.1)) = as.map V.ref := List.map_fst_zip (by rw [List.length_map]; omega)
  have sndz : (((as.map V.ref).zip Rs).map (·.2)) = Rs := List.map_snd_zip (by rw [List.length_map]; omega)
  obtain ⟨L, hperm, hsorted, eL⟩ := sort_rows ((as.map V.ref).zip Rs) (by rw [sndz]; exact hnd)
  generalize hvs : as.map Value.ref = vs at hA kp2 ea ⊢
  have lv : vs.length = as.length := by rw [← hvs, List.length_map]
  generalize hH2 : h'.push { cls := .type "list", data := .seq vs.toArray } = h2 at hA kp2 ⊢
  have e0 : PySem.W.EachIs (fun u (b : V × List Int) => RelV b.1 u) vs ((as.map V.ref).zip Rs) := by rw [← hvs]; exact each_refsG hp fun b x _ => rfl
  have er : PySem.W.EachIs (fun u (b : V × List Int) => ∃ as, Reads (PySem.W.sortingHeap h2 h'.objs.size vs) u (prow b.2) as) vs ((as.map V.ref).zip Rs) := by
    rw [← hvs]
    exact each_refsG hp fun b x e => by
      rw [hvs]
      exact reads _ (fun b o q => PySem.W.sortingHeap_old (nA b o q) (kp2 b o q)) b x e
  have hal : PySem.W.AllAlike (((as.map V.ref).zip Rs).map fun b => prow b.2) := fun x hx y hy => by
    obtain ⟨p, _, rfl⟩ := List.mem_map.mp hx
    obtain ⟨p2, _, rfl⟩ := List.mem_map.mp hy
    exact prow_alike _ _
  have hk : PySem.W.Sortable (((as.map V.ref).zip Rs).map fun b => prow b.2) := .inl fun x hx => by
    obtain ⟨p, hp, rfl⟩ := List.mem_map.mp hx
    have hm : p.2 ∈ Rs := by rw [← sndz]; exact List.mem_map.mpr ⟨p, hp, rfl⟩
    have := hne _ hm
    cases h : p.2 with
    | nil => exact absurd h this
    | cons g w => exact ⟨_, _, rfl⟩
  have S := PySem.W.SortsAt.data (prog := X.prog) (w := X.w) (A := X.A.in1.in1) (s := { s with heap := PySem.W.sortingHeap h2 h'.objs.size vs, toks := tk }) (PySem.W.each_map (R := fun v d => ∃ as, Reads (PySem.W.sortingHeap h2 h'.objs.size vs) v d as) (fun b : V × List Int => prow b.2) er) hal hk (fun d hd => by
    obtain ⟨p, _, rfl⟩ := List.mem_map.mp hd
    have := prow_depth p.2
    show X.A.in1.in1.units + _ < _
    simp only [Around.in1]
    omega)
  have eV := PySem.W.sortVals_data (h' := PySem.W.sortingHeap h2 h'.objs.size vs) (R := fun u (b : V × List Int) => RelV b.1 u) (enc := fun b : V × List Int => prow b.2) false e0 er hal
  rw [eL] at eV
  have rvL := vals_of_eachR eV
  have fin : ∀ (h3 : Heap), (∀ b o, s.heap.get? b = some o → h3.get? b = some o) → (∃ n, h3.get? h'.objs.size = some (seqObj "list" (PySem.W.sortVals (PySem.W.dataKind (PySem.W.sortingHeap h2 h'.objs.size vs) (((as.map V.ref).zip Rs).map fun b => prow b.2)) false vs vs).toArray n)) → EP X pins σ Q (.ref h'.objs.size) { s with heap := h3, toks := tk } := fun h3 k3 ⟨n3, e3⟩ => by
    have J := I.laidN (a := h'.objs.size) (o := .lst (L.map (·.1))) (h' := h3) (t' := tk) k3 hgone hfree ⟨by
      have := hperm.length_eq
      rw [List.length_map, this, List.length_zip, List.length_map]
      have : min as.length Rs.length ≤ as.length := Nat.min_le_left _ _
      omega, _, n3, rvL, e3⟩
    refine ⟨.ref h'.objs.size, _, J, rfl, q _ L hfree hsorted (hperm.trans (by rw [← has, has0, ← hRs, zip_maps]))⟩
  have hg : wpAny (model X.prog X.w) X.A.in1 (call (.builtin "list.sort") [.ref h'.objs.size]) (fun _ s' => EP X pins σ Q (.ref h'.objs.size) s') X.xe { s with heap := h2, toks := tk } := by
    refine wpAny_call_entry slot_list_sort ⟨_, hA, rfl⟩ entry_list_sort (PySem.W.list_sort_vals (s := { s with heap := h2, toks := tk }) hA S (by rw [lv]; omega) ⟨.none, rfl, ?_⟩) (args_list_sort _)
    refine fin _ (fun b o e => ?_) (sortedHeap_at hA)
    rw [sortedHeap_old (nA b o e) (Heap.lt_size (kp2 b o e))]
    exact kp2 b o e
  refine wpAny_bind (wpAny_holding (wpAny_mono hg (fun _ s' x => ?_) fun _ _ e => e))
  exact wpAny_pure ⟨_, rfl, x⟩
end
end MM
namespace MM
open PySem PySem.Spec PyProof.Rows L2 GxR
/-! ### {k: v for target in iter}: the keys are tuples known to have no dict -/
section
variable {Y : Cx} {ps : List (Addr × Obj)} {τ : L2.St} {G : Hp} {t : Shared} {E : Value → Shared → Prop}
theorem d_storeF {D b : Addr} {ent : KXs} {kk : List Key} {y : V} {r : Value} {Q : Unit → Shared → Prop} (hu : Y.A.units + 1 < cLine) (J : Inv Y ps τ G t) (eD : DFo Y.prog Y.w G D ent) (eb : FTup G b (kk.map kV)) (hz : ent.length < sizeLine)
    (rr : RelV y r) (q : ∀ G' t', Inv Y ps τ G' t' → ExB (fun a => a = D) G G' → DFo Y.prog Y.w G' D (putX ent kk b y) → Q () t') : wpAny (model Y.prog Y.w) Y.A (dictSet D (.ref b) r) Q E t := by
  obtain ⟨z0, nS, old, both, isD⟩ := df_full J eD.rd
  refine wpAny_dictSet_heap (hsz := (Paired.length both) ▸ z0) (show (tupleKind (mixKind Y.prog Y.w)).room Y.A from (show Y.A.units < cLine by omega)) (key_ofS J eb.sqt) isD fun hp new sb => ?_
  obtain ⟨ob, e1, e2, got, c1, c2, c3, _, c4⟩ := new
  have more : (putX ent kk b y).length ≤ sizeLine := by rw [putX_len]; have := length_putK (kvX ent) kk y; rw [kvX_len] at this; omega
  have x := ex_setX (o := .ext (DTp Y.prog Y.w D (putX ent kk b y))) eD.1
  exact q _ _ (d_write J (by rw [eD.1]; trivial) sb ⟨ob, got⟩ (dtp_ok ⟨more, nS, _, both.put kk rr, ob, e1, e2, got, c1, c2, c3, c4⟩)) x ⟨upd_same, (eD.2.ex x).put (eb.ex x) y⟩
end
/-- what the block of such a comprehension is asked -/
def tDcF (P : Program) (w : World) (wi : TI) (g : TG) (tt : TT) (tk tv : TE) (own : List Nat) : TE := fun σ H Q => wi σ H fun J Ha => ∀ D Hz, Ha D = none → Ex Ha Hz → DFo P w Hz D [] → ∃ Go : Nat → Nat → Hp → Prop, (∃ m, Go 0 m Hz) ∧
  ∀ i m Hb, Go i m Hb → (J.stop i Hb ∧ Q (.ref D) Hb) ∨ (J.go i Hb ∧ ∃ Af : Hp → Prop, (∀ Hc, Af Hc → ∃ m', m' < m ∧ Go (i + 1) m' Hc) ∧ ∀ x Hc, J.yld i Hb x Hc → g x (wipe σ own) Hc fun τ Hd => wipe τ own = wipe σ own ∧ tt τ Hd fun c He =>
    if c = true then tk τ He fun a Hf => tv τ Hf fun b Hg => ∃ (ent : KXs) (kk : List Key) (q : Addr), a = .ref q ∧ FTup Hg q (kk.map kV) ∧ DFo P w Hg D ent ∧ ent.length < sizeLine ∧ ∀ Hx, ExB (fun z => z = D) Hg Hx → DFo P w Hx D (putX ent kk q b) → Af Hx else Af He)
theorem pe_dcF {X : Cx} {kx vx tg iter : Expr} {ifs : List Expr} {scope : Scope} {own : List (Str × Nat)} {pos : Pos} {wi : TI} {g : TG} {tt : TT} {tk tv : TE} (hu : X.A.units + 1 < cLine) (hc : X.calm = true) (hN : X.N.Nodup) (hi : PI X tg iter wi) (ok : BlkOk X.N X.env.scope scope own)
    (hg : ∀ s H C cl fp, PG (X.blk s H scope (compEnvC scope cl C X.env) fp) tg g) (ht : ∀ s H C cl fp, PTs (X.blk s H scope (compEnvC scope cl C X.env) fp) ifs tt)
    (hk : ∀ s H C cl fp, PE (X.blk s H scope (compEnvC scope cl C X.env) fp) kx tk) (hv : ∀ s H C cl fp, PE (X.blk s H scope (compEnvC scope cl C X.env) fp) vx tv)
    (hs : ∀ x, foldedSetIterable iter X.env x = pure x := by intro _; rfl) : PE X (.DictComp kx vx [⟨tg, iter, ifs, 0⟩] scope pos) (tDcF X.prog X.w wi g tt tk tv (own.map (·.2))) := by
  constructor
  intro pins s σ H Q I0 asked
  have freeOk : ∀ y ∈ scope.names, y.2 = .free → ∃ c, X.env.cells.lookup y.1 = some c := fun y hy e => I0.ok.has _ ((ok.free y hy e).imp id id)
  rw [arm_eval_DictComp]
  apply wpAny_comprehension_free (use := none) rfl hs (closure_ok freeOk) ok.kind (fun y hy e => by rw [ok.uniq y hy, e])
  refine thn (hi.run pins s σ H _ I0 asked) fun src sA iterd => thn iterd fun itv sB got => ?_
  obtain ⟨it, fp, tn, J, Ha, rfl, IB, T, stB, foot, ask⟩ := got
  refine wpAny_newObj_type ?_
  refine newEnv_comp ?_
  -- the new dict
  obtain ⟨D, hD⟩ : ∃ D, sB.heap.objs.size = D := ⟨_, rfl⟩
  rw [hD]
  obtain ⟨Go, ⟨first, go0⟩, turns⟩ := ask D _ (IB.hok.fresh (Nat.le_of_eq hD)) (ex_new (IB.hok.fresh (Nat.le_of_eq hD))) ⟨upd_same, KeysF.nil⟩
  obtain ⟨sC, hsC⟩ : ∃ sC : Shared, sC = { sB with heap := sB.heap.push { cls := .type "dict", data := .dict #[] } } := ⟨_, rfl⟩
  have heapC : sC.heap = sB.heap.push { cls := .type "dict", data := .dict #[] } := by rw [hsC]
  have IC : Inv X pins σ (upd Ha D (.ext (DTp X.prog X.w D []))) sC := by
    rw [hsC, ← hD]
    exact IB.laid (t' := sB.toks) (fun b o e => Heap.get?_push_of_some _ e) (Nat.le_refl _) (dtp_ok ⟨Nat.zero_le _, beq_eq_false_iff_ne.mpr (Ne.symm (Nat.ne_of_lt IB.big)), [], .nil, _, #[], 0, Heap.get?_push_size _ rfl, ⟨rfl, rfl, rfl⟩, rfl, rfl, List.nodup_nil⟩)
  have inC : ∀ b o, sB.heap.get? b = some o → sC.heap.get? b = some o := fun b o e => by rw [heapC]; exact Heap.get?_push_of_some _ e
  have footC : ∀ b ∈ fp, FpOk X pins (upd Ha D (.ext (DTp X.prog X.w D []))) b ∧ b < sC.heap.objs.size := by
    intro b hb
    obtain ⟨o, eo, _⟩ := T.obj _ _ stB b hb
    have lt : b < sB.heap.objs.size := Heap.lt_size eo
    refine ⟨⟨(upd_ne (show b ≠ D from fun z => Nat.lt_irrefl _ (by rw [← z] at hD; exact hD ▸ lt))).trans (foot b hb).1, (foot b hb).2⟩, ?_⟩
    rw [heapC, Heap.size_push]
    exact Nat.lt_succ_of_lt lt
  have stC : tn 0 sC.heap := T.keep _ _ _ stB fun b _ o => inC b o
  -- its block
  have started := block_start IC ok hN footC
  obtain ⟨cl, hcl⟩ : ∃ cl, cellsFrom (sC.heap.objs.size + 1) scope.names (cloFrom X.env.cells scope.names []) = cl := ⟨_, rfl⟩
  have goal' : codeAny (model X.prog X.w) X.A (.compStart (.DictComp kx vx [⟨tg, iter, ifs, 0⟩] scope pos) 0 (.ref it) (.ref D) (compEnvC scope cl sC.heap.objs.size X.env)) (compPost (model X.prog X.w) X.A X.xe none (fun v t' => ∃ x H', Inv X pins σ H' t' ∧ RelV x v ∧ Q x H') (.ref D) sC.heap.objs.size)
      { sC with heap := pushCells (sC.heap.push { cls := .type "dict", data := .dict #[] }) scope.names } := by
    rw [hcl] at started
    obtain ⟨sD, hsD⟩ : ∃ sD : Shared, sD = { sC with heap := pushCells (sC.heap.push { cls := .type "dict", data := .dict #[] }) scope.names } := ⟨_, rfl⟩
    rw [← hsD] at started ⊢
    have stD : tn 0 sD.heap := T.keep _ _ _ stC fun b _ o e => by rw [hsD]; exact pushCells_keeps _ _ _ _ (Heap.get?_push_of_some _ e)
    have targetP := hg sC (upd Ha D (.ext (DTp X.prog X.w D []))) sC.heap.objs.size cl fp
    have testsP := ht sC (upd Ha D (.ext (DTp X.prog X.w D []))) sC.heap.objs.size cl fp
    have keyP := hk sC (upd Ha D (.ext (DTp X.prog X.w D []))) sC.heap.objs.size cl fp
    have valP := hv sC (upd Ha D (.ext (DTp X.prog X.w D []))) sC.heap.objs.size cl fp
    obtain ⟨ce, hce⟩ : ∃ ce, compEnvC scope cl sC.heap.objs.size X.env = ce := ⟨_, rfl⟩
    have locC : ce.locals = sC.heap.objs.size := by rw [← hce]; rfl
    rw [hce] at started targetP testsP keyP valP ⊢
    obtain ⟨Hn, hHn⟩ : ∃ Hn, upd Ha D (.ext (DTp X.prog X.w D [])) = Hn := ⟨_, rfl⟩
    rw [hHn] at IC started targetP testsP keyP valP go0 footC
    have still : ∀ {τ : L2.St} {G : Hp} {t : Shared}, Inv (X.blk sC Hn scope ce fp) [] τ G t → (∀ b ∈ fp, G b = none) → ∀ b ∈ fp, FpOk (X.blk sC Hn scope ce fp) [] G b := by
      intro τ G t K0 none b hb
      have fr := K0.ok.exf b hb
      exact ⟨none b hb, fr.1, K0.ok.exfs b hb, .inl hb, fun x c => fr.2 x c, fun p hp => by simp at hp⟩
    have looped : codeAny (model X.prog X.w) X.A (.compLoop (.DictComp kx vx [⟨tg, iter, ifs, 0⟩] scope pos) 0 (.ref it) (.ref D) ce) (compPost (model X.prog X.w) X.A X.xe none (fun v t' => ∃ x H', Inv X pins σ H' t' ∧ RelV x v ∧ Q x H') (.ref D) sC.heap.objs.size) sD := by
      apply compLoop_anyD (fun left t => ∃ i G, Inv (X.blk sC Hn scope ce fp) [] (wipe σ (own.map (·.2))) G t ∧ tn i t.heap ∧ (∀ b ∈ fp, G b = none) ∧ Go i left G) (n := first) (h := ⟨0, Hn, started, stD, fun b hb => (footC b hb).1.1, go0⟩)
      rintro left t ⟨i, G, IG, stG, noG, goG⟩
      cases turns i left G goG with
      | inl ends =>
        refine thnF (T.done (X.blk sC Hn scope ce fp) rfl rfl rfl hc i [] t _ G (fun _ _ => False) IG (still IG noG) stG ends.1) fun r t1 ⟨er, IT⟩ => ?_
        rw [er]
        have back : Inv X pins σ G t1 := IC.call' (ch := fp) IT.os IT.base IT.hok IT.bare fun b hb => by
          have f := (footC b hb).1.2
          exact ⟨f.2.2.1, f.1, f.2.2.2.1, f.2.2.2.2⟩
        have unseen : G sC.heap.objs.size = none := locC ▸ (show G ce.locals = none from IT.free)
        obtain ⟨m, hm, _⟩ := IT.loc
        have hm : t1.heap.Ns sC.heap.objs.size m := locC ▸ (show t1.heap.Ns ce.locals m from hm)
        obtain ⟨f0, f1, f2, f3, f4, f5⟩ := IC.fpOk (H' := G) (Nat.le_refl _) unseen
        exact ⟨m, hm, fun h2 sb => ⟨.ref D, G, back.turned (t' := t1.toks) (fun b o hb e => (sb.2 b hb).trans e) f0 f1 f3 f4 f5, rfl, ends.2⟩⟩
      | inr goes =>
        obtain ⟨on, Af, less, turn⟩ := goes
        refine thnF (T.item (X.blk sC Hn scope ce fp) rfl rfl rfl hc i [] t _ G (fun _ _ => False) IG (still IG noG) stG on) fun r t1 ⟨u, er, letGo⟩ => ?_
        rw [er]
        refine thnF letGo fun _ t2 ⟨x, G2, I2, rx, yx, st2, no2⟩ => ?_
        have held := I2.pinned (still I2 no2) (T.obj _ _ st2)
        -- what a turn leaves is where the next one begins
        have next : ∀ {τ : L2.St} {G' : Hp} {t' : Shared}, wipe τ (own.map (·.2)) = wipe σ (own.map (·.2)) → Inv (X.blk sC Hn scope ce fp) ([] ++ pinsAt fp t2.heap) τ G' t' → Af G' →
            ∃ m, m < left ∧ ∃ i G, Inv (X.blk sC Hn scope ce fp) [] (wipe σ (own.map (·.2))) G t' ∧ tn i t'.heap ∧ (∀ b ∈ fp, G b = none) ∧ Go i m G := by
          intro τ G' t' ew I' af
          obtain ⟨m, lt, go'⟩ := less G' af
          have pinned : ∀ b ∈ fp, ∀ o, t2.heap.get? b = some o → t'.heap.get? b = some o ∧ G' b = none := by
            intro b hb o e
            have both := I'.pin (b, o) (List.mem_append_right _ (List.mem_append_right _ (mem_pinsAt hb e)))
            exact ⟨both.1, both.2.1⟩
          refine ⟨m, lt, i + 1, G', (I'.unpinned (pins := [])).weak (by rw [← ew, wipe_length]) (fun j v e => (wipe_some (ew ▸ e)).1), T.keep _ _ _ st2 fun b hb o e => (pinned b hb o e).1, ?_, go'⟩
          intro b hb
          obtain ⟨o, eo, _⟩ := T.obj _ _ st2 b hb
          exact (pinned b hb o eo).2
        refine thnF (targetP.run _ t2 _ G2 x u _ held rx (turn x G2 yx)) fun _ t3 ⟨τ, G3, I3, ew, ask3⟩ => thnF (testsP.run _ t3 τ G3 _ I3 ask3) fun c t4 ⟨G4, I4, ask4⟩ => ?_
        cases c with
        | true =>
          rw [if_pos rfl] at ask4
          rw [if_pos rfl]
          refine thnF (keyP.run _ t4 τ G4 _ I4 ask4) fun ku t5 ⟨yk, G5, I5, rk5, ask5⟩ => thnF (valP.run _ t5 τ G5 _ I5 ask5) fun vu t6 ⟨yv, G6, I6, rv6, ent, kk, q, eyk, eq, eD, hz, af⟩ => ?_
          rw [eyk] at rk5
          cases (show ku = Value.ref q from rk5)
          exact d_storeF (Y := X.blk sC Hn scope ce fp) hu I6 eD eq hz rv6 fun G7 t7 I7 x7 D7 => next ew I7 (af G7 x7 D7)
        | false =>
          rw [if_neg (fun z => nomatch z)] at ask4
          rw [if_neg (fun z => nomatch z)]
          exact next ew I4 ask4
    exact codeAny_compStart_dict looped (T.self X.A 0 _ _ _ stD looped)
  rw [← hcl] at goal'
  subst hsC
  exact goal'
/-- over what is walked: Pv by the turn and the heap, the new dict at D within -/
theorem dcF_it {J : It} {n : Nat} {G : Hp → Prop} {Y : Nat → Hp → V → Hp → Prop} (w : Walk J n G Y) {g : TG} {tt : TT} {tk tv : TE} {own : List Nat} {σ : L2.St} {P : Program} {w0 : World} {Ha : Hp} {D : Addr} {Qd : Hp → Prop} (Pv : Nat → Hp → Prop) (h0 : Pv 0 Ha) (hG : ∀ i H, i ≤ n → Pv i H → G H)
    (hs : ∀ i x Hb Hc, i < n → Pv i Hb → Y i Hb x Hc → g x (wipe σ own) Hc fun τ Hd => wipe τ own = wipe σ own ∧ tt τ Hd fun c He => if c = true then tk τ He fun a Hf => tv τ Hf fun b Hg =>
      ∃ (ent : KXs) (kk : List Key) (q : Addr), a = .ref q ∧ FTup Hg q (kk.map kV) ∧ DFo P w0 Hg D ent ∧ ent.length < sizeLine ∧ ∀ Hx, ExB (fun z => z = D) Hg Hx → DFo P w0 Hx D (putX ent kk q b) → Pv (i + 1) Hx else Pv (i + 1) He) (hd : ∀ H, Pv n H → Qd H) :
    ∃ Go : Nat → Nat → Hp → Prop, (∃ m, Go 0 m Ha) ∧ ∀ i m Hb, Go i m Hb → (J.stop i Hb ∧ Qd Hb) ∨ (J.go i Hb ∧ ∃ Af : Hp → Prop, (∀ Hc, Af Hc → ∃ m', m' < m ∧ Go (i + 1) m' Hc) ∧ ∀ x Hc, J.yld i Hb x Hc → g x (wipe σ own) Hc fun τ Hd => wipe τ own = wipe σ own ∧ tt τ Hd fun c He =>
      if c = true then tk τ He fun a Hf => tv τ Hf fun b Hg => ∃ (ent : KXs) (kk : List Key) (q : Addr), a = .ref q ∧ FTup Hg q (kk.map kV) ∧ DFo P w0 Hg D ent ∧ ent.length < sizeLine ∧ ∀ Hx, ExB (fun z => z = D) Hg Hx → DFo P w0 Hx D (putX ent kk q b) → Af Hx else Af He) := by
  refine ⟨fun i m H => m + i = n ∧ Pv i H, ⟨n, rfl, h0⟩, fun i m Hb ⟨hm, p⟩ => ?_⟩
  rcases Nat.lt_or_ge i n with lt | ge
  · exact .inr ⟨w.goes i Hb lt (hG i Hb (by omega) p), Pv (i + 1), fun Hc p' => ⟨m - 1, by omega, by omega, p'⟩, fun x Hc y => hs i x Hb Hc lt p (w.yields i Hb x Hc lt (hG i Hb (by omega) p) y)⟩
  · obtain rfl : i = n := by omega
    exact .inl ⟨w.stops Hb (hG i Hb (by omega) p), hd Hb p⟩
end MM
namespace MM
open PySem PySem.Spec PyProof.Rows L2 GxR
/-! ### name = {k: v for target in iter} on one line, keys of no dict -/
theorem dcF_core {X : Cx} {pins : List (Addr × Obj)} {s : Shared} {σ : L2.St} {H : Hp} {Q : VK} {kx vx tg iter : Expr} {ifs : List Expr} {scope : Scope} {own : List (Str × Nat)} {pos pos' : Pos} {wi : TI} {g : TG} {tt : TT} {tk tv : TE} {use : Option (Value → Sem Unit)} {Qf : Value → Shared → Prop} (hu : X.A.units + 1 < cLine) (hc : X.calm = true) (hN : X.N.Nodup) (I0 : Inv X pins σ H s) (hi : PI X tg iter wi) (ok : BlkOk X.N X.env.scope scope own)
    (hg : ∀ s H C cl fp, PG (X.blk s H scope (compEnvC scope cl C X.env) fp) tg g) (ht : ∀ s H C cl fp, PTs (X.blk s H scope (compEnvC scope cl C X.env) fp) ifs tt)
    (hk : ∀ s H C cl fp, PE (X.blk s H scope (compEnvC scope cl C X.env) fp) kx tk) (hv : ∀ s H C cl fp, PE (X.blk s H scope (compEnvC scope cl C X.env) fp) vx tv)
    (hs : ∀ x, foldedSetIterable iter X.env x = pure x) (asked : tDcF X.prog X.w wi g tt tk tv (own.map (·.2)) σ H Q)
    (hRR : ∀ D C s' m H', Inv X pins σ H' s' → Q (.ref D) H' → s'.heap.Ns C m → FpOk X pins H' C → compPost (model X.prog X.w) X.A X.xe use Qf (.ref D) C (.ok .next) s') :
    wpAny (model X.prog X.w) X.A (comprehension (.DictComp kx vx [⟨tg, iter, ifs, 0⟩] scope pos) scope X.env pos' newDict false (eval iter X.env) use) Qf X.xe s := by
  have freeOk : ∀ y ∈ scope.names, y.2 = .free → ∃ c, X.env.cells.lookup y.1 = some c := fun y hy e => I0.ok.has _ ((ok.free y hy e).imp id id)
  apply wpAny_comprehension_free (use := use) rfl hs (closure_ok freeOk) ok.kind (fun y hy e => by rw [ok.uniq y hy, e])
  refine thn (hi.run pins s σ H _ I0 asked) fun src sA iterd => thn iterd fun itv sB got => ?_
  obtain ⟨it, fp, tn, J, Ha, rfl, IB, T, stB, foot, ask⟩ := got
  refine wpAny_newObj_type ?_
  refine newEnv_comp ?_
  -- the new dict
  obtain ⟨D, hD⟩ : ∃ D, sB.heap.objs.size = D := ⟨_, rfl⟩
  rw [hD]
  obtain ⟨Go, ⟨first, go0⟩, turns⟩ := ask D _ (IB.hok.fresh (Nat.le_of_eq hD)) (ex_new (IB.hok.fresh (Nat.le_of_eq hD))) ⟨upd_same, KeysF.nil⟩
  obtain ⟨sC, hsC⟩ : ∃ sC : Shared, sC = { sB with heap := sB.heap.push { cls := .type "dict", data := .dict #[] } } := ⟨_, rfl⟩
  have heapC : sC.heap = sB.heap.push { cls := .type "dict", data := .dict #[] } := by rw [hsC]
  have IC : Inv X pins σ (upd Ha D (.ext (DTp X.prog X.w D []))) sC := by
    rw [hsC, ← hD]
    exact IB.laid (t' := sB.toks) (fun b o e => Heap.get?_push_of_some _ e) (Nat.le_refl _) (dtp_ok ⟨Nat.zero_le _, beq_eq_false_iff_ne.mpr (Ne.symm (Nat.ne_of_lt IB.big)), [], .nil, _, #[], 0, Heap.get?_push_size _ rfl, ⟨rfl, rfl, rfl⟩, rfl, rfl, List.nodup_nil⟩)
  have inC : ∀ b o, sB.heap.get? b = some o → sC.heap.get? b = some o := fun b o e => by rw [heapC]; exact Heap.get?_push_of_some _ e
  have footC : ∀ b ∈ fp, FpOk X pins (upd Ha D (.ext (DTp X.prog X.w D []))) b ∧ b < sC.heap.objs.size := by
    intro b hb
    obtain ⟨o, eo, _⟩ := T.obj _ _ stB b hb
    have lt : b < sB.heap.objs.size := Heap.lt_size eo
    refine ⟨⟨(upd_ne (show b ≠ D from fun z => Nat.lt_irrefl _ (by rw [← z] at hD; exact hD ▸ lt))).trans (foot b hb).1, (foot b hb).2⟩, ?_⟩
    rw [heapC, Heap.size_push]
    exact Nat.lt_succ_of_lt lt
  have stC : tn 0 sC.heap := T.keep _ _ _ stB fun b _ o => inC b o
  -- its block
  have started := block_start IC ok hN footC
  obtain ⟨cl, hcl⟩ : ∃ cl, cellsFrom (sC.heap.objs.size + 1) scope.names (cloFrom X.env.cells scope.names []) = cl := ⟨_, rfl⟩
  have goal' : codeAny (model X.prog X.w) X.A (.compStart (.DictComp kx vx [⟨tg, iter, ifs, 0⟩] scope pos) 0 (.ref it) (.ref D) (compEnvC scope cl sC.heap.objs.size X.env)) (compPost (model X.prog X.w) X.A X.xe use Qf (.ref D) sC.heap.objs.size)
      { sC with heap := pushCells (sC.heap.push { cls := .type "dict", data := .dict #[] }) scope.names } := by
    rw [hcl] at started
    obtain ⟨sD, hsD⟩ : ∃ sD : Shared, sD = { sC with heap := pushCells (sC.heap.push { cls := .type "dict", data := .dict #[] }) scope.names } := ⟨_, rfl⟩
    rw [← hsD] at started ⊢
    have stD : tn 0 sD.heap := T.keep _ _ _ stC fun b _ o e => by rw [hsD]; exact pushCells_keeps _ _ _ _ (Heap.get?_push_of_some _ e)
    have targetP := hg sC (upd Ha D (.ext (DTp X.prog X.w D []))) sC.heap.objs.size cl fp
    have testsP := ht sC (upd Ha D (.ext (DTp X.prog X.w D []))) sC.heap.objs.size cl fp
    have keyP := hk sC (upd Ha D (.ext (DTp X.prog X.w D []))) sC.heap.objs.size cl fp
    have valP := hv sC (upd Ha D (.ext (DTp X.prog X.w D []))) sC.heap.objs.size cl fp
    obtain ⟨ce, hce⟩ : ∃ ce, compEnvC scope cl sC.heap.objs.size X.env = ce := ⟨_, rfl⟩
    have locC : ce.locals = sC.heap.objs.size := by rw [← hce]; rfl
    rw [hce] at started targetP testsP keyP valP ⊢
    obtain ⟨Hn, hHn⟩ : ∃ Hn, upd Ha D (.ext (DTp X.prog X.w D [])) = Hn := ⟨_, rfl⟩
    rw [hHn] at IC started targetP testsP keyP valP go0 footC
    have still : ∀ {τ : L2.St} {G : Hp} {t : Shared}, Inv (X.blk sC Hn scope ce fp) [] τ G t → (∀ b ∈ fp, G b = none) → ∀ b ∈ fp, FpOk (X.blk sC Hn scope ce fp) [] G b := by
      intro τ G t K0 none b hb
      have fr := K0.ok.exf b hb
      exact ⟨none b hb, fr.1, K0.ok.exfs b hb, .inl hb, fun x c => fr.2 x c, fun p hp => by simp at hp⟩
    have looped : codeAny (model X.prog X.w) X.A (.compLoop (.DictComp kx vx [⟨tg, iter, ifs, 0⟩] scope pos) 0 (.ref it) (.ref D) ce) (compPost (model X.prog X.w) X.A X.xe use Qf (.ref D) sC.heap.objs.size) sD := by
      apply compLoop_anyD (fun left t => ∃ i G, Inv (X.blk sC Hn scope ce fp) [] (wipe σ (own.map (·.2))) G t ∧ tn i t.heap ∧ (∀ b ∈ fp, G b = none) ∧ Go i left G) (n := first) (h := ⟨0, Hn, started, stD, fun b hb => (footC b hb).1.1, go0⟩)
      rintro left t ⟨i, G, IG, stG, noG, goG⟩
      cases turns i left G goG with
      | inl ends =>
        refine thnF (T.done (X.blk sC Hn scope ce fp) rfl rfl rfl hc i [] t _ G (fun _ _ => False) IG (still IG noG) stG ends.1) fun r t1 ⟨er, IT⟩ => ?_
        rw [er]
        have back : Inv X pins σ G t1 := IC.call' (ch := fp) IT.os IT.base IT.hok IT.bare fun b hb => by
          have f := (footC b hb).1.2
          exact ⟨f.2.2.1, f.1, f.2.2.2.1, f.2.2.2.2⟩
        have unseen : G sC.heap.objs.size = none := locC ▸ (show G ce.locals = none from IT.free)
        obtain ⟨m, hm, _⟩ := IT.loc
        have hm : t1.heap.Ns sC.heap.objs.size m := locC ▸ (show t1.heap.Ns ce.locals m from hm)
        exact hRR D sC.heap.objs.size t1 m G back ends.2 hm (IC.fpOk (H' := G) (Nat.le_refl _) unseen)
      | inr goes =>
        obtain ⟨on, Af, less, turn⟩ := goes
        refine thnF (T.item (X.blk sC Hn scope ce fp) rfl rfl rfl hc i [] t _ G (fun _ _ => False) IG (still IG noG) stG on) fun r t1 ⟨u, er, letGo⟩ => ?_
        rw [er]
        refine thnF letGo fun _ t2 ⟨x, G2, I2, rx, yx, st2, no2⟩ => ?_
        have held := I2.pinned (still I2 no2) (T.obj _ _ st2)
        -- what a turn leaves is where the next one begins
        have next : ∀ {τ : L2.St} {G' : Hp} {t' : Shared}, wipe τ (own.map (·.2)) = wipe σ (own.map (·.2)) → Inv (X.blk sC Hn scope ce fp) ([] ++ pinsAt fp t2.heap) τ G' t' → Af G' →
            ∃ m, m < left ∧ ∃ i G, Inv (X.blk sC Hn scope ce fp) [] (wipe σ (own.map (·.2))) G t' ∧ tn i t'.heap ∧ (∀ b ∈ fp, G b = none) ∧ Go i m G := by
          intro τ G' t' ew I' af
          obtain ⟨m, lt, go'⟩ := less G' af
          have pinned : ∀ b ∈ fp, ∀ o, t2.heap.get? b = some o → t'.heap.get? b = some o ∧ G' b = none := by
            intro b hb o e
            have both := I'.pin (b, o) (List.mem_append_right _ (List.mem_append_right _ (mem_pinsAt hb e)))
            exact ⟨both.1, both.2.1⟩
          refine ⟨m, lt, i + 1, G', (I'.unpinned (pins := [])).weak (by rw [← ew, wipe_length]) (fun j v e => (wipe_some (ew ▸ e)).1), T.keep _ _ _ st2 fun b hb o e => (pinned b hb o e).1, ?_, go'⟩
          intro b hb
          obtain ⟨o, eo, _⟩ := T.obj _ _ st2 b hb
          exact (pinned b hb o eo).2
        refine thnF (targetP.run _ t2 _ G2 x u _ held rx (turn x G2 yx)) fun _ t3 ⟨τ, G3, I3, ew, ask3⟩ => thnF (testsP.run _ t3 τ G3 _ I3 ask3) fun c t4 ⟨G4, I4, ask4⟩ => ?_
        cases c with
        | true =>
          rw [if_pos rfl] at ask4
          rw [if_pos rfl]
          refine thnF (keyP.run _ t4 τ G4 _ I4 ask4) fun ku t5 ⟨yk, G5, I5, rk5, ask5⟩ => thnF (valP.run _ t5 τ G5 _ I5 ask5) fun vu t6 ⟨yv, G6, I6, rv6, ent, kk, q, eyk, eq, eD, hz, af⟩ => ?_
          rw [eyk] at rk5
          cases (show ku = Value.ref q from rk5)
          exact d_storeF (Y := X.blk sC Hn scope ce fp) hu I6 eD eq hz rv6 fun G7 t7 I7 x7 D7 => next ew I7 (af G7 x7 D7)
        | false =>
          rw [if_neg (fun z => nomatch z)] at ask4
          rw [if_neg (fun z => nomatch z)]
          exact next ew I4 ask4
    exact codeAny_compStart_dict looped (T.self X.A 0 _ _ _ stD looped)
  rw [← hcl] at goal'
  subst hsC
  exact goal'
theorem ps_setDcF {X : Cx} {i : Nat} {y : Str} {py : Pos} {kx vx tg iter : Expr} {ifs : List Expr} {scope : Scope} {own : List (Str × Nat)} {pos spos : Pos} {wi : TI} {g : TG} {tt : TT} {tk tv : TE} (hu : X.A.units + 1 < cLine) (hc : X.calm = true) (hN : X.N.Nodup) (hy : X.N[i]? = some y) (hyl : X.env.scope.names.lookup y = some .local)
    (hsw : swapsWith (.DictComp kx vx [⟨tg, iter, ifs, 0⟩] scope pos) (some (.Name y py)) spos.line X.env = pure true) (hi : PI X tg iter wi) (ok : BlkOk X.N X.env.scope scope own)
    (hg : ∀ s H C cl fp, PG (X.blk s H scope (compEnvC scope cl C X.env) fp) tg g) (ht : ∀ s H C cl fp, PTs (X.blk s H scope (compEnvC scope cl C X.env) fp) ifs tt)
    (hk : ∀ s H C cl fp, PE (X.blk s H scope (compEnvC scope cl C X.env) fp) kx tk) (hv : ∀ s H C cl fp, PE (X.blk s H scope (compEnvC scope cl C X.env) fp) vx tv)
    (hs : ∀ x, foldedSetIterable iter X.env x = pure x := by intro _; rfl) :
    PS X (.Assign [.Name y py] (.DictComp kx vx [⟨tg, iter, ifs, 0⟩] scope pos) spos) (tAsg (tDcF X.prog X.w wi g tt tk tv (own.map (·.2))) (gName i)) := by
  refine ⟨fun pins s σ H D I h => ?_⟩
  rw [exec_Assign_Name_used _ _ _ _ hsw]
  refine wpAny_bind (wpAny_standAt (wpAny_bind ?_))
  show wpAny _ X.A (do let _ ← comprehension (.DictComp kx vx [⟨tg, iter, ifs, 0⟩] scope pos) scope X.env (firstIterPos [⟨tg, iter, ifs, 0⟩] pos) newDict false (eval iter X.env) (some (assign (.Name y py) X.env))) _ _ s
  have h : tDcF X.prog X.w wi g tt tk tv (own.map (·.2)) σ H (fun x H1 => gName i x σ H1 D.nx) := h
  refine wpAny_bind (thn (dcF_core (Qf := fun _ s' => SP X pins D .next s') hu hc hN I hi ok hg ht hk hv hs h fun L C s' m H' I' q hn f => ?_) fun _ s' hq => wpAny_pure (wpAny_pure hq))
  show wpAny _ _ (assign (.Name y py) X.env (.ref L)) _ _ _
  refine wpAny_assign_Name (store_ok2 (v := V.ref L) I' hN hy (.inl hyl) rfl (fun s2 I2 ⟨a, sb, ha⟩ => ?_) (.inr hyl))
  obtain ⟨f0, f1, f2, f3, f4, f5⟩ := f
  have haC : C ≠ a := by
    rcases ha with z | z
    · rw [z]; exact f1
    · exact fun e => f4 y a z e.symm
  refine ⟨m, hn.sameBut sb haC, fun h3 sb3 => ?_⟩
  exact ⟨_, H', I2.turned (t' := s2.toks) (fun b o hb e => (sb3.2 b hb).trans e) f0 f1 f3 f4 f5, q⟩
end MM
namespace MM
open PySem PySem.Spec PyProof.Rows L2 GxR
/-! ### steps, one behind the other -/
inductive Led : List Int → List (Nat × Str) → List Int → Prop
  | nil (gs : List Int) : Led gs [] gs
  | cons {gs hs : List Int} {k : Nat} {w : Str} {L : List (Nat × Str)} (h : wordM gs k = some w) (t : Led (stepM gs k w) L hs) : Led gs ((k, w) :: L) hs
theorem Led.app {gs hs is : List Int} {L L' : List (Nat × Str)} (h : Led gs L hs) (h' : Led hs L' is) : Led gs (L ++ L') is := by
  induction h with
  | nil => exact h'
  | cons a _ ih => exact .cons a (ih h')
theorem IsStep.word {gs hs : List Int} {k : Nat} {w : Str} (h : IsStep gs k w hs) : wordM gs k = some w ∧ stepM gs k w = hs := by
  cases h with
  | far A C a b h => exact (IsStep.far A C b a h.symm).back (by decide)
  | three A C a b h => exact (IsStep.three A C b a h.symm).back (by decide)
  | once A C a =>
    constructor
    · unfold wordM
      rw [List.drop_left]
      show (if 1 < ab (a - a) then (some "far" : Option Str) else if ab (a - a) = 0 then some "once" else _) = _
      have : ab (a - a) = 0 := by unfold ab; split <;> omega
      rw [if_neg (by omega), if_pos this]
    · show (if ("once" : Str) = "far" then _ else if ("once" : Str) = "three" then _ else _) = _
      rw [if_neg (by decide), if_neg (by decide), List.cons_append, List.cons_append, getD_mid, List.take_left, drop_mid, List.append_assoc]; rfl
theorem Led.one {gs hs : List Int} {k : Nat} {w : Str} (h : IsStep gs k w hs) : Led gs [(k, w)] hs := by
  obtain ⟨a, b⟩ := h.word
  exact .cons a (by rw [b]; exact .nil _)
def onceN (L : List (Nat × Str)) : Nat := (L.filter fun p => decide (p.2 = ("once" : Str))).length
theorem Led.len {gs hs : List Int} {L : List (Nat × Str)} (h : Led gs L hs) : hs.length + onceN L = gs.length := by
  induction h with
  | nil => rfl
  | @cons gs hs k w L a _ ih =>
    have := (step_of a).len.1
    unfold onceN at ih ⊢
    rw [List.filter_cons]
    by_cases c : w = "once"
    · rw [if_pos c] at this
      rw [if_pos (by simpa using c), List.length_cons]; omega
    · rw [if_neg c] at this
      rw [if_neg (by simpa using c)]; omega
theorem Led.as {m : Nat} {gs hs : List Int} {L : List (Nat × Str)} (h1 : 1 ≤ m) (h9 : m ≤ 9) (h : Led gs L hs) (hb : BookOk m gs) : AsSame m gs hs ∧ BookOk m hs := by
  induction h with
  | nil gs => exact ⟨fun z => Iff.rfl, hb⟩
  | cons a _ ih =>
    have st := step_of a
    obtain ⟨i1, i2⟩ := ih (st.book hb)
    exact ⟨fun z => (st.as h1 h9 hb z).trans (i1 z), i2⟩
/-! ### a meeting brought ahead -/
def aheadL (place to : Nat) : List (Nat × Str) := (List.range (place - to)).map fun j => (place - 1 - j, ("far" : Str))
theorem aheadL_succ (a n : Nat) : aheadL (a + (n + 1)) a = (a + n, ("far" : Str)) :: aheadL (a + n) a := by
  unfold aheadL
  rw [show a + (n + 1) - a = n + 1 by omega, show a + n - a = n by omega, List.range_succ_eq_map, List.map_cons, List.map_map]
  refine congr (congrArg List.cons (Prod.ext (by show a + (n + 1) - 1 - 0 = a + n; omega) rfl)) (List.map_congr_left fun j _ => Prod.ext (by show a + (n + 1) - 1 - (j + 1) = a + n - 1 - j; omega) rfl)
theorem aheadL_len (p t : Nat) : (aheadL p t).length = p - t := by unfold aheadL; rw [List.length_map, List.length_range]
theorem ahead_led {A : List Int} {g : Int} : ∀ (n : Nat) (B C : List Int), B.length = n → (∀ b ∈ B, b + 1 < g ∨ g + 1 < b) → Led (A ++ (B ++ g :: C)) (aheadL (A.length + n) A.length) (A ++ (g :: (B ++ C)))
  | 0, B, C, hB, _ => by
    obtain rfl := List.length_eq_zero_iff.mp hB
    have : aheadL (A.length + 0) A.length = [] := by unfold aheadL; rw [Nat.add_zero, Nat.sub_self]; rfl
    rw [this]; exact .nil _
  | n + 1, B, C, hB, hf => by
    obtain ⟨B', b, rfl⟩ : ∃ B' b, B = B' ++ [b] := by
      rcases List.eq_nil_or_concat B with e | ⟨B', b, e⟩
      · rw [e] at hB; cases hB
      · exact ⟨B', b, by rw [e, List.concat_eq_append]⟩
    have hB' : B'.length = n := by rw [List.length_append] at hB; simpa using hB
    rw [aheadL_succ]
    have st := IsStep.far (A ++ B') C b g (hf b (by simp))
    rw [List.length_append, hB'] at st
    obtain ⟨w1, w2⟩ := st.word
    have e1 : A ++ (B' ++ [b] ++ g :: C) = A ++ B' ++ ([b, g] ++ C) := by simp
    rw [e1]
    refine .cons w1 ?_
    rw [w2]
    have e2 : A ++ B' ++ ([g, b] ++ C) = A ++ (B' ++ g :: (b :: C)) := by simp
    have e3 : A ++ g :: (B' ++ [b] ++ C) = A ++ (g :: (B' ++ (b :: C))) := by simp
    rw [e2, e3]
    exact ahead_led n B' (b :: C) hB' fun x hx => hf x (by simp [hx])
/-! ### the book of runs -/
def ru (lows : List Nat) (n : Nat) : List Int := (List.range n).flatMap fun p => runP (lows.getD p 0) p
theorem ru_succ (lows : List Nat) (n : Nat) : ru lows (n + 1) = ru lows n ++ runP (lows.getD n 0) n := by
  unfold ru; rw [List.range_succ, List.flatMap_append]; simp
theorem ru_congr {l l' : List Nat} : ∀ n, (∀ p, p < n → l.getD p 0 = l'.getD p 0) → ru l n = ru l' n
  | 0, _ => rfl
  | n + 1, h => by rw [ru_succ, ru_succ, ru_congr n fun p hp => h p (by omega), h n (by omega)]
theorem runP_len (low p : Nat) : (runP low p).length = p - low := by unfold runP; rw [List.length_map, List.length_range]
theorem runP_mem {low p : Nat} {x : Int} : x ∈ runP low p ↔ (low : Int) ≤ x ∧ x < p := by
  unfold runP
  rw [List.mem_map]
  constructor
  · rintro ⟨j, hj, rfl⟩
    have := List.mem_range.mp hj
    omega
  · rintro ⟨a, b⟩
    exact ⟨p - 1 - x.toNat, List.mem_range.mpr (by omega), by omega⟩
theorem runP_split {low p g : Nat} (h1 : low ≤ g) (h2 : g ≤ p) : runP low p = runP g p ++ runP low g := by
  unfold runP
  rw [show p - low = (p - g) + (g - low) by omega, List.range_add, List.map_append, List.map_map]
  refine congrArg _ (List.map_congr_left fun j hj => ?_)
  show ((p - 1 - (p - g + j) : Nat) : Int) = ((g - 1 - j : Nat) : Int)
  have := List.mem_range.mp hj
  omega
theorem runP_one (g : Nat) : runP g (g + 1) = [(g : Int)] := by
  unfold runP
  rw [show g + 1 - g = 1 by omega]
  show [((g + 1 - 1 - 0 : Nat) : Int)] = _
  rw [show g + 1 - 1 - 0 = g by omega]
/-- what taking in a meeting behind the runs tells, and the runs behind it -/
def tkS (lows : List Nat) : Nat → Nat → Nat → List (Nat × Str) × List Nat
  | 0, _, _ => ([], lows)
  | p + 1, place, gap =>
    if gap + 1 < lows.getD (p + 1) 0 then
      (aheadL place (place - (p + 1 - lows.getD (p + 1) 0)) ++ (tkS lows p (place - (p + 1 - lows.getD (p + 1) 0)) gap).1, (tkS lows p (place - (p + 1 - lows.getD (p + 1) 0)) gap).2)
    else if lows.getD (p + 1) 0 < gap then
      (aheadL place (place - (p + 1 - lows.getD (p + 1) 0) + (p - gap) + 2) ++ (place - (p + 1 - lows.getD (p + 1) 0) + (p - gap), ("three" : Str)) :: (aheadL (place - (p + 1 - lows.getD (p + 1) 0) + (p - gap)) (place - (p + 1 - lows.getD (p + 1) 0)) ++ (tkS lows p (place - (p + 1 - lows.getD (p + 1) 0)) (gap - 1)).1), (tkS lows p (place - (p + 1 - lows.getD (p + 1) 0)) (gap - 1)).2)
    else if gap = lows.getD (p + 1) 0 then ([(place - 1, ("once" : Str))], lows)
    else ([], lows.set (p + 1) gap)
structure LowsOk (m : Nat) (lows : List Nat) : Prop where
  len : lows.length = m
  le : ∀ p, p < m → lows.getD p 0 ≤ p
theorem getD_set {l : List Nat} {i j v : Nat} (h : i < l.length) : (l.set i v).getD j 0 = if i = j then v else l.getD j 0 := by
  rw [List.getD_eq_getElem?_getD, List.getElem?_set]
  split
  · subst_vars; simp [h]
  · rw [List.getD_eq_getElem?_getD]
theorem tkS_led {m : Nat} {lows : List Nat} (O : LowsOk m lows) : ∀ (p gap : Nat) (C : List Int), p < m → gap + 1 ≤ p → 
    Led (ru lows (p + 1) ++ (gap : Int) :: C) (tkS lows p (ru lows (p + 1)).length gap).1 (ru (tkS lows p (ru lows (p + 1)).length gap).2 (p + 1) ++ C) ∧ LowsOk m (tkS lows p (ru lows (p + 1)).length gap).2 ∧
    (∀ j, p < j → (tkS lows p (ru lows (p + 1)).length gap).2.getD j 0 = lows.getD j 0) ∧ (tkS lows p (ru lows (p + 1)).length gap).1.length ≤ (ru lows (p + 1)).length + p
  | 0, gap, C, _, h => absurd h (by omega)
  | p + 1, gap, C, hp, hg => by
    have hlow := O.le (p + 1) hp
    generalize hlw : lows.getD (p + 1) 0 = low at hlow
    have er : ru lows (p + 1 + 1) = ru lows (p + 1) ++ runP low (p + 1) := by rw [ru_succ, hlw]
    have el : (ru lows (p + 1 + 1)).length - (p + 1 - low) = (ru lows (p + 1)).length := by rw [er, List.length_append, runP_len]; omega
    have el2 : (ru lows (p + 1 + 1)).length = (ru lows (p + 1)).length + (p + 1 - low) := by rw [er, List.length_append, runP_len]
    unfold tkS
    rw [hlw, el]
    by_cases c1 : gap + 1 < low
    · rw [if_pos c1]
      obtain ⟨i1, i2, i3, i4⟩ := tkS_led O p gap (runP low (p + 1) ++ C) (by omega) (by omega)
      generalize tkS lows p (ru lows (p + 1)).length gap = T at i1 i2 i3 i4
      refine ⟨?_, i2, fun j hj => i3 j (by omega), ?_⟩
      · rw [ru_succ T.2, i3 (p + 1) (by omega), hlw, List.append_assoc]
        refine Led.app ?_ i1
        rw [el2, er, List.append_assoc]
        exact ahead_led (A := ru lows (p + 1)) (p + 1 - low) (runP low (p + 1)) C (runP_len _ _) fun b hb => by
          have := (runP_mem.mp hb).1; right; omega
      · rw [List.length_append, aheadL_len, el2]; omega
    · rw [if_neg c1]
      by_cases c2 : low < gap
      · rw [if_pos c2]
        obtain ⟨i1, i2, i3, i4⟩ := tkS_led O p (gap - 1) (runP low (p + 1) ++ C) (by omega) (by omega)
        generalize tkS lows p (ru lows (p + 1)).length (gap - 1) = T at i1 i2 i3 i4
        refine ⟨?_, i2, fun j hj => i3 j (by omega), ?_⟩
        · rw [ru_succ T.2, i3 (p + 1) (by omega), hlw, List.append_assoc]
          -- the run: U, gap, gap - 1, D
          have s1 : runP low (p + 1) = runP (gap + 1) (p + 1) ++ (gap : Int) :: ((gap - 1 : Nat) : Int) :: runP low (gap - 1) := by
            rw [runP_split (g := gap + 1) (by omega) (by omega), runP_split (low := low) (p := gap + 1) (g := gap) (by omega) (by omega), runP_one, runP_split (low := low) (p := gap) (g := gap - 1) (by omega) (by omega)]
            rw [show runP (gap - 1) gap = [((gap - 1 : Nat) : Int)] by
              have := runP_one (gap - 1)
              rw [show gap - 1 + 1 = gap by omega] at this; exact this]
            rfl
          have lU : (runP (gap + 1) (p + 1)).length = p - gap := by rw [runP_len]; omega
          have lD : (runP low (gap - 1)).length = gap - 1 - low := runP_len _ _
          have eA : (ru lows (p + 1)).length + (p - gap) + 2 + (gap - 1 - low) = (ru lows (p + 1 + 1)).length := by rw [el2]; omega
          rw [← eA, er, s1]
          generalize ru lows (p + 1) = A at i1 ⊢
          generalize hU : runP (gap + 1) (p + 1) = U at lU ⊢
          generalize hD : runP low (gap - 1) = D at lD ⊢
          have farD : ∀ b ∈ D, b + 1 < (gap : Int) ∨ (gap : Int) + 1 < b := fun b hb => by
            rw [← hD] at hb; have := (runP_mem.mp hb).2; left; omega
          have farU : ∀ b ∈ U, b + 1 < ((gap - 1 : Nat) : Int) ∨ ((gap - 1 : Nat) : Int) + 1 < b := fun b hb => by
            rw [← hU] at hb; have := (runP_mem.mp hb).1; right; omega
          have st1 : Led (A ++ (U ++ (gap : Int) :: ((gap - 1 : Nat) : Int) :: D) ++ (gap : Int) :: C) (aheadL (A.length + (p - gap) + 2 + (gap - 1 - low)) (A.length + (p - gap) + 2)) (A ++ U ++ [(gap : Int), ((gap - 1 : Nat) : Int)] ++ ((gap : Int) :: (D ++ C))) := by
            have := ahead_led (A := A ++ U ++ [(gap : Int), ((gap - 1 : Nat) : Int)]) (g := (gap : Int)) (gap - 1 - low) D C lD farD
            have l2 : (A ++ U ++ [(gap : Int), ((gap - 1 : Nat) : Int)]).length = A.length + (p - gap) + 2 := by simp [lU]; omega
            rw [l2] at this
            have e0 : A ++ (U ++ (gap : Int) :: ((gap - 1 : Nat) : Int) :: D) ++ (gap : Int) :: C = A ++ U ++ [(gap : Int), ((gap - 1 : Nat) : Int)] ++ (D ++ (gap : Int) :: C) := by simp
            rw [e0]; exact this
          have st2 : Led (A ++ U ++ [(gap : Int), ((gap - 1 : Nat) : Int)] ++ ((gap : Int) :: (D ++ C))) [(A.length + (p - gap), ("three" : Str))] (A ++ (U ++ ((gap - 1 : Nat) : Int) :: ((gap : Int) :: ((gap - 1 : Nat) : Int) :: (D ++ C)))) := by
            have := IsStep.three (A ++ U) (D ++ C) (gap : Int) ((gap - 1 : Nat) : Int) (by omega)
            rw [List.length_append, lU] at this
            have e0 : A ++ U ++ [(gap : Int), ((gap - 1 : Nat) : Int)] ++ ((gap : Int) :: (D ++ C)) = A ++ U ++ ([(gap : Int), ((gap - 1 : Nat) : Int), (gap : Int)] ++ (D ++ C)) := by simp
            have e1 : A ++ (U ++ ((gap - 1 : Nat) : Int) :: ((gap : Int) :: ((gap - 1 : Nat) : Int) :: (D ++ C))) = A ++ U ++ ([((gap - 1 : Nat) : Int), (gap : Int), ((gap - 1 : Nat) : Int)] ++ (D ++ C)) := by simp
            rw [e0, e1]; exact Led.one this
          have st3 : Led (A ++ (U ++ ((gap - 1 : Nat) : Int) :: ((gap : Int) :: ((gap - 1 : Nat) : Int) :: (D ++ C)))) (aheadL (A.length + (p - gap)) A.length) (A ++ ((gap - 1 : Nat) : Int) :: (U ++ (gap : Int) :: ((gap - 1 : Nat) : Int) :: D ++ C)) := by
            have := ahead_led (A := A) (g := ((gap - 1 : Nat) : Int)) (p - gap) U ((gap : Int) :: ((gap - 1 : Nat) : Int) :: (D ++ C)) lU farU
            have e1 : A ++ ((gap - 1 : Nat) : Int) :: (U ++ (gap : Int) :: ((gap - 1 : Nat) : Int) :: D ++ C) = A ++ (((gap - 1 : Nat) : Int) :: (U ++ (gap : Int) :: ((gap - 1 : Nat) : Int) :: (D ++ C))) := by simp
            rw [e1]; exact this
          rw [s1, hU, hD] at i1
          exact st1.app ((st2.app (st3.app i1)))
        · rw [List.length_append, List.length_cons, List.length_append, aheadL_len, aheadL_len, el2]; omega
      · rw [if_neg c2]
        by_cases c3 : gap = low
        · rw [if_pos c3]
          subst c3
          refine ⟨?_, O, fun _ _ => rfl, ?_⟩
          · rw [er, runP_split (low := gap) (p := p + 1) (g := gap + 1) (by omega) (by omega), runP_one]
            have := IsStep.once (ru lows (p + 1) ++ runP (gap + 1) (p + 1)) C (gap : Int)
            have e0 : ru lows (p + 1) ++ (runP (gap + 1) (p + 1) ++ [(gap : Int)]) ++ (gap : Int) :: C = ru lows (p + 1) ++ runP (gap + 1) (p + 1) ++ ([(gap : Int), (gap : Int)] ++ C) := by simp
            have e1 : ru lows (p + 1) ++ (runP (gap + 1) (p + 1) ++ [(gap : Int)]) ++ C = ru lows (p + 1) ++ runP (gap + 1) (p + 1) ++ ([(gap : Int)] ++ C) := by simp
            have e2 : (ru lows (p + 1) ++ (runP (gap + 1) (p + 1) ++ [(gap : Int)])).length - 1 = (ru lows (p + 1) ++ runP (gap + 1) (p + 1)).length := by simp
            rw [e0, e1, e2]; exact Led.one this
          · show 1 ≤ _; omega
        · rw [if_neg c3]
          have hg1 : gap + 1 = low := by omega
          have gs : ∀ j, (lows.set (p + 1) gap).getD j 0 = if p + 1 = j then gap else lows.getD j 0 := fun j => getD_set (by rw [O.len]; exact hp)
          refine ⟨?_, ⟨by rw [List.length_set]; exact O.len, fun j hj => ?_⟩, fun j hj => ?_, Nat.zero_le _⟩
          · rw [ru_succ (lows.set (p + 1) gap), gs, if_pos rfl, ru_congr (l := lows.set (p + 1) gap) (l' := lows) (p + 1) (fun j hj => by rw [gs, if_neg (by omega)]), er]
            rw [runP_split (low := gap) (p := p + 1) (g := low) (by omega) (by omega), ← hg1, runP_one]
            have e0 : ru lows (p + 1) ++ runP (gap + 1) (p + 1) ++ (gap : Int) :: C = ru lows (p + 1) ++ (runP (gap + 1) (p + 1) ++ [(gap : Int)]) ++ C := by simp
            rw [e0]; exact .nil _
          · rw [gs]; split
            · omega
            · exact O.le j hj
          · rw [gs, if_neg (by omega)]
end MM
namespace MM
open PySem PySem.Spec PyProof.Rows L2 GxR
/-! ### a whole book led down -/
def ldS (m : Nat) : List Int → List (Nat × Str) × List Nat → List (Nat × Str) × List Nat
  | [], T => T
  | g :: gs, T => ldS m gs (T.1 ++ (tkS T.2 (m - 1) (ru T.2 m).length g.toNat).1, (tkS T.2 (m - 1) (ru T.2 m).length g.toNat).2)
def low0 (m : Nat) : List Nat := List.range m
theorem low0_ok (m : Nat) : LowsOk m (low0 m) := ⟨List.length_range, fun p hp => by unfold low0; rw [List.getD_eq_getElem?_getD, List.getElem?_range hp]; exact Nat.le_refl _⟩
theorem ru_low0 (m : Nat) : ∀ n, n ≤ m → ru (low0 m) n = []
  | 0, _ => rfl
  | n + 1, h => by
    rw [ru_succ, ru_low0 m n (by omega)]
    have : (low0 m).getD n 0 = n := by unfold low0; rw [List.getD_eq_getElem?_getD, List.getElem?_range (by omega)]; rfl
    rw [this]; unfold runP; rw [Nat.sub_self]; rfl
theorem ru_len_le {m : Nat} {lows : List Nat} : ∀ n, n ≤ 9 → (ru lows n).length ≤ n * 9
  | 0, _ => Nat.le_refl _
  | n + 1, h => by
    rw [ru_succ, List.length_append, runP_len]
    have := ru_len_le (m := m) (lows := lows) n (by omega)
    omega
theorem ldS_led {m : Nat} (h9 : m ≤ 9) : ∀ (gs : List Int) (T : List (Nat × Str) × List Nat) (A : List Int), BookOk m gs → LowsOk m T.2 → Led A T.1 (ru T.2 m ++ gs) →
    Led A (ldS m gs T).1 (ru (ldS m gs T).2 m) ∧ LowsOk m (ldS m gs T).2 ∧ (ldS m gs T).1.length ≤ T.1.length + gs.length * 90
  | [], T, A, _, O, h => by rw [List.append_nil] at h; exact ⟨h, O, by show T.1.length ≤ _; omega⟩
  | g :: gs, T, A, hb, O, h => by
    have hg := hb g (by simp)
    obtain ⟨k, rfl⟩ : ∃ k : Nat, g = (k : Int) := ⟨g.toNat, by omega⟩
    obtain ⟨p, rfl⟩ : ∃ p, m = p + 1 := ⟨m - 1, by omega⟩
    obtain ⟨a1, a2, _, a4⟩ := tkS_led O p k gs (by omega) (by omega)
    have hl := ru_len_le (m := p + 1) (lows := T.2) (p + 1) h9
    obtain ⟨b1, b2, b3⟩ := ldS_led h9 gs (T.1 ++ (tkS T.2 p (ru T.2 (p + 1)).length k).1, (tkS T.2 p (ru T.2 (p + 1)).length k).2) A (fun x hx => hb x (by simp [hx])) a2 (h.app a1)
    refine ⟨b1, b2, Nat.le_trans b3 ?_⟩
    show (T.1 ++ (tkS T.2 p (ru T.2 (p + 1)).length k).1).length + gs.length * 90 ≤ T.1.length + (gs.length + 1) * 90
    rw [List.length_append]
    omega
/-- the steps that led_down tells -/
def downL (m : Nat) (gs : List Int) : List (Nat × Str) := (ldS m gs ([], low0 m)).1
def downW (m : Nat) (gs : List Int) : List Nat := (ldS m gs ([], low0 m)).2
theorem down_led {m : Nat} (h9 : m ≤ 9) {gs : List Int} (hb : BookOk m gs) : Led gs (downL m gs) (ru (downW m gs) m) ∧ LowsOk m (downW m gs) ∧ (downL m gs).length ≤ gs.length * 90 := by
  have := ldS_led h9 gs ([], low0 m) gs hb (low0_ok m) (by rw [ru_low0 m m (Nat.le_refl _)]; exact .nil gs)
  refine ⟨this.1, this.2.1, ?_⟩
  have h := this.2.2
  simpa [downL] using h
/-! ### runs of any lows: where always changing leads -/
def gRow (lows : List Nat) : Nat → List Int
  | 0 => []
  | k + 1 => (gRow lows k).take (lows.getD k 0) ++ (k : Int) :: (gRow lows k).drop (lows.getD k 0)
theorem gRow_len (lows : List Nat) : ∀ k, (gRow lows k).length = k
  | 0 => rfl
  | k + 1 => by
    have := gRow_len lows k
    unfold gRow
    rw [List.length_append, List.length_cons, List.length_take, List.length_drop, this]; omega
theorem gRow_mem (lows : List Nat) : ∀ k, ∀ y ∈ gRow lows k, 0 ≤ y ∧ y < (k : Int)
  | 0, y, h => by cases h
  | k + 1, y, h => by
    unfold gRow at h
    rw [List.mem_append, List.mem_cons] at h
    rcases h with h | rfl | h
    · have := gRow_mem lows k y (List.mem_of_mem_take h); omega
    · omega
    · have := gRow_mem lows k y (List.mem_of_mem_drop h); omega
theorem ru_far {m : Nat} {lows : List Nat} (O : LowsOk m lows) : ∀ k, k ≤ m → farL (row0 m) (ru lows k) = gRow lows k ++ rest m k
  | 0, _ => by
    show row0 m = rest m 0
    unfold row0 rest
    rw [Nat.sub_zero]
    exact List.map_congr_left fun j _ => by show (j : Int) = ((0 + j : Nat) : Int); omega
  | k + 1, h => by
    have hl := O.le k (by omega)
    rw [ru_succ, farL_app, ru_far O k (by omega), rest_cons (by omega)]
    have e : runP (lows.getD k 0) k = (List.range (k - lows.getD k 0)).map fun j => (((gRow lows k).length - 1 - j : Nat) : Int) := by rw [gRow_len]; rfl
    rw [e, far_run (fun y hy => (gRow_mem lows k y hy).2) _ (by rw [gRow_len]; omega), gRow_len, show k - (k - lows.getD k 0) = lows.getD k 0 by omega]
    show _ = ((gRow lows k).take (lows.getD k 0) ++ (k : Int) :: (gRow lows k).drop (lows.getD k 0)) ++ _
    rw [List.append_assoc]; rfl
theorem gRow_flt (lows : List Nat) (k : Nat) : ∀ j, (gRow lows (k + j)).filter (fun p => decide (p < (k : Int))) = gRow lows k
  | 0 => by
    refine List.filter_eq_self.mpr fun y hy => ?_
    have := (gRow_mem lows k y hy).2
    simpa using this
  | j + 1 => by
    show ((gRow lows (k + j)).take (lows.getD (k + j) 0) ++ ((k + j : Nat) : Int) :: (gRow lows (k + j)).drop (lows.getD (k + j) 0)).filter _ = _
    rw [List.filter_append, List.filter_cons, if_neg (by simp; omega), ← List.filter_append, List.take_append_drop]
    exact gRow_flt lows k j
theorem split_at {L R A B : List Int} {k : Int} (h : L ++ k :: R = A ++ k :: B) (hL : k ∉ L) (hA : k ∉ A) : L.length = A.length := by
  induction L generalizing A with
  | nil => cases A with
    | nil => rfl
    | cons a A => injection h with h1 _; subst h1; exact absurd List.mem_cons_self hA
  | cons l L ih => cases A with
    | nil => injection h with h1 _; subst h1; exact absurd List.mem_cons_self hL
    | cons a A =>
      injection h with _ h2
      rw [List.length_cons, List.length_cons, ih h2 (fun z => hL (List.mem_cons_of_mem _ z)) (fun z => hA (List.mem_cons_of_mem _ z))]
theorem ru_is {m : Nat} {lows : List Nat} (O : LowsOk m lows) {fa fb : Nat → Nat} (hI : IsInv m fa fb) (h : farL (row0 m) (ru lows m) = ofF m fa) : ru lows m = runsTo fa fb m := by
  rw [ru_far O m (Nat.le_refl _)] at h
  have e0 : rest m m = [] := by unfold rest; rw [Nat.sub_self]; rfl
  rw [e0, List.append_nil] at h
  have fl : ∀ k, k ≤ m → flt m fa k = gRow lows k := fun k hk => by
    unfold flt
    rw [← h, show m = k + (m - k) by omega]
    exact gRow_flt lows k (m - k)
  have low : ∀ k, k < m → lows.getD k 0 = lowN fa (fb k) k := fun k hk => by
    obtain ⟨L, R, h1, h2, h3⟩ := flt_step hI hk
    rw [fl k (by omega)] at h1
    rw [fl (k + 1) (by omega)] at h2
    have lt : ∀ y ∈ gRow lows k, y ≠ (k : Int) := fun y hy e => by have := (gRow_mem lows k y hy).2; omega
    have := split_at (L := L) (A := (gRow lows k).take (lows.getD k 0)) h2.symm (fun z => lt _ (by rw [h1]; exact List.mem_append_left _ z) rfl) (fun z => lt _ (List.mem_of_mem_take z) rfl)
    rw [List.length_take, gRow_len, h3, Nat.min_eq_left (O.le k hk)] at this
    exact this.symm
  have : ∀ n, n ≤ m → ru lows n = runsTo fa fb n := fun n => by
    induction n with
    | zero => intro _; rfl
    | succ n ih =>
      intro hn
      rw [ru_succ, ih (by omega), low n (by omega)]; rfl
  exact this m (Nat.le_refl _)
/-- where led_down leads -/
theorem down_runs {m : Nat} (h1 : 1 ≤ m) (h9 : m ≤ 9) {gs : List Int} (hb : BookOk m gs) {fa fb : Nat → Nat} (hI : IsInv m fa fb) (hf : farL (row0 m) gs = ofF m fa) : ru (downW m gs) m = runsTo fa fb m := by
  obtain ⟨a, b, _⟩ := down_led h9 hb
  obtain ⟨c, d⟩ := a.as h1 h9 hb
  refine ru_is b hI ?_
  rw [← far_as h1 h9 hb d c]
  exact hf
end MM
namespace MM
open PySem PySem.Spec PyProof.Rows L2 GxR
/-! ### led back -/
theorem onceN_cons (p : Nat × Str) (L : List (Nat × Str)) : onceN (p :: L) = (if p.2 = ("once" : Str) then 1 else 0) + onceN L := by
  unfold onceN
  rw [List.filter_cons]
  by_cases c : p.2 = ("once" : Str)
  · rw [if_pos (by simpa using c), if_pos c, List.length_cons]; omega
  · rw [if_neg (by simpa using c), if_neg c]; omega
theorem onceN_app (A B : List (Nat × Str)) : onceN (A ++ B) = onceN A + onceN B := by unfold onceN; rw [List.filter_append, List.length_append]
theorem Led.back {gs hs : List Int} {L : List (Nat × Str)} (h : Led gs L hs) : onceN L = 0 → Led hs L.reverse gs ∧ ∀ p ∈ L, p.2 = "far" ∨ p.2 = "three" := by
  induction h with
  | nil gs => exact fun _ => ⟨.nil gs, fun _ h => nomatch h⟩
  | @cons gs hs k w L a t ih =>
    intro h0
    rw [onceN_cons] at h0
    have hw : w ≠ "once" := fun e => by
      show False
      have : (if (k, w).2 = ("once" : Str) then 1 else 0) = 1 := if_pos e
      omega
    obtain ⟨i1, i2⟩ := ih (by omega)
    have st := step_of a
    obtain ⟨b1, b2⟩ := st.back hw
    refine ⟨?_, fun p hp => ?_⟩
    · rw [List.reverse_cons]
      refine i1.app (.cons b1 ?_)
      rw [b2]; exact .nil _
    · rcases List.mem_cons.mp hp with rfl | hp
      · generalize stepM gs k w = z at st
        cases st
        · exact .inl rfl
        · exact .inr rfl
        · exact absurd rfl hw
      · exact i2 p hp
def triN : Nat → Nat
  | 0 => 0
  | k + 1 => triN k + k
theorem runs_tri {m : Nat} {fa fb : Nat → Nat} (hI : IsInv m fa fb) : ∀ k, k ≤ m → (runsTo fa fb k).length ≤ triN k
  | 0, _ => Nat.le_refl _
  | k + 1, h => by
    have := runs_tri hI k (by omega)
    show (runsTo fa fb k ++ runP (lowN fa (fb k) k) k).length ≤ triN k + k
    rw [List.length_append, runP_len]; omega
theorem tri9 : ∀ k, k < 10 → triN k ≤ 36 := by decide
theorem pairs36 {x : List Int} (r : IsRow x) : pairsN x ≤ 36 := by
  obtain ⟨fa, fb, hI, e⟩ := r.inv
  have h9 : x.length ≤ 9 := r.2.1
  rw [e, ← runs_pairs hI]
  exact Nat.le_trans (runs_tri hI _ (Nat.le_refl _)) (tri9 _ (by omega))
/-- from one shortest book to another one -/
theorem led_over_ok {m : Nat} (h1 : 1 ≤ m) (h9 : m ≤ 9) {gs hs : List Int} (hb : BookOk m gs) (hb' : BookOk m hs) (hf : farL (row0 m) gs = farL (row0 m) hs) (p : pairsN (farL (row0 m) gs) = gs.length) (p' : pairsN (farL (row0 m) hs) = hs.length) :
    Led gs (downL m gs ++ (downL m hs).reverse) hs ∧ ∀ q ∈ downL m gs ++ (downL m hs).reverse, q.2 = "far" ∨ q.2 = "three" := by
  obtain ⟨rF, lF⟩ := farL_ok hb (row0_row h1 h9) (row0_len m)
  obtain ⟨fa, fb, hI, eqF⟩ := rF.inv
  rw [lF] at hI eqF
  obtain ⟨a1, a2, a3⟩ := down_led h9 hb
  obtain ⟨b1, b2, b3⟩ := down_led h9 hb'
  rw [down_runs h1 h9 hb hI eqF] at a1
  rw [down_runs h1 h9 hb' hI (hf ▸ eqF)] at b1
  have la := a1.len
  have lb := b1.len
  rw [runs_pairs hI, ← eqF] at la lb
  rw [hf] at lb
  obtain ⟨_, c2⟩ := a1.back (by omega)
  obtain ⟨d1, d2⟩ := b1.back (by omega)
  refine ⟨a1.app d1, fun q hq => ?_⟩
  rcases List.mem_append.mp hq with h | h
  · exact c2 q h
  · exact d2 q (List.mem_reverse.mp h)
theorem cutV_last {xs : List V} : cutV xs (some (-1)) none = xs.drop (xs.length - 1) := by
  unfold cutV
  have e : HT.sIx xs.length 0 (some (-1)) = xs.length - 1 := by
    show (if (-1 : Int) < 0 then ((-1 : Int) + (xs.length : Int)).toNat else min (-1 : Int).toNat xs.length) = _
    rw [if_pos (by decide)]; omega
  rw [HT.sIx_none, e, List.take_of_length_le (by rw [List.length_drop]; omega)]
end MM
namespace MM
open PySem PySem.Spec PyProof.Rows L2 GxR
/-! ### fewer changes, then first in order -/
def ltL (a b : List Nat) : Prop := a.length < b.length ∨ (a.length = b.length ∧ a < b)
instance (a b : List Nat) : Decidable (ltL a b) := by unfold ltL; infer_instance
theorem lex_tri : ∀ {a b : List Nat}, ¬ a < b → ¬ b < a → a = b
  | [], [], _, _ => rfl
  | [], y :: b, h, _ => absurd (List.Lex.nil) h
  | x :: a, [], _, h => absurd (List.Lex.nil) h
  | x :: a, y :: b, h, h' => by
    rw [List.cons_lt_cons_iff] at h h'
    have e : x = y := by
      rcases Nat.lt_trichotomy x y with z | z | z
      · exact absurd (.inl z) h
      · exact z
      · exact absurd (.inl z) h'
    subst e
    rw [lex_tri (fun z => h (.inr ⟨rfl, z⟩)) (fun z => h' (.inr ⟨rfl, z⟩))]
theorem lex_trans : ∀ {a b c : List Nat}, a < b → b < c → a < c
  | _, [], _, h, _ => nomatch h
  | _, _ :: _, [], _, h => nomatch h
  | [], _ :: _, _ :: _, _, _ => List.Lex.nil
  | x :: a, y :: b, z :: c, h, h' => by
    rw [List.cons_lt_cons_iff] at h h' ⊢
    rcases h with h | ⟨rfl, h⟩
    · rcases h' with h' | ⟨rfl, _⟩
      · exact .inl (Nat.lt_trans h h')
      · exact .inl h
    · rcases h' with h' | ⟨rfl, h'⟩
      · exact .inl h'
      · exact .inr ⟨rfl, lex_trans h h'⟩
theorem lex_irr : ∀ {a : List Nat}, ¬ a < a
  | [], h => nomatch h
  | x :: a, h => by
    rw [List.cons_lt_cons_iff] at h
    rcases h with h | ⟨_, h⟩
    · exact absurd h (Nat.lt_irrefl _)
    · exact lex_irr h
theorem lex_snoc {i : Nat} : ∀ {a b : List Nat}, a.length = b.length → (a ++ [i] < b ++ [i] ↔ a < b)
  | [], [], _ => ⟨fun h => absurd h lex_irr, fun h => absurd h lex_irr⟩
  | [], _ :: _, h => nomatch h
  | _ :: _, [], h => nomatch h
  | x :: a, y :: b, h => by
    have ih := lex_snoc (i := i) (a := a) (b := b) (by simpa using h)
    rw [List.cons_append, List.cons_append, List.cons_lt_cons_iff, List.cons_lt_cons_iff, ih]
theorem lt_tri {a b : List Nat} (h : ¬ ltL a b) (h' : ¬ ltL b a) : a = b := by
  unfold ltL at h h'
  have e : a.length = b.length := by omega
  exact lex_tri (fun z => h (.inr ⟨e, z⟩)) (fun z => h' (.inr ⟨e.symm, z⟩))
theorem lt_tr {a b c : List Nat} (h : ltL a b) (h' : ltL b c) : ltL a c := by
  unfold ltL at *
  rcases h with h | ⟨e, h⟩
  · left; omega
  · rcases h' with h' | ⟨e', h'⟩
    · left; omega
    · exact .inr ⟨by omega, lex_trans h h'⟩
theorem lt_snoc {i : Nat} {a b : List Nat} : ltL (a ++ [i]) (b ++ [i]) ↔ ltL a b := by
  unfold ltL
  rw [List.length_append, List.length_append]
  constructor
  · rintro (h | ⟨e, h⟩)
    · left; simpa using h
    · have e : a.length = b.length := by simpa using e
      exact .inr ⟨e, (lex_snoc e).mp h⟩
  · rintro (h | ⟨e, h⟩)
    · left; simpa using h
    · exact .inr ⟨by simpa using e, (lex_snoc e).mpr h⟩
def Least (S : List Nat → Prop) (L : List Nat) : Prop := S L ∧ ∀ K, S K → ¬ ltL K L
theorem Least.unique {S : List Nat → Prop} {a b : List Nat} (h : Least S a) (h' : Least S b) : a = b := lt_tri (h'.2 _ h.1) (h.2 _ h'.1)
theorem Least.congr {S T : List Nat → Prop} {a : List Nat} (h : Least S a) (e : ∀ K, S K ↔ T K) : Least T a := ⟨(e _).mp h.1, fun K hK => h.2 K ((e K).mpr hK)⟩
theorem Least.snoc {S : List Nat → Prop} {a : List Nat} (h : Least S a) (i : Nat) : Least (fun K => ∃ K', K = K' ++ [i] ∧ S K') (a ++ [i]) :=
  ⟨⟨a, rfl, h.1⟩, fun _ ⟨K', e, hK⟩ z => by subst e; exact h.2 K' hK (lt_snoc.mp z)⟩
theorem Least.orR {S T : List Nat → Prop} {a b : List Nat} (h : Least S a) (h' : Least T b) (l : ltL b a) : Least (fun K => S K ∨ T K) b :=
  ⟨.inr h'.1, fun K hK z => hK.elim (fun k => h.2 K k (lt_tr z l)) (fun k => h'.2 K k z)⟩
theorem Least.orL {S T : List Nat → Prop} {a b : List Nat} (h : Least S a) (h' : Least T b) (l : ¬ ltL b a) : Least (fun K => S K ∨ T K) a :=
  ⟨.inl h.1, fun K hK z => hK.elim (fun k => h.2 K k z) (fun k => by
    by_cases e : ltL b K
    · exact l (lt_tr e z)
    · rw [lt_tri e (h'.2 K k)] at l; exact l z)⟩
abbrev nI (l : List Nat) : List Int := l.map fun (k : Nat) => (k : Int)
theorem nI_lt : ∀ {a b : List Nat}, nI a < nI b ↔ a < b
  | [], [] => ⟨fun h => (nomatch h), fun h => (nomatch h)⟩
  | [], y :: b => ⟨fun _ => List.Lex.nil, fun _ => List.Lex.nil⟩
  | x :: a, [] => ⟨fun h => (nomatch h), fun h => (nomatch h)⟩
  | x :: a, y :: b => by
    have ih := nI_lt (a := a) (b := b)
    show ((x : Int) :: nI a < (y : Int) :: nI b) ↔ _
    rw [List.cons_lt_cons_iff, List.cons_lt_cons_iff, ih]
    constructor
    · rintro (h | ⟨h, h'⟩)
      · left; omega
      · exact .inr ⟨by omega, h'⟩
    · rintro (h | ⟨h, h'⟩)
      · left; omega
      · exact .inr ⟨by omega, h'⟩
theorem pd_ltL (a b : List Nat) : PySem.W.dataLt (pd (a.length : Int) (nI a)) (pd (b.length : Int) (nI b)) = decide (ltL a b) := by
  rw [pd_lt, Bool.eq_iff_iff, decide_eq_true_iff, decide_eq_true_iff, nI_lt]
  unfold ltL
  constructor
  · rintro (h | ⟨h, h'⟩)
    · left; omega
    · exact .inr ⟨by omega, h'⟩
  · rintro (h | ⟨h, h'⟩)
    · left; omega
    · exact .inr ⟨by omega, h'⟩
/-! ### goings to a row, by the places of their changes -/
def GoL (m : Nat) (gs : List Int) (i : Nat) (x : List Int) (L : List Nat) : Prop := L.Pairwise (· < ·) ∧ (∀ k ∈ L, k < i) ∧ x = ofF m (Pw (L.map (gapN gs)))
theorem go_zero {m : Nat} {gs x : List Int} {L : List Nat} : GoL m gs 0 x L ↔ x = row0 m ∧ L = [] := by
  constructor
  · rintro ⟨_, h, e⟩
    cases L with
    | nil => exact ⟨e, rfl⟩
    | cons k L => exact absurd (h k List.mem_cons_self) (Nat.not_lt_zero _)
  · rintro ⟨rfl, rfl⟩
    exact ⟨List.Pairwise.nil, (by intro z h; cases h), rfl⟩
theorem go_succ {m : Nat} {gs x : List Int} (hb : BookOk m gs) {i : Nat} (hi : i < gs.length) (hx : x.length = m) {L : List Nat} : GoL m gs (i + 1) x L ↔ (GoL m gs i x L ∨ ∃ L', L = L' ++ [i] ∧ GoL m gs i (swL x (gapN gs i)) L') := by
  have hg := gap_lt hb hi
  have sw : ∀ w : List Nat, swL (ofF m (Pw w)) (gapN gs i) = ofF m (Pw (w ++ [gapN gs i])) := fun w => by
    rw [sw_ofF hg]
    exact ofF_congr fun j _ => (Pw_app w [gapN gs i] j).symm
  constructor
  · rintro ⟨hp, hk, e⟩
    rcases List.eq_nil_or_concat L with rfl | ⟨L', k, rfl⟩
    · exact .inl ⟨hp, (by intro z h; cases h), e⟩
    · rw [List.concat_eq_append] at hp hk e ⊢
      rw [List.pairwise_append] at hp
      obtain ⟨p1, _, p2⟩ := hp
      have hl : ∀ z ∈ L', z < k := fun z hz => p2 z hz k List.mem_cons_self
      have hki := hk k (List.mem_append_right _ List.mem_cons_self)
      by_cases ek : k = i
      · subst ek
        refine .inr ⟨L', rfl, p1, hl, ?_⟩
        rw [List.map_append, show List.map (gapN gs) [k] = [gapN gs k] from rfl, ← sw] at e
        rw [e, sw_sw (by rw [ofF_len]; exact hg)]
      · refine .inl ⟨List.pairwise_append.mpr ⟨p1, List.pairwise_singleton _ _, fun a ha b hb => by rw [List.mem_singleton.mp hb]; exact hl a ha⟩, fun z hz => ?_, e⟩
        rcases List.mem_append.mp hz with h | h
        · have := hl z h; omega
        · rw [List.mem_singleton.mp h]; omega
  · rintro (⟨hp, hk, e⟩ | ⟨L', rfl, hp, hk, e⟩)
    · exact ⟨hp, fun z hz => Nat.lt_succ_of_lt (hk z hz), e⟩
    · refine ⟨List.pairwise_append.mpr ⟨hp, List.pairwise_singleton _ _, fun a ha b hb => by rw [List.mem_singleton.mp hb]; exact hk a ha⟩, fun z hz => ?_, ?_⟩
      · rcases List.mem_append.mp hz with h | h
        · have := hk z h; omega
        · rw [List.mem_singleton.mp h]; omega
      · rw [List.map_append, show List.map (gapN gs) [i] = [gapN gs i] from rfl, ← sw, ← e, sw_sw (by rw [hx]; exact hg)]
/-! ### going on first is least -/
def runW : List Int → List Nat → List Int
  | y, [] => y
  | y, g :: w => runW (swL y g) w
theorem run_pairs {m : Nat} : ∀ {w : List Nat} {y : List Int}, (∀ g ∈ w, g + 1 < m) → IsRow y → y.length = m → pairsN y ≤ pairsN (runW y w) + w.length
  | [], _, _, _, _ => Nat.le_refl _
  | g :: w, y, hw, hr, hl => by
    have hg : g + 1 < y.length := by rw [hl]; exact hw g List.mem_cons_self
    have ih := run_pairs (fun x hx => hw x (List.mem_cons_of_mem _ hx)) (sw_row hg hr) (by rw [sw_len hg]; exact hl) (w := w)
    show pairsN y ≤ pairsN (runW (swL y g) w) + (w.length + 1)
    by_cases c : y.getD g 0 < y.getD (g + 1) 0
    · have := pairs_sw hg c; omega
    · have hne := row_ne hr hg
      have c2 : (swL y g).getD g 0 < (swL y g).getD (g + 1) 0 := by rw [(sw_g hg).1, (sw_g hg).2]; omega
      have := pairs_sw (by rw [sw_len hg]; exact hg) c2
      rw [sw_sw hg] at this
      omega
def grd (G : Nat → Nat) : Nat → Nat → List Int → List Nat
  | 0, _, _ => []
  | n + 1, i, y => if y.getD (G i) 0 < y.getD (G i + 1) 0 then grd G n (i + 1) y else i :: grd G n (i + 1) (swL y (G i))
theorem grd_least {m : Nat} {G : Nat → Nat} : ∀ {n i : Nat} {y : List Int} {L : List Nat}, (∀ k, k < i + n → G k + 1 < m) → IsRow y → y.length = m → L.Pairwise (· < ·) → (∀ k ∈ L, i ≤ k ∧ k < i + n) →
    pairsN (runW y (L.map G)) + L.length = pairsN y → (grd G n i y).length = L.length → ¬ L < grd G n i y
  | 0, i, y, L, _, _, _, _, hk, _, _ => by
    cases L with
    | nil => exact lex_irr
    | cons k L => have := hk k List.mem_cons_self; omega
  | n + 1, i, y, L, hG, hr, hl, hp, hk, he, hlen => by
    have hg : G i + 1 < y.length := by rw [hl]; exact hG i (by omega)
    cases L with
    | nil =>
      rw [List.length_eq_zero_iff.mp hlen]; exact lex_irr
    | cons k L =>
      obtain ⟨p1, p2⟩ := List.pairwise_cons.mp hp
      have hki := hk k List.mem_cons_self
      have hw : ∀ g ∈ L.map G, g + 1 < m := fun g hg => by
        obtain ⟨z, hz, rfl⟩ := List.mem_map.mp hg
        exact hG z (hk z (List.mem_cons_of_mem _ hz)).2
      have hrw : runW y ((k :: L).map G) = runW (swL y (G k)) (L.map G) := rfl
      rw [List.length_cons] at he hlen
      unfold grd at hlen ⊢
      by_cases c : y.getD (G i) 0 < y.getD (G i + 1) 0
      · rw [if_pos c] at hlen ⊢
        by_cases e : k = i
        · subst e
          rw [hrw] at he
          have h1 := run_pairs hw (sw_row hg hr) (by rw [sw_len hg]; exact hl)
          rw [List.length_map, pairs_sw hg c] at h1
          omega
        · refine grd_least (fun z hz => hG z (by omega)) hr hl hp (fun z hz => ?_) (by rw [List.length_cons]; exact he) (by rw [List.length_cons]; exact hlen)
          have := hk z hz
          rcases List.mem_cons.mp hz with rfl | h
          · omega
          · have := p1 z h; omega
      · rw [if_neg c] at hlen ⊢
        rw [List.cons_lt_cons_iff]
        rintro (h | ⟨rfl, h⟩)
        · omega
        · have hne := row_ne hr hg
          have c2 : (swL y (G k)).getD (G k) 0 < (swL y (G k)).getD (G k + 1) 0 := by rw [(sw_g hg).1, (sw_g hg).2]; omega
          have h2 := pairs_sw (by rw [sw_len hg]; exact hg) c2
          rw [sw_sw hg] at h2
          rw [hrw] at he
          refine grd_least (fun z hz => hG z (by omega)) (sw_row hg hr) (by rw [sw_len hg]; exact hl) p2 (fun z hz => ?_) (by omega) (by rw [List.length_cons] at hlen; omega) h
          have h3 := hk z (List.mem_cons_of_mem _ hz)
          have h4 := p1 z hz
          omega
theorem tld_grd {gs y : List Int} {n : Nat} (hn : n ≤ gs.length) : ∀ k i, i + k = n → tld gs y i ++ grd (gapN gs) k i (dnL (gs.take i) y) = tld gs y n
  | 0, i, e => by rw [show i = n from e]; exact List.append_nil _
  | k + 1, i, e => by
    have ih := tld_grd (y := y) hn k (i + 1) (by omega)
    rw [tld_succ, dn_next (by omega)] at ih
    unfold grd
    by_cases c : asc gs y i
    · rw [if_pos c, if_pos c] at ih
      unfold asc at c
      rw [if_pos c]; exact ih
    · rw [if_neg c, if_neg c, List.append_assoc] at ih
      unfold asc at c
      rw [if_neg c]; exact ih
theorem run_word {m : Nat} : ∀ {w : List Nat} {b : Nat → Nat}, (∀ g ∈ w, g + 1 < m) → runW (ofF m b) w = ofF m fun j => b (Pw w j)
  | [], _, _ => rfl
  | g :: w, b, hw => by
    show runW (swL (ofF m b) g) w = _
    rw [sw_ofF (hw g List.mem_cons_self), run_word fun x hx => hw x (List.mem_cons_of_mem _ hx)]; rfl
theorem few_least {m : Nat} {gs : List Int} {a b : Nat → Nat} (h1 : 1 ≤ m) (h9 : m ≤ 9) (hb : BookOk m gs) (hi : IsInv m a b) (h : dnL gs (ofF m b) = row0 m) : Least (GoL m gs gs.length (ofF m a)) (tld gs (ofF m b) gs.length) := by
  refine ⟨⟨tld_lt, fun k hk => (mem_tld.mp hk).1, few_word hb hi h⟩, ?_⟩
  rintro L ⟨hp, hk, e⟩
  have hw : ∀ g ∈ L.map (gapN gs), g + 1 < m := fun g hg => by
    obtain ⟨z, hz, rfl⟩ := List.mem_map.mp hg
    exact gap_lt hb (hk z hz)
  have hf := few_pairs h1 h9 hb hi h
  have hq := pairs_word h1 h9 _ _ rfl hw
  rw [← e, List.length_map] at hq
  rintro (z | ⟨z, z2⟩)
  · omega
  · have et := tld_grd (y := ofF m b) (Nat.le_refl gs.length) gs.length 0 (Nat.zero_add _)
    have et : grd (gapN gs) gs.length 0 (ofF m b) = tld gs (ofF m b) gs.length := et
    rw [← et] at z2
    refine grd_least (fun k hk => gap_lt hb (by omega)) (row_ofF h1 h9 hi.symm) (ofF_len m b) hp (fun k h => ⟨Nat.zero_le _, by rw [Nat.zero_add]; exact hk k h⟩) ?_ (by rw [et]; exact z.symm) z2
    have er : runW (ofF m b) (L.map (gapN gs)) = row0 m := by
      rw [run_word hw, row0_ofF]
      refine ofF_congr fun j hj => ?_
      rw [← ofF_eq e hj]
      exact (hi.ab j hj).2
    rw [er, pairs_row00, Nat.zero_add, z]
    exact (inv_pairs_le h1 h9 hb hi h).2
end MM
namespace MM
open PySem PySem.Spec PyProof.Rows L2 GxR
/-! ### shortest books, listed and counted -/
abbrev Fall (y : List Int) (g : Nat) : Prop := y.getD (g + 1) 0 < y.getD g 0
/-- the words by which a row is led back into order, first letter first -/
def LW : Nat → List Int → List (List Nat)
  | 0, _ => [[]]
  | k + 1, y => (List.range (y.length - 1)).flatMap fun g => if Fall y g then (LW k (swL y g)).map (g :: ·) else []
/-- those of them whose first letter is less than n -/
def LWto (k : Nat) (y : List Int) (n : Nat) : List (List Nat) := (List.range n).flatMap fun g => if Fall y g then (LW k (swL y g)).map (g :: ·) else []
def nrw (k : Nat) (y : List Int) : Nat := (LW k y).length
def upto (k : Nat) (y : List Int) (n : Nat) : Nat := (LWto k y n).length
theorem LW_succ (k : Nat) (y : List Int) : LW (k + 1) y = LWto k y (y.length - 1) := rfl
theorem LWto_succ (k : Nat) (y : List Int) (n : Nat) : LWto k y (n + 1) = LWto k y n ++ (if Fall y n then (LW k (swL y n)).map (n :: ·) else []) := by
  unfold LWto
  rw [List.range_succ, List.flatMap_append]
  congr 1
  simp
theorem upto_zero (k : Nat) (y : List Int) : upto k y 0 = 0 := rfl
theorem upto_succ (k : Nat) (y : List Int) (n : Nat) : upto k y (n + 1) = upto k y n + if Fall y n then nrw k (swL y n) else 0 := by
  unfold upto
  rw [LWto_succ, List.length_append]
  split
  · rw [List.length_map]; rfl
  · rfl
theorem nrw_succ (k : Nat) (y : List Int) : nrw (k + 1) y = upto k y (y.length - 1) := rfl
theorem nrw_zero (y : List Int) : nrw 0 y = 1 := rfl
theorem LWto_pre (k : Nat) (y : List Int) (n : Nat) : ∀ d, ∃ t, LWto k y (n + d) = LWto k y n ++ t
  | 0 => ⟨[], (List.append_nil _).symm⟩
  | d + 1 => by
    obtain ⟨t, e⟩ := LWto_pre k y n d
    exact ⟨_, by rw [show n + (d + 1) = (n + d) + 1 from rfl, LWto_succ, e, List.append_assoc]⟩
theorem upto_mono {k : Nat} {y : List Int} {n n' : Nat} (h : n ≤ n') : upto k y n ≤ upto k y n' := by
  obtain ⟨t, e⟩ := LWto_pre k y n (n' - n)
  rw [show n + (n' - n) = n' by omega] at e
  unfold upto
  rw [e, List.length_append]; omega
/-- the words with the first letter g stand together -/
theorem LW_at {k : Nat} {y : List Int} {g i : Nat} (hg : g < y.length - 1) (h1 : upto k y g ≤ i) (h2 : i < upto k y (g + 1)) : Fall y g ∧ i - upto k y g < nrw k (swL y g) ∧ (LW (k + 1) y)[i]? = ((LW k (swL y g))[i - upto k y g]?).map (g :: ·) := by
  have u := upto_succ k y g
  by_cases c : Fall y g
  · rw [if_pos c] at u
    refine ⟨c, by omega, ?_⟩
    obtain ⟨t, e⟩ := LWto_pre k y (g + 1) (y.length - 1 - (g + 1))
    rw [show g + 1 + (y.length - 1 - (g + 1)) = y.length - 1 by omega] at e
    rw [LW_succ, e, List.getElem?_append_left h2, LWto_succ, if_pos c, List.getElem?_append_right h1, List.getElem?_map]; rfl
  · rw [if_neg c] at u; omega
theorem upto_find {k : Nat} {y : List Int} {i : Nat} : ∀ n, i < upto k y n → ∃ g, g < n ∧ upto k y g ≤ i ∧ i < upto k y (g + 1)
  | 0, h => absurd h (Nat.not_lt_zero _)
  | n + 1, h => by
    by_cases c : i < upto k y n
    · obtain ⟨g, a, b, d⟩ := upto_find n c; exact ⟨g, by omega, b, d⟩
    · exact ⟨n, by omega, by omega, h⟩
theorem mem_LW {m : Nat} : ∀ {k : Nat} {y : List Int} {w : List Nat}, IsRow y → y.length = m → pairsN y = k → (w ∈ LW k y ↔ w.length = k ∧ (∀ g ∈ w, g + 1 < m) ∧ runW y w = row0 m)
  | 0, y, w, hr, hl, hp => by
    have e : y = row0 m := by rw [no_pairs hr hp, hl]
    constructor
    · intro h
      obtain rfl : w = [] := List.mem_singleton.mp h
      exact ⟨rfl, (fun _ z => nomatch z), e⟩
    · rintro ⟨h, _⟩
      rw [List.length_eq_zero_iff.mp h]; exact List.mem_singleton.mpr rfl
  | k + 1, y, w, hr, hl, hp => by
    have step : ∀ g, g + 1 < m → Fall y g → IsRow (swL y g) ∧ (swL y g).length = m ∧ pairsN (swL y g) = k := fun g hg hf =>
      ⟨sw_row (by omega) hr, by rw [sw_len (by omega)]; exact hl, by have := pairs_desc (x := y) (g := g) (by omega) hf; omega⟩
    show w ∈ (List.range (y.length - 1)).flatMap _ ↔ _
    rw [List.mem_flatMap]
    constructor
    · rintro ⟨g, hg, h⟩
      have hg' := List.mem_range.mp hg
      by_cases c : Fall y g
      · rw [if_pos c] at h
        obtain ⟨w', hw, rfl⟩ := List.mem_map.mp h
        obtain ⟨s1, s2, s3⟩ := step g (by omega) c
        obtain ⟨a, b, e⟩ := (mem_LW s1 s2 s3).mp hw
        refine ⟨by rw [List.length_cons, a], fun x hx => ?_, e⟩
        rcases List.mem_cons.mp hx with z | z
        · rw [z]; omega
        · exact b x z
      · rw [if_neg c] at h; exact nomatch h
    · rintro ⟨a, b, e⟩
      cases w with
      | nil => cases a
      | cons g w' =>
        have hg := b g List.mem_cons_self
        have b' : ∀ x ∈ w', x + 1 < m := fun x hx => b x (List.mem_cons_of_mem _ hx)
        have hl' : w'.length = k := by simpa using a
        have c : Fall y g := by
          apply Decidable.byContradiction
          intro c
          have hne := row_ne hr (g := g) (by omega)
          have up : y.getD g 0 < y.getD (g + 1) 0 := by
            have c' : ¬ y.getD (g + 1) 0 < y.getD g 0 := c
            omega
          have p1 := pairs_sw (ns := y) (g := g) (by omega) up
          have p2 := run_pairs (m := m) b' (sw_row (ns := y) (g := g) (by omega) hr) (by rw [sw_len (by omega)]; exact hl)
          rw [show runW (swL y g) w' = row0 m from e, pairs_row00] at p2
          omega
        obtain ⟨s1, s2, s3⟩ := step g hg c
        exact ⟨g, List.mem_range.mpr (by omega), by rw [if_pos c]; exact List.mem_map.mpr ⟨w', (mem_LW s1 s2 s3).mpr ⟨hl', b', e⟩, rfl⟩⟩
theorem LW_sorted : ∀ (k : Nat) (y : List Int), (LW k y).Pairwise (· < ·)
  | 0, _ => List.pairwise_singleton _ _
  | k + 1, y => by
    show ((List.range (y.length - 1)).flatMap _).Pairwise _
    rw [List.pairwise_flatMap]
    refine ⟨fun g _ => ?_, List.pairwise_lt_range.imp fun {a b} h x hx z hz => ?_⟩
    · split
      · rw [List.pairwise_map]
        exact (LW_sorted k _).imp fun h => List.cons_lt_cons_self.mpr h
      · exact List.Pairwise.nil
    · split at hx
      · split at hz
        · obtain ⟨x', _, rfl⟩ := List.mem_map.mp hx
          obtain ⟨z', _, rfl⟩ := List.mem_map.mp hz
          exact List.cons_lt_cons_iff.mpr (.inl h)
        · exact nomatch hz
      · exact nomatch hx
theorem LW_nodup (k : Nat) (y : List Int) : (LW k y).Nodup := by
  unfold List.Nodup
  exact (LW_sorted k y).imp fun {a b} h (e : a = b) => lex_irr (a := b) (by rw [e] at h; exact h)
theorem nrw_pos {m : Nat} : ∀ {k : Nat} {y : List Int}, IsRow y → y.length = m → pairsN y = k → 0 < nrw k y
  | 0, _, _, _, _ => Nat.one_pos
  | k + 1, y, hr, hl, hp => by
    obtain ⟨g, hg, hf⟩ := has_desc hr (by omega)
    have p := pairs_desc hg hf
    have := nrw_pos (m := m) (k := k) (sw_row hg hr) (by rw [sw_len hg]; exact hl) (by omega)
    have u := upto_succ k y g
    rw [if_pos hf] at u
    have := upto_mono (k := k) (y := y) (n := g + 1) (n' := y.length - 1) (by omega)
    rw [nrw_succ]; omega
/-! #### a row and where each one stands -/
theorem run_inv {m : Nat} {a b : Nat → Nat} (hI : IsInv m a b) {w : List Nat} (hw : ∀ g ∈ w, g + 1 < m) : runW (ofF m b) w = row0 m ↔ ofF m a = ofF m (Pw w) := by
  rw [run_word hw, row0_ofF]
  constructor
  · intro h
    refine ofF_congr fun j hj => ?_
    have h1 := ofF_eq h hj
    have h2 := (hI.symm.ab _ (Pw_lt hw hj)).2
    rw [show b (Pw w j) = j from h1] at h2
    exact h2
  · intro h
    refine ofF_congr fun j hj => ?_
    rw [← ofF_eq h hj]; exact (hI.ab j hj).2
theorem run_back {m : Nat} {a b : Nat → Nat} (hI : IsInv m a b) {w : List Nat} (hw : ∀ g ∈ w, g + 1 < m) : runW (ofF m a) w.reverse = row0 m ↔ runW (ofF m b) w = row0 m := by
  have hr : ∀ g ∈ w.reverse, g + 1 < m := fun g hg => hw g (List.mem_reverse.mp hg)
  rw [run_inv hI.symm hr, run_inv hI hw]
  have W := word_inv hw
  constructor
  · intro h
    refine ofF_congr fun j hj => ?_
    have h1 := ofF_eq h (hI.ab j hj).1
    rw [(hI.ab j hj).2] at h1
    have h2 := (W.symm.ab (a j) (hI.ab j hj).1).2
    rw [← h1] at h2; exact h2.symm
  · intro h
    refine ofF_congr fun j hj => ?_
    have h1 := ofF_eq h (hI.ba j hj).1
    rw [(hI.ba j hj).2] at h1
    have h2 := (W.ab (b j) (hI.ba j hj).1).2
    rw [← h1] at h2; exact h2.symm
theorem nrw_inv {m : Nat} {a b : Nat → Nat} (h1 : 1 ≤ m) (h9 : m ≤ 9) (hI : IsInv m a b) {k : Nat} (hp : pairsN (ofF m a) = k) : nrw k (ofF m b) = nrw k (ofF m a) := by
  have ra := row_ofF h1 h9 hI
  have rb := row_ofF h1 h9 hI.symm
  have pb : pairsN (ofF m b) = k := by rw [pairs_back h1 h9 hI]; exact hp
  have P : ((LW k (ofF m a)).map List.reverse).Perm (LW k (ofF m b)) := by
    rw [List.perm_ext_iff_of_nodup ?_ (LW_nodup _ _)]
    · intro w
      rw [mem_LW (m := m) rb (ofF_len _ _) pb, List.mem_map]
      constructor
      · rintro ⟨v, hv, rfl⟩
        obtain ⟨c1, c2, c3⟩ := (mem_LW (m := m) ra (ofF_len _ _) hp).mp hv
        have c4 : ∀ g ∈ v.reverse, g + 1 < m := fun g hg => c2 g (List.mem_reverse.mp hg)
        exact ⟨by rw [List.length_reverse]; exact c1, c4, (run_back hI c4).mp (by rw [List.reverse_reverse]; exact c3)⟩
      · rintro ⟨c1, c2, c3⟩
        have c4 : ∀ g ∈ w.reverse, g + 1 < m := fun g hg => c2 g (List.mem_reverse.mp hg)
        exact ⟨w.reverse, (mem_LW (m := m) ra (ofF_len _ _) hp).mpr ⟨by rw [List.length_reverse]; exact c1, c4, (run_back hI c2).mpr c3⟩, List.reverse_reverse w⟩
    · unfold List.Nodup
      rw [List.pairwise_map]
      exact (LW_nodup _ _).imp fun h e => h (List.reverse_inj.mp e)
  have := P.length_eq
  rw [List.length_map] at this
  exact this.symm
end MM
namespace MM
open PySem PySem.Spec PyProof.Rows L2 GxR
/-! ### by how many goings each row comes from a row -/
def oneR (r : List Int) : List Int → Nat := fun x => if x = r then 1 else 0
def wN (r : List Int) (gs : List Int) : List Int → Nat := cntS (oneR r) gs
theorem wN_one0 (m : Nat) (gs : List Int) : wN (row0 m) gs = cntsM m gs := rfl
theorem wN_nil (r : List Int) : wN r [] = oneR r := rfl
theorem wN_snoc (r as : List Int) (g : Int) (x : List Int) : wN r (as ++ [g]) x = wN r as x + wN r as (swL x g.toNat) := by
  unfold wN; rw [cntS_app]; rfl
theorem wN_take {r gs : List Int} {i : Nat} (h : i < gs.length) : wN r (gs.take (i + 1)) = tkN (gapN gs i) (wN r (gs.take i)) := by
  have e : gs.take (i + 1) = gs.take i ++ [gs.getD i 0] := by rw [List.take_add_one, getD_some h]; rfl
  rw [e]; unfold wN; rw [cntS_app]; rfl
theorem cntS_add (f h : List Int → Nat) : ∀ (bs : List Int) (x : List Int), cntS (fun y => f y + h y) bs x = cntS f bs x + cntS h bs x
  | [], _ => rfl
  | b :: bs, x => by
    have ih := cntS_add (tkN b.toNat f) (tkN b.toNat h) bs x
    show cntS (tkN b.toNat fun y => f y + h y) bs x = cntS (tkN b.toNat f) bs x + cntS (tkN b.toNat h) bs x
    rw [← ih]
    congr 1
    funext y
    show (f y + h y) + (f (swL y b.toNat) + h (swL y b.toNat)) = (f y + f (swL y b.toNat)) + (h y + h (swL y b.toNat))
    omega
theorem oneR_pos {r x : List Int} : 0 < oneR r x ↔ x = r := by
  unfold oneR
  by_cases e : x = r
  · rw [if_pos e]; exact ⟨fun _ => e, fun _ => Nat.one_pos⟩
  · rw [if_neg e]; exact ⟨fun h => absurd h (Nat.lt_irrefl _), fun h => absurd h e⟩
theorem tkN_pos {g : Nat} {f : List Int → Nat} {x : List Int} : 0 < tkN g f x ↔ 0 < f x ∨ 0 < f (swL x g) := by unfold tkN; omega
theorem cntS_pos {m : Nat} : ∀ {bs : List Int} {f : List Int → Nat} {x : List Int}, BookOk m bs → x.length = m → (0 < cntS f bs x ↔ ∃ y, y.length = m ∧ 0 < f y ∧ 0 < wN y bs x)
  | [], f, x, _, hx => by
    constructor
    · exact fun h => ⟨x, hx, h, oneR_pos.mpr rfl⟩
    · rintro ⟨y, _, h1, h2⟩
      rw [show x = y from oneR_pos.mp h2]; exact h1
  | b :: bs, f, x, hb, hx => by
    have hb' : BookOk m bs := fun z hz => hb z (List.mem_cons_of_mem _ hz)
    have hg := hb b List.mem_cons_self
    have hgn : b.toNat + 1 < m := by omega
    show 0 < cntS (tkN b.toNat f) bs x ↔ ∃ y, y.length = m ∧ 0 < f y ∧ 0 < cntS (tkN b.toNat (oneR y)) bs x
    rw [cntS_pos hb' hx]
    constructor
    · rintro ⟨z, hz, h1, h2⟩
      rcases tkN_pos.mp h1 with h | h
      · exact ⟨z, hz, h, (cntS_pos hb' hx).mpr ⟨z, hz, tkN_pos.mpr (.inl (oneR_pos.mpr rfl)), h2⟩⟩
      · exact ⟨_, by rw [sw_len (by omega)]; exact hz, h, (cntS_pos hb' hx).mpr ⟨z, hz, tkN_pos.mpr (.inr (oneR_pos.mpr rfl)), h2⟩⟩
    · rintro ⟨y, hy, h1, h2⟩
      obtain ⟨z, hz, h3, h4⟩ := (cntS_pos hb' hx).mp h2
      refine ⟨z, hz, tkN_pos.mpr ?_, h4⟩
      rcases tkN_pos.mp h3 with h | h
      · rw [oneR_pos.mp h]; exact .inl h1
      · rw [oneR_pos.mp h]; exact .inr h1
theorem wN_row {m : Nat} {r : List Int} (hr : IsRow r) : ∀ {n : Nat} {gs : List Int}, gs.length = n → BookOk m gs → ∀ {x : List Int}, x.length = m → 0 < wN r gs x → IsRow x
  | 0, gs, hl, _, x, _, h => by
    rw [List.length_eq_zero_iff.mp hl] at h
    rw [show x = r from oneR_pos.mp h]; exact hr
  | n + 1, gs, hl, hb, x, hx, h => by
    have hn : n < gs.length := by omega
    have e : gs = gs.take n ++ [gs.getD n 0] := by
      conv => lhs; rw [← List.take_length (l := gs), hl, List.take_add_one, getD_some hn]
      rfl
    have hb' : BookOk m (gs.take n) := fun y hy => hb y (List.mem_of_mem_take hy)
    have hg := hb (gs.getD n 0) (List.mem_of_getElem? (getD_some hn))
    rw [e, wN_snoc] at h
    have ih := @wN_row m r hr n (gs.take n) (by rw [List.length_take]; omega) hb'
    rcases (show 0 < wN r (gs.take n) x ∨ 0 < wN r (gs.take n) (swL x (gs.getD n 0).toNat) by omega) with h | h
    · exact ih hx h
    · have h2 := ih (by rw [sw_len (by omega)]; exact hx) h
      have := sw_row (g := (gs.getD n 0).toNat) (by rw [sw_len (by omega)]; omega) h2
      rw [sw_sw (by omega)] at this
      exact this
theorem sw_back {m : Nat} {x y : List Int} {g : Nat} (hx : x.length = m) (hg : g + 1 < m) : swL x g = y → x = swL y g := fun h => by rw [← h, sw_sw (by omega)]
/-- the other way about -/
theorem wN_rev {m : Nat} : ∀ {bs : List Int} {x y : List Int}, BookOk m bs → x.length = m → y.length = m → (0 < wN y bs x ↔ 0 < wN x bs.reverse y)
  | [], x, y, _, _, _ => by
    rw [List.reverse_nil, wN_nil, wN_nil, oneR_pos, oneR_pos]; exact ⟨Eq.symm, Eq.symm⟩
  | b :: bs, x, y, hb, hx, hy => by
    have hb' : BookOk m bs := fun z hz => hb z (List.mem_cons_of_mem _ hz)
    have hg := hb b List.mem_cons_self
    have hgn : b.toNat + 1 < m := by omega
    rw [List.reverse_cons, wN_snoc]
    show 0 < cntS (tkN b.toNat (oneR y)) bs x ↔ _
    have i1 := wN_rev hb' hx hy
    have i2 := wN_rev (y := swL y b.toNat) hb' hx (by rw [sw_len (by omega)]; exact hy)
    rw [cntS_pos hb' hx]
    constructor
    · rintro ⟨z, hz, h1, h2⟩
      rcases tkN_pos.mp h1 with h | h
      · rw [oneR_pos.mp h] at h2
        have := i1.mp h2; omega
      · rw [sw_back hz hgn (oneR_pos.mp h)] at h2
        have := i2.mp h2; omega
    · intro h
      rcases (show 0 < wN x bs.reverse y ∨ 0 < wN x bs.reverse (swL y b.toNat) by omega) with h | h
      · exact ⟨y, hy, tkN_pos.mpr (.inl (oneR_pos.mpr rfl)), i1.mpr h⟩
      · exact ⟨_, by rw [sw_len (by omega)]; exact hy, tkN_pos.mpr (.inr (by rw [sw_sw (by omega)]; exact oneR_pos.mpr rfl)), i2.mpr h⟩
theorem book_revI {m : Nat} {gs : List Int} (h : BookOk m gs) : BookOk m gs.reverse := fun x hx => h x (List.mem_reverse.mp hx)
/-- the goings without a meeting, and those with a change at it -/
theorem wN_mid {r as bs x : List Int} {g : Int} : wN r (as ++ g :: bs) x = wN r (as ++ bs) x + cntS (fun y => wN r as (swL y g.toNat)) bs x := by
  unfold wN
  rw [cntS_app, cntS_app]
  show cntS (tkN g.toNat (cntS (oneR r) as)) bs x = _
  exact cntS_add _ _ bs x
theorem stay_pos {m : Nat} {r as bs x : List Int} (hb : BookOk m bs) (hx : x.length = m) (ha : BookOk m as) (hr : IsRow r) : 0 < wN r (as ++ bs) x ↔ ∃ y, IsRow y ∧ y.length = m ∧ 0 < wN r as y ∧ 0 < wN x bs.reverse y := by
  show 0 < cntS (oneR r) (as ++ bs) x ↔ _
  rw [cntS_app, cntS_pos hb hx]
  constructor
  · rintro ⟨y, hy, h1, h2⟩; exact ⟨y, wN_row hr rfl ha hy h1, hy, h1, (wN_rev hb hx hy).mp h2⟩
  · rintro ⟨y, _, hy, h1, h2⟩; exact ⟨y, hy, h1, (wN_rev hb hx hy).mpr h2⟩
theorem chg_pos {m : Nat} {r as bs x : List Int} {g : Nat} (hb : BookOk m bs) (hx : x.length = m) (ha : BookOk m as) (hr : IsRow r) (hg : g + 1 < m) : 0 < cntS (fun y => wN r as (swL y g)) bs x ↔ ∃ y, IsRow y ∧ y.length = m ∧ 0 < wN r as y ∧ 0 < wN x bs.reverse (swL y g) := by
  rw [cntS_pos hb hx]
  constructor
  · rintro ⟨y, hy, h1, h2⟩
    have h1 : 0 < wN r as (swL y g) := h1
    have hl : (swL y g).length = m := by rw [sw_len (by omega)]; exact hy
    exact ⟨swL y g, wN_row hr rfl ha hl h1, hl, h1, by rw [sw_sw (by omega)]; exact (wN_rev hb hx hy).mp h2⟩
  · rintro ⟨y, _, hl, h1, h2⟩
    refine ⟨swL y g, by rw [sw_len (by omega)]; exact hl, by show 0 < wN r as (swL (swL y g) g); rw [sw_sw (by omega)]; exact h1, (wN_rev hb hx (by rw [sw_len (by omega)]; exact hl)).mpr h2⟩
/-- a row comes just where some going leads there -/
theorem come_cnt {m : Nat} {gs : List Int} (hb : BookOk m gs) : ∀ k, k ≤ gs.length → ∀ x, IsRow x → x.length = m → (Come m gs k x ↔ 0 < wN (row0 m) (gs.take k) x)
  | 0, _, x, _, _ => by rw [List.take_zero, wN_nil, oneR_pos]; exact Iff.rfl
  | k + 1, hk, x, hr, hl => by
    have ih := come_cnt hb k (by omega)
    obtain ⟨g, e, hg⟩ := book_at hb (k := k) (by omega)
    have eg : gapN gs k = g := by unfold gapN; rw [e, Int.toNat_natCast]
    rw [wN_take (by omega), eg, tkN_pos, ← ih x hr hl, ← ih (swL x g) (sw_row (by omega) hr) (by rw [sw_len (by omega)]; exact hl)]
    constructor
    · rintro (h | ⟨y, h1, h2, h3, h4⟩)
      · exact .inl h
      · rw [e, Int.toNat_natCast] at h4
        rw [h4, sw_sw (by omega)]; exact .inr h3
    · rintro (h | h)
      · exact .inl h
      · exact .inr ⟨swL x g, sw_row (by omega) hr, by rw [sw_len (by omega)]; exact hl, h, by rw [e, Int.toNat_natCast, sw_sw (by omega)]⟩
theorem lets_cnt {m : Nat} {gs x : List Int} (h1 : 1 ≤ m) (h9 : m ≤ 9) (hb : BookOk m gs) (hr : IsRow x) (hl : x.length = m) : more x (farL (row0 m) gs) = [] ↔ 0 < wN (row0 m) gs x := by
  rw [← come_far h1 h9 hb hr hl, come_cnt hb gs.length (Nat.le_refl _) x hr hl, List.take_length]
/-! ### a dict that tells them -/
structure DW (m : Nat) (f : List Int → Nat) (kvs : List (List Key × V)) : Prop where
  nd : (kvs.map (·.1)).Nodup
  all : ∀ p ∈ kvs, ∃ ns, p.1 = rk ns ∧ IsRow ns ∧ ns.length = m
  val : ∀ x, IsRow x → x.length = m → valV kvs (rk x) = if f x = 0 then none else some (.int ((f x : Nat) : Int))
theorem DW.le {m : Nat} {f : List Int → Nat} {kvs : List (List Key × V)} (h : DW m f kvs) (h6 : m ≤ 6) : kvs.length ≤ 531441 := RowsK.le (S := fun ns => (valV kvs (rk ns)).isSome = true) ⟨h.nd, h.all, fun _ => Iff.rfl⟩ h6
theorem DW.get {m : Nat} {f : List Int → Nat} {kvs : List (List Key × V)} (h : DW m f kvs) {x : List Int} (hr : IsRow x) (hl : x.length = m) : (valV kvs (rk x)).getD (.int 0) = .int ((f x : Nat) : Int) := by
  rw [h.val x hr hl]
  by_cases e : f x = 0
  · rw [if_pos e, e]; rfl
  · rw [if_neg e]; rfl
theorem DW.has {m : Nat} {f : List Int → Nat} {kvs : List (List Key × V)} (h : DW m f kvs) {x : List Int} (hr : IsRow x) (hl : x.length = m) : (valV kvs (rk x)).isSome = decide (0 < f x) := by
  rw [h.val x hr hl]
  by_cases e : f x = 0
  · rw [if_pos e, e]; rfl
  · rw [if_neg e, decide_eq_true (by omega)]; rfl
theorem DW.congr {m : Nat} {f f' : List Int → Nat} {kvs : List (List Key × V)} (h : DW m f kvs) (e : ∀ x, IsRow x → x.length = m → f x = f' x) : DW m f' kvs := ⟨h.nd, h.all, fun x hr hl => by rw [← e x hr hl]; exact h.val x hr hl⟩
theorem DW.key {m : Nat} {f : List Int → Nat} {kvs : List (List Key × V)} (h : DW m f kvs) {x : List Int} (hr : IsRow x) (hl : x.length = m) : rk x ∈ kvs.map (·.1) ↔ 0 < f x := by
  rw [← valV_mem, h.has hr hl, decide_eq_true_eq]
theorem DW.at {m : Nat} {f : List Int → Nat} {kvs : List (List Key × V)} (h : DW m f kvs) {i : Nat} {k : List Key} {v : V} (e : kvs[i]? = some (k, v)) : ∃ ns, k = rk ns ∧ IsRow ns ∧ ns.length = m ∧ 0 < f ns ∧ valV kvs (rk ns) = some (.int ((f ns : Nat) : Int)) := by
  have hm := List.mem_of_getElem? e
  obtain ⟨ns, e1, h1, h2⟩ := h.all _ hm
  have hk := (h.key h1 h2).mp (List.mem_map.mpr ⟨_, hm, e1⟩)
  exact ⟨ns, e1, h1, h2, hk, by rw [h.val ns h1 h2, if_neg (by omega)]⟩
theorem DW.one {m : Nat} {r : List Int} (hr : IsRow r) (hl : r.length = m) : DW m (oneR r) (putK [] (rk r) (.int 1)) := by
  have R := RowsK.one hr hl (.int 1)
  refine ⟨R.nd, R.all, fun x _ _ => ?_⟩
  rw [valV_put]
  unfold oneR
  by_cases e : x = r
  · rw [if_pos (by rw [e]), if_pos e]; rfl
  · rw [if_neg (fun z => e (rk_inj z)), if_neg e]; rfl
theorem putK_new {α : Type} [DecidableEq α] {kvs : List (α × V)} {k : α} {v : V} (h : ∀ p ∈ kvs, p.1 ≠ k) : putK kvs k v = kvs ++ [(k, v)] := by
  unfold putK
  rw [if_neg]
  intro z
  obtain ⟨p, hp, e⟩ := List.any_eq_true.mp z
  exact h p hp (by simpa using e)
theorem putK_next {kvs : List (List Key × V)} (hn : (kvs.map (·.1)).Nodup) {i : Nat} {k : List Key} {v : V} (e : kvs[i]? = some (k, v)) : putK (kvs.take i) k v = kvs.take (i + 1) := by
  rw [putK_new, List.take_add_one, e]
  · rfl
  · intro p hp z
    have h2 := not_before hn (j := i) (k := k) (by rw [e]; rfl)
    exact h2 (by rw [← List.map_take]; exact List.mem_map.mpr ⟨p, hp, z⟩)
theorem DW.put {m : Nat} {kvs kv2 : List (List Key × V)} {f : List Int → Nat} {g j : Nat} {ns : List Int} (hn : (kvs.map (·.1)).Nodup) (h : (kvs[j]?).map (·.1) = some (rk ns)) (hR : IsRow ns) (hl : ns.length = m) (hf : 0 < f ns) (hg : g + 1 < m) (hJ : DW m (fJ kvs f g j) kv2) :
    DW m (fJ kvs f g (j + 1)) (putK kv2 (rk (swL ns g)) (.int (((fJ kvs f g j (swL ns g) : Nat) : Int) + ((f ns : Nat) : Int)))) := by
  have R := (RowsK.put (S := fun ns => (valV kv2 (rk ns)).isSome = true) ⟨hJ.nd, hJ.all, fun _ => Iff.rfl⟩ (sw_row (g := g) (by omega) hR) (by rw [sw_len (by omega)]; exact hl) (.int (((fJ kvs f g j (swL ns g) : Nat) : Int) + ((f ns : Nat) : Int))))
  refine ⟨R.nd, R.all, fun x hr hx => ?_⟩
  rw [valV_put]
  by_cases e : rk x = rk (swL ns g)
  · rw [if_pos e, rk_inj e, fJ_this hn h (by omega), if_neg (by omega), Int.natCast_add]
  · rw [if_neg e, fJ_other h (by omega) (fun z => e (by rw [z]))]
    exact hJ.val x hr hx
theorem DW.fin {m : Nat} {kvs kv2 : List (List Key × V)} {f : List Int → Nat} {g : Nat} (h : DW m f kvs) (hg : g + 1 < m) (hJ : DW m (fJ kvs f g kvs.length) kv2) : DW m (tkN g f) kv2 := by
  refine hJ.congr fun x hr hl => ?_
  unfold fJ tkN
  rw [List.take_of_length_le (by rw [List.length_map]; exact Nat.le_refl _)]
  have hk := h.key (x := swL x g) (sw_row (by omega) hr) (by rw [sw_len (by omega)]; exact hl)
  by_cases c : rk (swL x g) ∈ kvs.map (·.1)
  · rw [if_pos c]
  · rw [if_neg c]
    have : ¬ 0 < f (swL x g) := fun z => c (hk.mpr z)
    omega
end MM
namespace MM
open PySem PySem.Spec PyProof.Rows L2 GxR
theorem val_of_nodup : ∀ {kvs : List (List Key × V)} (_ : (kvs.map (·.1)).Nodup) {i : Nat} {k : List Key} {v : V} (_ : kvs[i]? = some (k, v)), valV kvs k = some v
  | [], _, i, k, v, e => by rw [List.getElem?_nil] at e; cases e
  | p :: kvs, hn, i, k, v, e => by
    rw [List.map_cons, List.nodup_cons] at hn
    unfold valV
    cases i with
    | zero =>
      rw [List.getElem?_cons_zero] at e
      cases e
      rw [List.find?_cons_of_pos (by simp)]; rfl
    | succ i =>
      rw [List.getElem?_cons_succ] at e
      have ih := val_of_nodup hn.2 e
      unfold valV at ih
      rw [List.find?_cons_of_neg]
      · exact ih
      · intro z
        have z : p.1 = k := by simpa using z
        exact hn.1 (by rw [z]; exact List.mem_map.mpr ⟨(k, v), List.mem_of_getElem? e, rfl⟩)
end MM
namespace MM
open PySem PySem.Spec PyProof.Rows L2 GxR
/-! ### a dict that tells of each row with so many turned pairs how many shortest books it has -/
def fK (k : Nat) (x : List Int) : Nat := if pairsN x = k then nrw k x else 0
def sumG (n : Nat) (t : Nat → Nat) : Nat := ((List.range n).map t).sum
theorem sumG_succ (n : Nat) (t : Nat → Nat) : sumG (n + 1) t = sumG n t + t n := by
  unfold sumG
  rw [List.range_succ, List.map_append, List.sum_append]; simp
theorem sumG_congr {t t' : Nat → Nat} : ∀ {n : Nat}, (∀ g, g < n → t g = t' g) → sumG n t = sumG n t'
  | 0, _ => rfl
  | n + 1, h => by rw [sumG_succ, sumG_succ, sumG_congr fun g hg => h g (by omega), h n (by omega)]
theorem sumG_add {t t' : Nat → Nat} {i c : Nat} : ∀ {n : Nat}, i < n → t' i = t i + c → (∀ g, g < n → g ≠ i → t' g = t g) → sumG n t' = sumG n t + c
  | 0, h, _, _ => absurd h (Nat.not_lt_zero _)
  | n + 1, hi, hc, h => by
    rw [sumG_succ, sumG_succ]
    by_cases e : i = n
    · subst e
      rw [hc, sumG_congr (t := t') (t' := t) fun g hg => h g (by omega) (by omega)]; omega
    · rw [sumG_add (by omega) hc fun g hg => h g (by omega), h n (by omega) (by omega)]; omega
theorem upto_sum (k : Nat) (y : List Int) : ∀ n, upto k y n = sumG n fun g => if Fall y g then nrw k (swL y g) else 0
  | 0 => rfl
  | n + 1 => by rw [upto_succ, sumG_succ, upto_sum k y n]
open Classical in
/-- what the rows ahead of place j, and the gaps ahead of i of the row there, have put in -/
noncomputable def fW (keys : List (List Key)) (f : List Int → Nat) (j : Nat) (row : List Int) (i : Nat) (y : List Int) : Nat :=
  sumG (y.length - 1) fun g => if Fall y g ∧ (rk (swL y g) ∈ keys.take j ∨ (swL y g = row ∧ g < i)) then f (swL y g) else 0
theorem fW_zero (keys : List (List Key)) (f : List Int → Nat) (row y : List Int) : fW keys f 0 row 0 y = 0 := by
  unfold fW
  rw [sumG_congr (t' := fun _ => 0) fun g _ => if_neg fun h => by
    rcases h.2 with z | z
    · rw [List.take_zero] at z; exact nomatch z
    · exact absurd z.2 (Nat.not_lt_zero _)]
  generalize y.length - 1 = n
  induction n with
  | zero => rfl
  | succ n ih => rw [sumG_succ, ih]
theorem fW_congr {keys : List (List Key)} {f : List Int → Nat} {j j' : Nat} {row row' : List Int} {i i' : Nat} {y : List Int} (h : ∀ g, g < y.length - 1 → Fall y g → ((rk (swL y g) ∈ keys.take j ∨ (swL y g = row ∧ g < i)) ↔ (rk (swL y g) ∈ keys.take j' ∨ (swL y g = row' ∧ g < i')))) : fW keys f j row i y = fW keys f j' row' i' y := by
  unfold fW
  refine sumG_congr fun g hg => ?_
  by_cases c : Fall y g
  · have := h g hg c
    by_cases d : rk (swL y g) ∈ keys.take j ∨ (swL y g = row ∧ g < i)
    · rw [if_pos ⟨c, d⟩, if_pos ⟨c, this.mp d⟩]
    · rw [if_neg fun z => d z.2, if_neg fun z => d (this.mpr z.2)]
  · rw [if_neg fun z => c z.1, if_neg fun z => c z.1]
theorem fall_sw {x : List Int} {g : Nat} (h : g + 1 < x.length) : Fall (swL x g) g ↔ x.getD g 0 < x.getD (g + 1) 0 := by
  unfold Fall
  rw [(sw_g h).1, (sw_g h).2]
theorem fW_up {keys : List (List Key)} {f : List Int → Nat} {j i : Nat} {row : List Int} (hn : keys.Nodup) (hk : keys[j]? = some (rk row)) (hi : i + 1 < row.length) (ha : row.getD i 0 < row.getD (i + 1) 0) : fW keys f j row (i + 1) (swL row i) = fW keys f j row i (swL row i) + f row := by
  unfold fW
  have hl := sw_len hi
  have notin : rk row ∉ keys.take j := by
    have h1 := hn.sublist (List.take_sublist (j + 1) _)
    rw [List.take_add_one, hk] at h1
    have h2 := (List.nodup_append.mp h1).2.2
    exact fun z => h2 _ z _ List.mem_cons_self rfl
  refine sumG_add (i := i) (by omega) ?_ fun g hg hne => ?_
  · rw [sw_sw hi, if_pos ⟨(fall_sw hi).mpr ha, .inr ⟨rfl, Nat.lt_succ_self i⟩⟩, if_neg fun z => by
      rcases z.2 with h | h
      · exact notin h
      · exact absurd h.2 (Nat.lt_irrefl _)]
    omega
  · by_cases d : Fall (swL row i) g ∧ (rk (swL (swL row i) g) ∈ keys.take j ∨ (swL (swL row i) g = row ∧ g < i))
    · rw [if_pos d, if_pos ⟨d.1, d.2.imp_right fun h => ⟨h.1, by omega⟩⟩]
    · rw [if_neg d, if_neg fun z => d ⟨z.1, z.2.imp_right fun h => ⟨h.1, by omega⟩⟩]
theorem fW_other {keys : List (List Key)} {f : List Int → Nat} {j i : Nat} {row y : List Int} (hl : y.length = row.length) (hi : i + 1 < row.length) (h : y ≠ swL row i ∨ ¬ row.getD i 0 < row.getD (i + 1) 0) : fW keys f j row (i + 1) y = fW keys f j row i y := by
  refine fW_congr fun g hg hf => ⟨fun z => z.imp_right fun w => ⟨w.1, ?_⟩, fun z => z.imp_right fun w => ⟨w.1, by omega⟩⟩
  by_cases e : g = i
  · subst e
    have e2 : y = swL row g := by rw [← w.1, sw_sw (by omega)]
    rcases h with h | h
    · exact absurd e2 h
    · rw [e2] at hf; exact absurd ((fall_sw hi).mp hf) h
  · omega
theorem fW_next {keys : List (List Key)} {f : List Int → Nat} {j : Nat} {row row' y : List Int} (hk : keys[j]? = some (rk row)) (hl : y.length = row.length) : fW keys f j row (row.length - 1) y = fW keys f (j + 1) row' 0 y := by
  refine fW_congr fun g hg hf => ?_
  rw [List.take_add_one, hk]
  constructor
  · rintro (z | z)
    · exact .inl (List.mem_append_left _ z)
    · exact .inl (List.mem_append_right _ (by rw [z.1]; exact List.mem_cons_self))
  · rintro (z | z)
    · rcases List.mem_append.mp z with w | w
      · exact .inl w
      · exact .inr ⟨rk_inj (List.mem_singleton.mp w), by omega⟩
    · exact absurd z.2 (Nat.not_lt_zero _)
theorem fK_sw {m k g : Nat} {y : List Int} (hr : IsRow y) (hl : y.length = m) (hg : g + 1 < m) (hp : pairsN y = k + 1) : fK k (swL y g) = if Fall y g then nrw k (swL y g) else 0 := by
  unfold fK
  by_cases c : Fall y g
  · have := pairs_desc (x := y) (g := g) (by omega) c
    rw [if_pos c, if_pos (by omega)]
  · have hne := row_ne hr (g := g) (by omega)
    have up : y.getD g 0 < y.getD (g + 1) 0 := by
      have c' : ¬ y.getD (g + 1) 0 < y.getD g 0 := c
      omega
    have := pairs_sw (ns := y) (g := g) (by omega) up
    rw [if_neg c, if_neg (by omega)]
theorem fW_all {m k : Nat} {kvs : List (List Key × V)} {row y : List Int} (hC : CC m (fK k) kvs) (hr : IsRow y) (hl : y.length = m) : fW (kvs.map (·.1)) (fK k) kvs.length row 0 y = fK (k + 1) y := by
  have none0 : ∀ z, IsRow z → z.length = m → rk z ∉ kvs.map (·.1) → fK k z = 0 := fun z hz hzl c => by
    have h1 := hC z hz hzl
    have h2 : valV kvs (rk z) = none := by
      cases h : valV kvs (rk z) with
      | none => rfl
      | some v => exact absurd (valV_mem.mp (by rw [h]; rfl)) c
    rw [h2] at h1
    have : (0 : Int) = ((fK k z : Nat) : Int) := by injection h1
    omega
  have e1 : fW (kvs.map (·.1)) (fK k) kvs.length row 0 y = sumG (y.length - 1) fun g => if Fall y g then fK k (swL y g) else 0 := by
    unfold fW
    refine sumG_congr fun g hg => ?_
    by_cases c : Fall y g
    · rw [if_pos c]
      by_cases d : rk (swL y g) ∈ kvs.map (·.1)
      · rw [if_pos ⟨c, .inl (by rw [List.take_of_length_le (by rw [List.length_map]; exact Nat.le_refl _)]; exact d)⟩]
      · rw [none0 _ (sw_row (by omega) hr) (by rw [sw_len (by omega)]; exact hl) d]
        split <;> rfl
    · rw [if_neg c, if_neg fun z => c z.1]
  rw [e1]
  by_cases p : pairsN y = k + 1
  · rw [show fK (k + 1) y = nrw (k + 1) y from if_pos p, nrw_succ, upto_sum]
    refine sumG_congr fun g hg => ?_
    by_cases c : Fall y g
    · rw [if_pos c, if_pos c, fK_sw hr hl (by omega) p, if_pos c]
    · rw [if_neg c, if_neg c]
  · rw [show fK (k + 1) y = 0 from if_neg p, sumG_congr (t' := fun _ => 0) fun g hg => ?_]
    · generalize y.length - 1 = n
      induction n with
      | zero => rfl
      | succ n ih => rw [sumG_succ, ih]
    · by_cases c : Fall y g
      · have := pairs_desc (x := y) (g := g) (by omega) c
        rw [if_pos c]
        exact if_neg (by omega)
      · exact if_neg c
theorem fK_one {m : Nat} : CC m (fK 0) (putK [] (rk (row0 m)) (.int 1)) := by
  intro x hr hx
  have := CC.one (m := m) x hr hx
  rw [this]
  congr 2
  unfold one0 fK
  by_cases e : x = row0 m
  · rw [if_pos e, e, if_pos (pairs_row00 m)]; rfl
  · rw [if_neg e, if_neg fun z => e (by rw [no_pairs hr z, hx])]
/-- one pair put in: the row one step up gets as many more -/
theorem CC.up {m j i : Nat} {kvs kv2 : List (List Key × V)} {f : List Int → Nat} {row : List Int} (hn : (kvs.map (·.1)).Nodup) (hk : (kvs[j]?).map (·.1) = some (rk row)) (hl : row.length = m) (hi : i + 1 < m) (ha : row.getD i 0 < row.getD (i + 1) 0) (hJ : CC m (fW (kvs.map (·.1)) f j row i) kv2) :
    CC m (fW (kvs.map (·.1)) f j row (i + 1)) (putK kv2 (rk (swL row i)) (.int (((fW (kvs.map (·.1)) f j row i (swL row i) : Nat) : Int) + ((f row : Nat) : Int)))) := by
  have hk' : (kvs.map (·.1))[j]? = some (rk row) := by rw [List.getElem?_map]; exact hk
  intro x hr hx
  rw [valV_put]
  by_cases e : rk x = rk (swL row i)
  · rw [if_pos e, rk_inj e, fW_up hn hk' (by omega) ha]
    show V.int _ = V.int _
    rw [Int.natCast_add]
  · rw [if_neg e, fW_other (by omega) (by omega) (.inl fun z => e (by rw [z]))]
    exact hJ x hr hx
theorem CC.congr {m : Nat} {f f' : List Int → Nat} {kvs : List (List Key × V)} (h : CC m f kvs) (e : ∀ x, IsRow x → x.length = m → f x = f' x) : CC m f' kvs := fun x hr hx => by rw [← e x hr hx]; exact h x hr hx
/-- the keys are rows -/
def RowsE (m : Nat) (kvs : List (List Key × V)) : Prop := ∃ S, RowsK m S kvs
theorem RowsE.put {m : Nat} {kvs : List (List Key × V)} (h : RowsE m kvs) {ns : List Int} (hR : IsRow ns) (hl : ns.length = m) (v : V) : RowsE m (putK kvs (rk ns) v) := let ⟨_, r⟩ := h; ⟨_, r.put hR hl v⟩
theorem RowsE.nil {m : Nat} : RowsE m [] := ⟨fun _ => False, List.nodup_nil, (fun _ h => nomatch h), fun _ => ⟨(fun h => nomatch h), (fun h => h.elim)⟩⟩
theorem CC.nil {m : Nat} {f : List Int → Nat} (h : ∀ x, f x = 0) : CC m f [] := fun x _ _ => by rw [h x]; rfl
/-- so many dicts, one for each number of turned pairs -/
theorem fK_is {k : Nat} {x : List Int} (h : pairsN x = k) : fK k x = nrw k x := if_pos h
end MM
namespace MM
open PySem PySem.Spec PyProof.Rows L2 GxR
theorem fW_row (keys : List (List Key)) (f : List Int → Nat) (j : Nat) (row row' y : List Int) : fW keys f j row 0 y = fW keys f j row' 0 y :=
  fW_congr fun g _ _ => ⟨fun z => z.imp_right fun w => absurd w.2 (Nat.not_lt_zero _), fun z => z.imp_right fun w => absurd w.2 (Nat.not_lt_zero _)⟩
/-- a dict of rows of m people, that tells f -/
structure DF (m : Nat) (f : List Int → Nat) (kvs : List (List Key × V)) : Prop where
  rows : RowsE m kvs
  cc : CC m f kvs
theorem DF.nd {m : Nat} {f : List Int → Nat} {kvs : List (List Key × V)} (h : DF m f kvs) : (kvs.map (·.1)).Nodup := let ⟨_, r⟩ := h.rows; r.nd
theorem DF.le {m : Nat} {f : List Int → Nat} {kvs : List (List Key × V)} (h : DF m f kvs) (h6 : m ≤ 6) : kvs.length ≤ 531441 := let ⟨_, r⟩ := h.rows; r.le h6
theorem DF.congr {m : Nat} {f f' : List Int → Nat} {kvs : List (List Key × V)} (h : DF m f kvs) (e : ∀ x, IsRow x → x.length = m → f x = f' x) : DF m f' kvs := ⟨h.rows, h.cc.congr e⟩
theorem DF.nil {m : Nat} {f : List Int → Nat} (h : ∀ x, f x = 0) : DF m f [] := ⟨RowsE.nil, CC.nil h⟩
theorem DF.one {m : Nat} (h1 : 1 ≤ m) (h9 : m ≤ 9) : DF m (fK 0) (putK [] (rk (row0 m)) (.int 1)) := ⟨RowsE.nil.put (row0_row h1 h9) (row0_len m) _, fK_one⟩
theorem DF.at {m : Nat} {f : List Int → Nat} {kvs : List (List Key × V)} (h : DF m f kvs) {j : Nat} {k : List Key} {v : V} (ek : kvs[j]? = some (k, v)) : ∃ ns, k = rk ns ∧ IsRow ns ∧ ns.length = m ∧ v = .int ((f ns : Nat) : Int) ∧ valV kvs (rk ns) = some v := by
  obtain ⟨_, r⟩ := h.rows
  obtain ⟨ns, e, hR, hl⟩ := r.all (k, v) (List.mem_of_getElem? ek)
  have hv := val_of_nodup r.nd ek
  have e' : k = rk ns := e
  subst e'
  have hc := h.cc ns hR hl
  rw [hv] at hc
  exact ⟨ns, rfl, hR, hl, hc, hv⟩
theorem DF.get {m : Nat} {f : List Int → Nat} {kvs : List (List Key × V)} (h : DF m f kvs) {x : List Int} (hR : IsRow x) (hl : x.length = m) : (valV kvs (rk x)).getD (.int 0) = .int ((f x : Nat) : Int) := h.cc x hR hl
theorem DF.there {m : Nat} {f : List Int → Nat} {kvs : List (List Key × V)} (h : DF m f kvs) {x : List Int} (hR : IsRow x) (hl : x.length = m) (hp : 0 < f x) : valV kvs (rk x) = some (.int ((f x : Nat) : Int)) := by
  have hc := h.cc x hR hl
  cases e : valV kvs (rk x) with
  | none =>
    rw [e] at hc
    have : (0 : Int) = ((f x : Nat) : Int) := by injection hc
    omega
  | some v => rw [e] at hc; exact congrArg some hc
theorem DF.up {m j i : Nat} {kvs kv2 : List (List Key × V)} {f : List Int → Nat} {row : List Int} (hn : (kvs.map (·.1)).Nodup) (hk : (kvs[j]?).map (·.1) = some (rk row)) (hR : IsRow row) (hl : row.length = m) (hi : i + 1 < m) (ha : row.getD i 0 < row.getD (i + 1) 0) (hJ : DF m (fW (kvs.map (·.1)) f j row i) kv2) :
    DF m (fW (kvs.map (·.1)) f j row (i + 1)) (putK kv2 (rk (swL row i)) (.int (((fW (kvs.map (·.1)) f j row i (swL row i) : Nat) : Int) + ((f row : Nat) : Int)))) :=
  ⟨hJ.rows.put (sw_row (by omega) hR) (by rw [sw_len (by omega)]; exact hl) _, CC.up hn hk hl hi ha hJ.cc⟩
theorem DF.stay {m j i : Nat} {kvs kv2 : List (List Key × V)} {f : List Int → Nat} {row : List Int} (hl : row.length = m) (hi : i + 1 < m) (ha : ¬ row.getD i 0 < row.getD (i + 1) 0) (hJ : DF m (fW (kvs.map (·.1)) f j row i) kv2) : DF m (fW (kvs.map (·.1)) f j row (i + 1)) kv2 :=
  hJ.congr fun x _ hx => (fW_other (by omega) (by omega) (.inr ha)).symm
theorem DF.next {m j : Nat} {kvs kv2 : List (List Key × V)} {f : List Int → Nat} {row row' : List Int} (hk : (kvs[j]?).map (·.1) = some (rk row)) (hl : row.length = m) (hJ : DF m (fW (kvs.map (·.1)) f j row (row.length - 1)) kv2) : DF m (fW (kvs.map (·.1)) f (j + 1) row' 0) kv2 :=
  hJ.congr fun x _ hx => fW_next (by rw [List.getElem?_map]; exact hk) (by omega)
theorem DF.fin {m k : Nat} {kvs kv2 : List (List Key × V)} {row : List Int} (h : DF m (fK k) kvs) (hJ : DF m (fW (kvs.map (·.1)) (fK k) kvs.length row 0) kv2) : DF m (fK (k + 1)) kv2 := hJ.congr fun x hr hl => fW_all h.cc hr hl
end MM
namespace MM
open PySem PySem.Spec PyProof.Rows L2 GxR
/-! ### counts by changes, row by row -/
/-- counts by changes, the second moved on by one change, added up -/
def oneMore (st ch : List Int) : List Int := (List.range (max st.length (ch.length + 1))).map fun i => st.getD i 0 + ((0 : Int) :: ch).getD i 0
theorem oneMore_len (st ch : List Int) : (oneMore st ch).length = max st.length (ch.length + 1) := by unfold oneMore; rw [List.length_map, List.length_range]
theorem oneMore_get {st ch : List Int} {i : Nat} (h : i < max st.length (ch.length + 1)) : (oneMore st ch)[i]? = some (st.getD i 0 + ((0 : Int) :: ch).getD i 0) := by
  unfold oneMore; rw [List.getElem?_map, List.getElem?_range h]; rfl
theorem oneMore_at (st ch : List Int) (i : Nat) : (oneMore st ch).getD i 0 = st.getD i 0 + ((0 : Int) :: ch).getD i 0 := by
  by_cases h : i < max st.length (ch.length + 1)
  · rw [List.getD_eq_getElem?_getD, oneMore_get h]; rfl
  · rw [List.getD_eq_getElem?_getD, List.getD_eq_getElem?_getD, List.getD_eq_getElem?_getD, List.getElem?_eq_none (by rw [oneMore_len]; omega), List.getElem?_eq_none (by omega), List.getElem?_eq_none (by rw [List.length_cons]; omega)]; rfl
theorem oneMore_ne (st ch : List Int) : oneMore st ch ≠ [] := fun z => by
  have := oneMore_len st ch
  rw [z] at this
  simp only [List.length_nil] at this
  omega
def spN (g : Nat) (ff : List Int → List Int) (x : List Int) : List Int := if ff x = [] ∧ ff (swL x g) = [] then [] else oneMore (ff x) (ff (swL x g))
structure DL (H : Hp) (m : Nat) (ff : List Int → List Int) (kvs : List (List Key × V)) : Prop where
  rows : RowsE m kvs
  out : ∀ x, IsRow x → x.length = m → valV kvs (rk x) = none → ff x = []
  val : ∀ x v, IsRow x → x.length = m → valV kvs (rk x) = some v → ff x ≠ [] ∧ ∃ p, v = .ref p ∧ H p = some (.lst ((ff x).map V.int))
theorem DL.nd {H : Hp} {m : Nat} {ff : List Int → List Int} {kvs : List (List Key × V)} (h : DL H m ff kvs) : (kvs.map (·.1)).Nodup := let ⟨_, r⟩ := h.rows; r.nd
theorem DL.le {H : Hp} {m : Nat} {ff : List Int → List Int} {kvs : List (List Key × V)} (h : DL H m ff kvs) (h6 : m ≤ 6) : kvs.length ≤ 531441 := let ⟨_, r⟩ := h.rows; r.le h6
theorem DL.ex {H H' : Hp} {m : Nat} {ff : List Int → List Int} {kvs : List (List Key × V)} (h : DL H m ff kvs) (e : Ex H H') : DL H' m ff kvs := ⟨h.rows, h.out, fun x v hr hl hv => let ⟨a, p, b, c⟩ := h.val x v hr hl hv; ⟨a, p, b, Ex.lst e c⟩⟩
theorem DL.exD {H H' : Hp} {m : Nat} {D : Addr} {kv0 : List (List Key × V)} {ff : List Int → List Int} {kvs : List (List Key × V)} (h : DL H m ff kvs) (e : ExB (At1 D) H H') (hD : H D = some (.dT kv0)) : DL H' m ff kvs :=
  ⟨h.rows, h.out, fun x v hr hl hv => let ⟨a, p, b, c⟩ := h.val x v hr hl hv; ⟨a, p, b, e.lst c (fun z => by rw [show p = D from z, hD] at c; cases c)⟩⟩
theorem DL.congr {H : Hp} {m : Nat} {ff f2 : List Int → List Int} {kvs : List (List Key × V)} (h : DL H m ff kvs) (e : ∀ x, IsRow x → x.length = m → ff x = f2 x) : DL H m f2 kvs :=
  ⟨h.rows, fun x hr hl hv => by rw [← e x hr hl]; exact h.out x hr hl hv, fun x v hr hl hv => by rw [← e x hr hl]; exact h.val x v hr hl hv⟩
theorem DL.nil {H : Hp} {m : Nat} : DL H m (fun _ => []) [] := ⟨RowsE.nil, fun _ _ _ _ => rfl, fun _ _ _ _ h => nomatch h⟩
theorem DL.at {H : Hp} {m : Nat} {ff : List Int → List Int} {kvs : List (List Key × V)} (h : DL H m ff kvs) {j : Nat} {k : List Key} {v : V} (ek : kvs[j]? = some (k, v)) : ∃ ns p, k = rk ns ∧ IsRow ns ∧ ns.length = m ∧ v = .ref p ∧ H p = some (.lst ((ff ns).map V.int)) ∧ ff ns ≠ [] ∧ valV kvs (rk ns) = some v := by
  obtain ⟨_, r⟩ := h.rows
  obtain ⟨ns, e, hR, hl⟩ := r.all (k, v) (List.mem_of_getElem? ek)
  have hv := val_of_nodup r.nd ek
  have e' : k = rk ns := e
  subst e'
  obtain ⟨a, p, b, c⟩ := h.val ns v hR hl hv
  exact ⟨ns, p, rfl, hR, hl, b, c, a, hv⟩
/-- one row's counts put in -/
theorem DL.put {H : Hp} {m : Nat} {ff : List Int → List Int} {kvs : List (List Key × V)} (h : DL H m ff kvs) {ns : List Int} {p : Addr} {l : List Int} (hR : IsRow ns) (hl : ns.length = m) (hp : H p = some (.lst (l.map V.int))) (hn : l ≠ []) : DL H m (fun x => if x = ns then l else ff x) (putK kvs (rk ns) (.ref p)) := by
  refine ⟨h.rows.put hR hl _, fun x hr hx hv => ?_, fun x v hr hx hv => ?_⟩
  · rw [valV_put] at hv
    by_cases e : rk x = rk ns
    · rw [if_pos e] at hv; exact nomatch hv
    · rw [if_neg e] at hv
      show (if x = ns then l else ff x) = []
      rw [if_neg (fun z => e (by rw [z]))]
      exact h.out x hr hx hv
  · rw [valV_put] at hv
    by_cases e : rk x = rk ns
    · rw [if_pos e] at hv
      have ex := rk_inj e
      cases hv
      show (if x = ns then l else ff x) ≠ [] ∧ ∃ q, V.ref p = .ref q ∧ H q = some (.lst ((if x = ns then l else ff x).map V.int))
      rw [if_pos ex]
      exact ⟨hn, p, rfl, hp⟩
    · rw [if_neg e] at hv
      have := h.val x v hr hx hv
      show (if x = ns then l else ff x) ≠ [] ∧ ∃ q, v = .ref q ∧ H q = some (.lst ((if x = ns then l else ff x).map V.int))
      rw [if_neg (fun z => e (by rw [z]))]
      exact this
open Classical in
/-- what the first j rows have put in -/
noncomputable def gJ (keys : List (List Key)) (ff : List Int → List Int) (g j : Nat) (x : List Int) : List Int := if rk x ∈ keys.take j ∨ rk (swL x g) ∈ keys.take j then spN g ff x else []
theorem gJ_zero (keys : List (List Key)) (ff : List Int → List Int) (g : Nat) (x : List Int) : gJ keys ff g 0 x = [] := by
  unfold gJ
  rw [List.take_zero, if_neg (fun z => z.elim (fun h => nomatch h) (fun h => nomatch h))]
theorem gJ_there {keys : List (List Key)} {ff : List Int → List Int} {g j : Nat} {row : List Int} (hk : keys[j]? = some (rk row)) (hg : g + 1 < row.length) (h : rk (swL row g) ∈ keys.take j) {x : List Int} (hx : x.length = row.length) : gJ keys ff g (j + 1) x = gJ keys ff g j x := by
  unfold gJ
  rw [List.take_add_one, hk]
  by_cases c : rk x ∈ keys.take j ∨ rk (swL x g) ∈ keys.take j
  · rw [if_pos c, if_pos (c.imp (List.mem_append_left _) (List.mem_append_left _))]
  · rw [if_neg c, if_neg fun z => c ?_]
    rcases z with z | z
    · rcases List.mem_append.mp z with w | w
      · exact .inl w
      · have e : x = row := rk_inj (List.mem_singleton.mp w)
        rw [e]; exact .inr h
    · rcases List.mem_append.mp z with w | w
      · exact .inr w
      · have e : swL x g = row := rk_inj (List.mem_singleton.mp w)
        refine .inl ?_
        rw [← e, sw_sw (by omega)] at h
        exact h
theorem gJ_step {keys : List (List Key)} {ff : List Int → List Int} {g j : Nat} {row : List Int} (hk : keys[j]? = some (rk row)) (hg : g + 1 < row.length) {x : List Int} (hx : x.length = row.length) : gJ keys ff g (j + 1) x = if x = swL row g then spN g ff (swL row g) else if x = row then spN g ff row else gJ keys ff g j x := by
  unfold gJ
  rw [List.take_add_one, hk]
  by_cases e1 : x = swL row g
  · rw [if_pos e1, e1, sw_sw hg, if_pos (.inr (List.mem_append_right _ List.mem_cons_self))]
  · rw [if_neg e1]
    by_cases e2 : x = row
    · rw [if_pos e2, e2, if_pos (.inl (List.mem_append_right _ List.mem_cons_self))]
    · rw [if_neg e2]
      by_cases c : rk x ∈ keys.take j ∨ rk (swL x g) ∈ keys.take j
      · rw [if_pos c, if_pos (c.imp (List.mem_append_left _) (List.mem_append_left _))]
      · rw [if_neg c, if_neg fun z => c ?_]
        rcases z with z | z
        · rcases List.mem_append.mp z with w | w
          · exact .inl w
          · exact absurd (rk_inj (List.mem_singleton.mp w)) e2
        · rcases List.mem_append.mp z with w | w
          · exact .inr w
          · exact absurd (by rw [← rk_inj (List.mem_singleton.mp w), sw_sw (by omega)]) e1
theorem gJ_has {keys : List (List Key)} {ff : List Int → List Int} {g j : Nat} {row : List Int} (hn : keys.Nodup) (hk : keys[j]? = some (rk row)) (hg : g + 1 < row.length) : (rk (swL row g) ∈ keys.take j → gJ keys ff g j (swL row g) = spN g ff (swL row g)) ∧ (rk (swL row g) ∉ keys.take j → gJ keys ff g j (swL row g) = []) := by
  have notin : rk row ∉ keys.take j := by
    have h1 := hn.sublist (List.take_sublist (j + 1) _)
    rw [List.take_add_one, hk] at h1
    have h2 := (List.nodup_append.mp h1).2.2
    exact fun z => h2 _ z _ List.mem_cons_self rfl
  unfold gJ
  rw [sw_sw hg]
  exact ⟨fun h => if_pos (.inl h), fun h => if_neg fun z => z.elim h notin⟩
theorem gJ_all {H : Hp} {m g : Nat} {ff : List Int → List Int} {kvs : List (List Key × V)} (h : DL H m ff kvs) (hg : g + 1 < m) {x : List Int} (hr : IsRow x) (hl : x.length = m) : gJ (kvs.map (·.1)) ff g kvs.length x = spN g ff x := by
  unfold gJ
  rw [List.take_of_length_le (by rw [List.length_map]; exact Nat.le_refl _)]
  by_cases c : rk x ∈ kvs.map (·.1) ∨ rk (swL x g) ∈ kvs.map (·.1)
  · rw [if_pos c]
  · rw [if_neg c]
    have no : ∀ y, IsRow y → y.length = m → rk y ∉ kvs.map (·.1) → ff y = [] := fun y hy hyl hn => h.out y hy hyl (by
      cases e : valV kvs (rk y) with
      | none => rfl
      | some v => exact absurd (valV_mem.mp (by rw [e]; rfl)) hn)
    unfold spN
    rw [if_pos ⟨no x hr hl fun z => c (.inl z), no _ (sw_row (by omega) hr) (by rw [sw_len (by omega)]; exact hl) fun z => c (.inr z)⟩]
end MM
namespace MM
open PySem PySem.Spec PyProof.Rows L2 GxR
/-- counts by changes behind the first i meetings -/
def spS (m : Nat) (gs : List Int) : Nat → List Int → List Int
  | 0 => fun x => if x = row0 m then [1] else []
  | i + 1 => spN (gapN gs i) (spS m gs i)
theorem spN_len {g k : Nat} {ff : List Int → List Int} (h : ∀ x, (ff x).length ≤ k) (x : List Int) : (spN g ff x).length ≤ k + 1 := by
  unfold spN
  split
  · exact Nat.zero_le _
  · rw [oneMore_len]
    have := h x; have := h (swL x g); omega
theorem spS_len (m : Nat) (gs : List Int) : ∀ i x, (spS m gs i x).length ≤ i + 1
  | 0, x => by
    show (if x = row0 m then [1] else [] : List Int).length ≤ 1
    split <;> simp
  | i + 1, x => spN_len (spS_len m gs i) x
theorem DL.one {H : Hp} {m : Nat} {gs : List Int} (h1 : 1 ≤ m) (h9 : m ≤ 9) {p : Addr} (hp : H p = some (.lst (([1] : List Int).map V.int))) : DL H m (spS m gs 0) (putK [] (rk (row0 m)) (.ref p)) :=
  (DL.nil.put (row0_row h1 h9) (row0_len m) hp (by simp)).congr fun x _ _ => rfl
/-- those more than none, with their places -/
def chg (l : List Int) (n : Nat) : List (Nat × Int) := ((List.range n).filter fun c => decide (0 < l.getD c 0)).map fun c => (c, l.getD c 0)
theorem chg_succ (l : List Int) (n : Nat) : chg l (n + 1) = chg l n ++ if 0 < l.getD n 0 then [(n, l.getD n 0)] else [] := by
  unfold chg
  rw [List.range_succ, List.filter_append, List.map_append]
  by_cases h : 0 < l.getD n 0
  · rw [if_pos h, List.filter_cons_of_pos (by exact decide_eq_true h)]; rfl
  · rw [if_neg h, List.filter_cons_of_neg (by rw [decide_eq_true_iff]; exact h)]; rfl
theorem chg_len (l : List Int) (n : Nat) : (chg l n).length ≤ n := by
  unfold chg; rw [List.length_map]; exact Nat.le_trans (List.length_filter_le _ _) (by rw [List.length_range]; exact Nat.le_refl _)
end MM
namespace MM
open PySem PySem.Spec PyProof.Rows L2 GxR
/-! ### the goings to a row, in order -/
def goL (rr : List Int) : List Int → List Int → List (List Bool)
  | [], x => if x = rr then [[]] else []
  | g :: gs, x => (goL rr gs x).map (false :: ·) ++ (goL rr gs (swL x g.toNat)).map (true :: ·)
theorem goL_len (rr : List Int) : ∀ (gs x : List Int), (goL rr gs x).length = wN rr gs.reverse x
  | [], x => by
    show (if x = rr then [[]] else [] : List (List Bool)).length = oneR rr x
    unfold oneR
    split <;> rfl
  | g :: gs, x => by
    rw [List.reverse_cons, wN_snoc, ← goL_len rr gs x, ← goL_len rr gs (swL x g.toNat)]
    show (List.map _ _ ++ List.map _ _).length = _
    rw [List.length_append, List.length_map, List.length_map]
theorem goL_stay {rr gs x : List Int} {g : Int} {i : Nat} (h : i < (goL rr gs x).length) : (goL rr (g :: gs) x)[i]? = ((goL rr gs x)[i]?).map (false :: ·) := by
  show (List.map _ _ ++ List.map _ _)[i]? = _
  rw [List.getElem?_append_left (by rw [List.length_map]; exact h), List.getElem?_map]
theorem goL_change {rr gs x : List Int} {g : Int} {i : Nat} (h : (goL rr gs x).length ≤ i) : (goL rr (g :: gs) x)[i]? = ((goL rr gs (swL x g.toNat))[i - (goL rr gs x).length]?).map (true :: ·) := by
  show (List.map _ _ ++ List.map _ _)[i]? = _
  rw [List.getElem?_append_right (by rw [List.length_map]; exact h), List.getElem?_map, List.length_map]
theorem goL_one {rr x : List Int} {i : Nat} (h : i < (goL rr [] x).length) : (goL rr [] x)[i]? = some [] := by
  show (if x = rr then [[]] else [] : List (List Bool))[i]? = _
  have h' : i < (if x = rr then [[]] else [] : List (List Bool)).length := h
  split at h'
  · rename_i e
    rw [if_pos e]
    have : i = 0 := by simpa using h'
    rw [this]; rfl
  · exact absurd h' (by simp)
end MM
namespace MM
open PySem PySem.Spec PyProof.Rows L2 GxR
/-! ### polynomials as lists without noughts at their end -/
def trimTo (l : List Int) : Nat → Nat
  | 0 => 0
  | n + 1 => if l.getD n 0 = 0 then trimTo l n else n + 1
def trim (l : List Int) : List Int := l.take (trimTo l l.length)
theorem trimTo_le (l : List Int) : ∀ n, trimTo l n ≤ n
  | 0 => Nat.le_refl _
  | n + 1 => by
    unfold trimTo
    split
    · exact Nat.le_succ_of_le (trimTo_le l n)
    · exact Nat.le_refl _
theorem trimTo_zero (l : List Int) : ∀ n i, trimTo l n ≤ i → i < n → l.getD i 0 = 0
  | 0, i, _, h => absurd h (Nat.not_lt_zero _)
  | n + 1, i, h1, h2 => by
    unfold trimTo at h1
    split at h1
    · rename_i h0
      by_cases e : i = n
      · rw [e]; exact h0
      · exact trimTo_zero l n i h1 (by omega)
    · omega
theorem trimTo_last (l : List Int) : ∀ n, 0 < trimTo l n → l.getD (trimTo l n - 1) 0 ≠ 0
  | 0, h => absurd h (Nat.lt_irrefl 0)
  | n + 1, h => by
    unfold trimTo at h ⊢
    split
    · rename_i h0
      rw [if_pos h0] at h
      exact trimTo_last l n h
    · rename_i h0
      exact h0
theorem trim_len (l : List Int) : (trim l).length = trimTo l l.length := by
  unfold trim
  rw [List.length_take, Nat.min_eq_left (trimTo_le _ _)]
theorem takeD_at {l : List Int} {n i : Nat} : (l.take n).getD i 0 = if i < n then l.getD i 0 else 0 := by
  rw [List.getD_eq_getElem?_getD, List.getD_eq_getElem?_getD, List.getElem?_take]
  by_cases h : i < n
  · rw [if_pos h, if_pos h]
  · rw [if_neg h, if_neg h]; rfl
theorem getD_over {l : List Int} {i : Nat} (h : l.length ≤ i) : l.getD i 0 = 0 := by
  rw [List.getD_eq_getElem?_getD, List.getElem?_eq_none h]; rfl
theorem trim_getD (l : List Int) (i : Nat) : (trim l).getD i 0 = l.getD i 0 := by
  unfold trim
  rw [takeD_at]
  by_cases h : i < trimTo l l.length
  · rw [if_pos h]
  · rw [if_neg h]
    by_cases h2 : i < l.length
    · exact (trimTo_zero l _ i (by omega) h2).symm
    · exact (getD_over (by omega)).symm
/-- no nought at the end -/
def Tr (l : List Int) : Prop := 0 < l.length → l.getD (l.length - 1) 0 ≠ 0
theorem trim_tr (l : List Int) : Tr (trim l) := fun h => by
  rw [trim_len] at h ⊢
  have h2 := trimTo_last l _ h
  rw [trim_getD]; exact h2
theorem tr_eq {a b : List Int} (ha : Tr a) (hb : Tr b) (h : ∀ i, a.getD i 0 = b.getD i 0) : a = b := by
  have hl : a.length = b.length := by
    rcases Nat.lt_trichotomy a.length b.length with c | c | c
    · have := hb (by omega)
      rw [← h, getD_over (by omega)] at this
      exact absurd rfl this
    · exact c
    · have := ha (by omega)
      rw [h, getD_over (by omega)] at this
      exact absurd rfl this
  refine List.ext_getElem hl fun i h1 h2 => ?_
  have := h i
  rw [List.getD_eq_getElem?_getD, List.getD_eq_getElem?_getD, List.getElem?_eq_getElem h1, List.getElem?_eq_getElem h2] at this
  exact this
theorem tr_nil : Tr [] := fun h => absurd h (Nat.lt_irrefl 0)
theorem tr_one : Tr [1] := fun _ => by decide
theorem trim_eq {l a : List Int} (ha : Tr a) (h : ∀ i, l.getD i 0 = a.getD i 0) : trim l = a := tr_eq (trim_tr l) ha fun i => (trim_getD l i).trans (h i)
theorem tr_empty {a : List Int} (ha : Tr a) (h : ∀ i, a.getD i 0 = 0) : a = [] := tr_eq ha tr_nil fun i => by rw [h]; rfl
/-! ### one meeting more -/
/-- two lists, item by item, nought where one has none -/
def zipL (f : Int → Int → Int) (a b : List Int) : List Int := (List.range (max a.length b.length)).map fun i => f (a.getD i 0) (b.getD i 0)
theorem zipL_len (f : Int → Int → Int) (a b : List Int) : (zipL f a b).length = max a.length b.length := by unfold zipL; rw [List.length_map, List.length_range]
theorem zipL_get {f : Int → Int → Int} {a b : List Int} {i : Nat} (h : i < max a.length b.length) : (zipL f a b)[i]? = some (f (a.getD i 0) (b.getD i 0)) := by
  unfold zipL; rw [List.getElem?_map, List.getElem?_range h]; rfl
theorem zipL_getD {f : Int → Int → Int} (h0 : f 0 0 = 0) (a b : List Int) (i : Nat) : (zipL f a b).getD i 0 = f (a.getD i 0) (b.getD i 0) := by
  by_cases h : i < max a.length b.length
  · rw [List.getD_eq_getElem?_getD, zipL_get h]; rfl
  · rw [getD_over (by rw [zipL_len]; omega), getD_over (l := a) (by omega), getD_over (l := b) (by omega), h0]
def comeD (lo gr : List Int) : List Int := trim (zipL (fun x y => x - y) (0 :: zipL (fun x y => x + y) lo gr) lo)
/-- the coefficient ahead -/
def ahd (l : List Int) (i : Nat) : Int := if i = 0 then 0 else l.getD (i - 1) 0
theorem cons0_getD (l : List Int) (i : Nat) : ((0 : Int) :: l).getD i 0 = ahd l i := by
  unfold ahd
  cases i with
  | zero => rfl
  | succ i => rw [if_neg (Nat.succ_ne_zero i)]; rfl
theorem comeD_getD (lo gr : List Int) (i : Nat) : (comeD lo gr).getD i 0 = ahd lo i + ahd gr i - lo.getD i 0 := by
  unfold comeD
  rw [trim_getD, zipL_getD (by decide), cons0_getD]
  congr 1
  unfold ahd
  split
  · rfl
  · rw [zipL_getD (by decide)]
theorem comeD_tr (lo gr : List Int) : Tr (comeD lo gr) := trim_tr _
theorem comeD_len (lo gr : List Int) : (comeD lo gr).length ≤ max lo.length gr.length + 1 := by
  unfold comeD
  rw [trim_len]
  refine Nat.le_trans (trimTo_le _ _) ?_
  rw [zipL_len, List.length_cons, zipL_len]
  omega
theorem comeD_nil : comeD [] [] = [] := by
  refine tr_empty (comeD_tr _ _) fun i => ?_
  rw [comeD_getD]
  unfold ahd
  split <;> rfl
/-- the weights behind one meeting more -/
def metF (g : Nat) (W : List Int → List Int) (x : List Int) : List Int := if x.getD g 0 < x.getD (g + 1) 0 then comeD (W x) (W (swL x g)) else W (swL x g)
def wgS (m : Nat) (gs : List Int) : Nat → List Int → List Int
  | 0 => fun x => if x = row0 m then [1] else []
  | i + 1 => metF (gapN gs i) (wgS m gs i)
theorem wgS_len (m : Nat) (gs : List Int) : ∀ i x, (wgS m gs i x).length ≤ i + 1
  | 0, x => by
    show (if x = row0 m then [1] else [] : List Int).length ≤ 1
    split <;> simp
  | i + 1, x => by
    show (metF (gapN gs i) (wgS m gs i) x).length ≤ _
    unfold metF
    split
    · have := comeD_len (wgS m gs i x) (wgS m gs i (swL x (gapN gs i)))
      have := wgS_len m gs i x
      have := wgS_len m gs i (swL x (gapN gs i))
      omega
    · have := wgS_len m gs i (swL x (gapN gs i)); omega
theorem wgS_tr (m : Nat) (gs : List Int) : ∀ i x, Tr (wgS m gs i x)
  | 0, x => by
    show Tr (if x = row0 m then [1] else [] : List Int)
    split
    · exact tr_one
    · exact tr_nil
  | i + 1, x => by
    show Tr (metF (gapN gs i) (wgS m gs i) x)
    unfold metF
    split
    · exact comeD_tr _ _
    · exact wgS_tr m gs i _
end MM
namespace MM
open PySem PySem.Spec PyProof.Rows L2 GxR
/-! ### a dict of rows that tells weights, each a list of its own, new since H0 -/
structure DWp (H0 H : Hp) (m : Nat) (S : List Int → Prop) (W : List Int → List Int) (kvs : List (List Key × V)) : Prop where
  rows : RowsE m kvs
  mem : ∀ x, IsRow x → x.length = m → ((valV kvs (rk x)).isSome = true ↔ S x)
  val : ∀ x v, IsRow x → x.length = m → valV kvs (rk x) = some v → ∃ p, v = .ref p ∧ H0 p = none ∧ H p = some (.lst ((W x).map V.int))
  inj : ∀ x y v, IsRow x → x.length = m → IsRow y → y.length = m → valV kvs (rk x) = some v → valV kvs (rk y) = some v → x = y
section
variable {H0 H H' : Hp} {m : Nat} {S S' : List Int → Prop} {W : List Int → List Int} {kvs kv0 : List (List Key × V)}
theorem DWp.nd (h : DWp H0 H m S W kvs) : (kvs.map (·.1)).Nodup := let ⟨_, r⟩ := h.rows; r.nd
theorem DWp.le (h : DWp H0 H m S W kvs) (h6 : m ≤ 6) : kvs.length ≤ 531441 := let ⟨_, r⟩ := h.rows; r.le h6
theorem DWp.ex (h : DWp H0 H m S W kvs) (e : Ex H H') : DWp H0 H' m S W kvs := ⟨h.rows, h.mem, fun x v hr hl hv => let ⟨p, a, b, c⟩ := h.val x v hr hl hv; ⟨p, a, b, Ex.lst e c⟩, h.inj⟩
theorem DWp.exD {D : Addr} (h : DWp H0 H m S W kvs) (e : ExB (At1 D) H H') (hD : H D = some (.dT kv0)) : DWp H0 H' m S W kvs :=
  ⟨h.rows, h.mem, fun x v hr hl hv => let ⟨p, a, b, c⟩ := h.val x v hr hl hv; ⟨p, a, b, e.lst c (fun z => by rw [show p = D from z, hD] at c; cases c)⟩, h.inj⟩
theorem DWp.congr (h : DWp H0 H m S W kvs) (e : ∀ x, IsRow x → x.length = m → (S x ↔ S' x)) : DWp H0 H m S' W kvs := ⟨h.rows, fun x hr hl => (h.mem x hr hl).trans (e x hr hl), h.val, h.inj⟩
theorem DWp.nil : DWp H0 H m (fun _ => False) W [] where
  rows := RowsE.nil
  mem := fun x _ _ => ⟨(fun z => nomatch z), (fun z => z.elim)⟩
  val := fun x v _ _ h => nomatch h
  inj := fun x y v _ _ _ _ h => nomatch h
theorem DWp.at (h : DWp H0 H m S W kvs) {j : Nat} {k : List Key} {v : V} (ek : kvs[j]? = some (k, v)) : ∃ ns p, k = rk ns ∧ IsRow ns ∧ ns.length = m ∧ v = .ref p ∧ H0 p = none ∧ H p = some (.lst ((W ns).map V.int)) ∧ valV kvs (rk ns) = some v := by
  obtain ⟨_, r⟩ := h.rows
  obtain ⟨ns, e, hR, hl⟩ := r.all (k, v) (List.mem_of_getElem? ek)
  have hv := val_of_nodup r.nd ek
  have e' : k = rk ns := e
  subst e'
  obtain ⟨p, a, b, c⟩ := h.val ns v hR hl hv
  exact ⟨ns, p, rfl, hR, hl, a, b, c, hv⟩
theorem DWp.put (h : DWp H0 H m S W kvs) {ns : List Int} {p : Addr} (hR : IsRow ns) (hl : ns.length = m) (hp : H p = some (.lst ((W ns).map V.int))) (h0 : H0 p = none) (hn : ∀ x v, IsRow x → x.length = m → valV kvs (rk x) = some v → v ≠ .ref p) : DWp H0 H m (fun x => x = ns ∨ S x) W (putK kvs (rk ns) (.ref p)) := by
  refine ⟨h.rows.put hR hl _, fun x hr hx => ?_, fun x v hr hx hv => ?_, fun x y v hr hx hr' hx' hv hv' => ?_⟩
  · rw [valV_put]
    by_cases e : rk x = rk ns
    · rw [if_pos e]
      exact ⟨fun _ => .inl (rk_inj e), fun _ => rfl⟩
    · rw [if_neg e, h.mem x hr hx]
      exact ⟨fun z => .inr z, fun z => z.elim (fun c => absurd (by rw [c]) e) id⟩
  · rw [valV_put] at hv
    by_cases e : rk x = rk ns
    · rw [if_pos e] at hv
      cases hv
      exact ⟨p, rfl, h0, by rw [rk_inj e]; exact hp⟩
    · rw [if_neg e] at hv
      exact h.val x v hr hx hv
  · rw [valV_put] at hv hv'
    by_cases e : rk x = rk ns
    · by_cases e' : rk y = rk ns
      · rw [rk_inj e, rk_inj e']
      · rw [if_pos e] at hv
        rw [if_neg e'] at hv'
        cases hv
        exact absurd rfl (hn y _ hr' hx' hv')
    · by_cases e' : rk y = rk ns
      · rw [if_neg e] at hv
        rw [if_pos e'] at hv'
        cases hv'
        exact absurd rfl (hn x _ hr hx hv)
      · rw [if_neg e] at hv
        rw [if_neg e'] at hv'
        exact h.inj x y v hr hx hr' hx' hv hv'
end
/-- .. nought where there is none -/
def DWt (H0 H : Hp) (m : Nat) (W : List Int → List Int) (kvs : List (List Key × V)) : Prop := ∃ S, DWp H0 H m S W kvs ∧ ∀ x, IsRow x → x.length = m → ¬ S x → W x = []
theorem DWt.ex {H0 H H' : Hp} {m : Nat} {W : List Int → List Int} {kvs : List (List Key × V)} (h : DWt H0 H m W kvs) (e : Ex H H') : DWt H0 H' m W kvs := let ⟨S, a, b⟩ := h; ⟨S, a.ex e, b⟩
theorem DWt.out {H0 H : Hp} {m : Nat} {W : List Int → List Int} {kvs : List (List Key × V)} (h : DWt H0 H m W kvs) {x : List Int} (hr : IsRow x) (hl : x.length = m) (hv : valV kvs (rk x) = none) : W x = [] := by
  obtain ⟨S, a, b⟩ := h
  refine b x hr hl fun z => ?_
  have := (a.mem x hr hl).mpr z
  rw [hv] at this
  exact nomatch this
/-- what has been told of the first j rows -/
def mS (keys : List (List Key)) (g j : Nat) (x : List Int) : Prop := rk x ∈ keys.take j ∨ rk (swL x g) ∈ keys.take j
theorem mS_zero (keys : List (List Key)) (g : Nat) (x : List Int) : mS keys g 0 x ↔ False := by
  unfold mS
  rw [List.take_zero]
  exact ⟨fun z => z.elim (fun h => nomatch h) (fun h => nomatch h), fun z => z.elim⟩
theorem mS_there {keys : List (List Key)} {g j : Nat} {row : List Int} (hk : keys[j]? = some (rk row)) (hg : g + 1 < row.length) (h : rk (swL row g) ∈ keys.take j) {x : List Int} (hx : x.length = row.length) : mS keys g (j + 1) x ↔ mS keys g j x := by
  unfold mS
  rw [List.take_add_one, hk]
  constructor
  · rintro (z | z)
    · rcases List.mem_append.mp z with w | w
      · exact .inl w
      · have e : x = row := rk_inj (List.mem_singleton.mp w)
        rw [e]; exact .inr h
    · rcases List.mem_append.mp z with w | w
      · exact .inr w
      · have e : swL x g = row := rk_inj (List.mem_singleton.mp w)
        refine .inl ?_
        rw [← e, sw_sw (by omega)] at h
        exact h
  · rintro (z | z)
    · exact .inl (List.mem_append_left _ z)
    · exact .inr (List.mem_append_left _ z)
theorem mS_step {keys : List (List Key)} {g j : Nat} {row : List Int} (hk : keys[j]? = some (rk row)) (hg : g + 1 < row.length) {x : List Int} (hx : x.length = row.length) : mS keys g (j + 1) x ↔ x = swL row g ∨ x = row ∨ mS keys g j x := by
  unfold mS
  rw [List.take_add_one, hk]
  constructor
  · rintro (z | z)
    · rcases List.mem_append.mp z with w | w
      · exact .inr (.inr (.inl w))
      · exact .inr (.inl (rk_inj (List.mem_singleton.mp w)))
    · rcases List.mem_append.mp z with w | w
      · exact .inr (.inr (.inr w))
      · refine .inl ?_
        rw [← rk_inj (List.mem_singleton.mp w), sw_sw (by omega)]
  · rintro (rfl | rfl | z | z)
    · refine .inr (List.mem_append_right _ ?_)
      rw [sw_sw hg]
      exact List.mem_cons_self
    · exact .inl (List.mem_append_right _ List.mem_cons_self)
    · exact .inl (List.mem_append_left _ z)
    · exact .inr (List.mem_append_left _ z)
theorem mS_new {keys : List (List Key)} {g j : Nat} {row : List Int} (hn : keys.Nodup) (hk : keys[j]? = some (rk row)) (hg : g + 1 < row.length) : (mS keys g j row ↔ rk (swL row g) ∈ keys.take j) ∧ (mS keys g j (swL row g) ↔ rk (swL row g) ∈ keys.take j) := by
  have notin : rk row ∉ keys.take j := by
    have h1 := hn.sublist (List.take_sublist (j + 1) _)
    rw [List.take_add_one, hk] at h1
    have h2 := (List.nodup_append.mp h1).2.2
    exact fun z => h2 _ z _ List.mem_cons_self rfl
  unfold mS
  rw [sw_sw hg]
  exact ⟨⟨fun z => z.elim (fun w => absurd w notin) id, .inr⟩, ⟨fun z => z.elim id (fun w => absurd w notin), .inl⟩⟩
/-- the rows' weights behind -/
theorem metF_out {H0 H : Hp} {m g : Nat} {S : List Int → Prop} {W : List Int → List Int} {kvs : List (List Key × V)} (h : DWp H0 H m S W kvs) (hS : ∀ x, IsRow x → x.length = m → ¬ S x → W x = []) (hg : g + 1 < m) {x : List Int} (hr : IsRow x) (hl : x.length = m) (hx : ¬ mS (kvs.map (·.1)) g kvs.length x) : metF g W x = [] := by
  have hx' : ¬ (rk x ∈ kvs.map (·.1) ∨ rk (swL x g) ∈ kvs.map (·.1)) := fun z => hx (by
    unfold mS
    rw [List.take_of_length_le (by rw [List.length_map]; exact Nat.le_refl _)]
    exact z)
  have no : ∀ y, IsRow y → y.length = m → rk y ∉ kvs.map (·.1) → W y = [] := fun y hy hyl hn => hS y hy hyl fun z => hn (valV_mem.mp ((h.mem y hy hyl).mpr z))
  have a := no x hr hl fun z => hx' (.inl z)
  have b := no (swL x g) (sw_row (by omega) hr) (by rw [sw_len (by omega)]; exact hl) fun z => hx' (.inr z)
  unfold metF
  rw [a, b]
  split
  · exact comeD_nil
  · rfl
end MM
namespace MM
open PySem PySem.Spec PyProof.Rows L2 GxR
/-! ### dicts with rows of no dict as keys: locked, told again, in order -/
theorem ex_lockX {B : Addr → Prop} {H H' : Hp} {d : Addr} {od : Obj} {φ : Heap → Prop} (hd : H d = some (.ext φ)) (e : ExB B (upd H d (.frz od (.ext φ))) H') : ExB B H (upd H' d (.ext φ)) := by
  refine ⟨fun a o q f => ?_, fun a o q n b => ?_, fun P ps q => ?_, fun a q => ?_⟩
  · have ne : a ≠ d := fun z => by rw [z, hd] at q; cases q; exact f
    rw [upd_ne ne]; exact e.fix a o (by rw [upd_ne ne]; exact q) f
  · by_cases z : a = d
    · rw [z, upd_same]; rw [z, hd] at q; exact q
    · rw [upd_ne z]; exact e.keep a o (by rw [upd_ne z]; exact q) n b
  · have ne : P ≠ d := fun z => by rw [z, hd] at q; cases q
    rw [upd_ne ne]; exact e.tbl P ps (by rw [upd_ne ne]; exact q)
  · by_cases z : a = d
    · rw [z, upd_same]; exact fun h => nomatch h
    · rw [upd_ne z]; exact e.still a (by rw [upd_ne z]; exact q)
theorem DWp.exX {H0 H H' : Hp} {m : Nat} {S : List Int → Prop} {W : List Int → List Int} {kvs : List (List Key × V)} {D : Addr} {φ : Heap → Prop} (h : DWp H0 H m S W kvs) (e : ExB (At1 D) H H') (hD : H D = some (.ext φ)) : DWp H0 H' m S W kvs :=
  ⟨h.rows, h.mem, fun x v hr hl hv => let ⟨p, a, b, c⟩ := h.val x v hr hl hv; ⟨p, a, b, e.lst c (fun z => by rw [show p = D from z, hD] at c; cases c)⟩, h.inj⟩
theorem kvX_get {xs : KXs} {j : Nat} {k : List Key} {b : Addr} {v : V} (h : xs[j]? = some (k, b, v)) : (kvX xs)[j]? = some (k, v) := by unfold kvX; rw [List.getElem?_map, h]; rfl
/-- Es: each row's own tuple and the row -/
theorem rows_ofX {m : Nat} : ∀ {xs : KXs}, (∀ p ∈ kvX xs, ∃ ns, p.1 = rk ns ∧ IsRow ns ∧ ns.length = m) → ∃ Es : List (Addr × List Int), (xs.map fun p => (p.1, p.2.1)) = Es.map (fun e => (rk e.2, e.1)) ∧ (∀ e ∈ Es, IsRow e.2 ∧ e.2.length = m)
  | [], _ => ⟨[], rfl, fun _ h => nomatch h⟩
  | p :: xs, h => by
    obtain ⟨Es, e, hE⟩ := rows_ofX (xs := xs) fun q hq => h q (List.mem_cons_of_mem _ hq)
    obtain ⟨ns, e1, hr, hl⟩ := h (p.1, p.2.2) List.mem_cons_self
    refine ⟨(p.2.1, ns) :: Es, ?_, fun x hx => ?_⟩
    · rw [List.map_cons, List.map_cons, e, show p.1 = rk ns from e1]
    · rcases List.mem_cons.mp hx with z | z
      · rw [z]; exact ⟨hr, hl⟩
      · exact hE x z
end MM
namespace MM
open PySem PySem.Spec PyProof.Rows L2 GxR
/-! ### the meetings that all goings, that none change at -/
def stayN (m : Nat) (gs ns : List Int) (k : Nat) : Nat := wN (row0 m) (gs.take k ++ gs.drop (k + 1)) ns
def chgN (m : Nat) (gs ns : List Int) (k : Nat) : Nat := cntS (fun y => wN (row0 m) (gs.take k) (swL y (gapN gs k))) (gs.drop (k + 1)) ns
theorem book_take {m : Nat} {gs : List Int} (h : BookOk m gs) (k : Nat) : BookOk m (gs.take k) := fun x hx => h x (List.mem_of_mem_take hx)
theorem book_drop {m : Nat} {gs : List Int} (h : BookOk m gs) (k : Nat) : BookOk m (gs.drop k) := fun x hx => h x (List.mem_of_mem_drop hx)
theorem all_split {m : Nat} {gs ns : List Int} {k : Nat} (hk : k < gs.length) : wN (row0 m) gs ns = stayN m gs ns k + chgN m gs ns k := by
  have e : gs = gs.take k ++ gs.getD k 0 :: gs.drop (k + 1) := by
    have h1 := List.drop_eq_getElem_cons hk
    have h2 : gs[k] = gs.getD k 0 := by rw [List.getD_eq_getElem?_getD, List.getElem?_eq_getElem hk]; rfl
    conv => lhs; rw [← List.take_append_drop k gs, h1, h2]
  conv => lhs; rw [e]
  rw [wN_mid]; rfl
theorem stay_iff {m : Nat} {gs ns : List Int} {k : Nat} (h1 : 1 ≤ m) (h9 : m ≤ 9) (hb : BookOk m gs) (hl : ns.length = m) : 0 < stayN m gs ns k ↔ ∃ y, IsRow y ∧ y.length = m ∧ 0 < wN (row0 m) (gs.take k) y ∧ 0 < wN ns (gs.drop (k + 1)).reverse y :=
  stay_pos (book_drop hb _) hl (book_take hb _) (row0_row h1 h9)
theorem chg_iff {m : Nat} {gs ns : List Int} {k : Nat} (h1 : 1 ≤ m) (h9 : m ≤ 9) (hb : BookOk m gs) (hl : ns.length = m) (hg : gapN gs k + 1 < m) : 0 < chgN m gs ns k ↔ ∃ y, IsRow y ∧ y.length = m ∧ 0 < wN (row0 m) (gs.take k) y ∧ 0 < wN ns (gs.drop (k + 1)).reverse (swL y (gapN gs k)) :=
  chg_pos (book_drop hb _) hl (book_take hb _) (row0_row h1 h9) hg
def selN (p : Nat → Bool) (i : Nat) : List Int := ((List.range i).filter p).map fun (k : Nat) => (k : Int)
theorem selN_succ (p : Nat → Bool) (i : Nat) : selN p (i + 1) = if p i = true then selN p i ++ [(i : Int)] else selN p i := by
  unfold selN
  rw [List.range_succ, List.filter_append]
  by_cases h : p i = true
  · rw [if_pos h, List.filter_cons_of_pos h, List.filter_nil, List.map_append]; rfl
  · rw [if_neg h, List.filter_cons_of_neg h, List.filter_nil, List.append_nil]
theorem selN_len (p : Nat → Bool) (i : Nat) : (selN p i).length ≤ i := by
  unfold selN
  rw [List.length_map]
  exact Nat.le_trans (List.length_filter_le _ _) (by rw [List.length_range]; exact Nat.le_refl _)
theorem selN_mem {p : Nat → Bool} {i k : Nat} : (k : Int) ∈ selN p i ↔ k < i ∧ p k = true := by
  unfold selN
  rw [List.mem_map]
  constructor
  · rintro ⟨j, hj, e⟩
    obtain ⟨h1, h2⟩ := List.mem_filter.mp hj
    have : j = k := by omega
    exact ⟨by rw [← this]; exact List.mem_range.mp h1, by rw [← this]; exact h2⟩
  · exact fun ⟨h1, h2⟩ => ⟨k, List.mem_filter.mpr ⟨List.mem_range.mpr h1, h2⟩, rfl⟩
end MM
namespace MM
open PySem PySem.Spec PyProof.Rows L2 GxR
/-! ### t[::-1], told as FTup -/
section
variable {X : Cx}
def tRevF (te : TE) : TE := fun σ H Q => te σ H fun x H1 => ∃ a xs, x = .ref a ∧ FTup H1 a xs ∧ ∀ p H', Ex H1 H' → FTup H' p xs.reverse → Q (.ref p) H'
theorem pe_revF {e : Expr} {te : TE} {k : Nat} {p1 p2 p3 pos : Pos} (he : PE X e te) : PE X (.Subscript e (.Slice none none (some (.UnaryOp .USub (.Constant (.int 1) k p1) p2)) p3) pos) (tRevF te) := by
  refine ⟨fun pins s σ H Q I h => Subscript_ (thn (he.run pins s σ H _ I h) fun v s1 ⟨x, H1, I1, r1, a, xs, ex, hx, q⟩ => ?_)⟩
  subst ex; cases r1
  have hst : PO X (some (.UnaryOp .USub (.Constant (.int 1) k p1) p2)) (tPart (tUn (rU fun i => .int (-i)) (tC (.int 1)))) := po_some (pe_un un_neg pe_int)
  refine wpAny_Slice (thn (po_none.run pins s1 σ H1 (fun o H2 => o = none ∧ H2 = H1) I1 ⟨rfl, rfl⟩) fun vl s2 ⟨l, H2, I2, pl, el, e2⟩ => ?_)
  subst el e2
  refine thn (po_none.run pins s2 σ H2 (fun o H3 => o = none ∧ H3 = H2) I2 ⟨rfl, rfl⟩) fun vu s3 ⟨u, H3, I3, pu, eu, e3⟩ => ?_
  subst eu e3
  refine thn (hst.run pins s3 σ H3 (fun o H4 => o = some (-1) ∧ H4 = H3) I3 ⟨1, rfl, -1, rfl, rfl, rfl⟩) fun vs s4 ⟨o, H4, I4, ps, eo, e4⟩ => ?_
  subst eo e4
  have I5 : Inv X pins σ H4 { s4 with heap := s4.heap.push { cls := .type "slice", data := .fields #[vl, vu, vs] } } := I4.kept (t' := s4.toks) fun b ob q => Heap.get?_push_of_some _ q
  obtain ⟨its, r, ht, hz⟩ := I5.tuple hx.sqt
  have hlen := r.length
  have evl : vl = .none := by cases pl; rfl
  have evu : vu = .none := by cases pu; rfl
  have evs : ∃ u, vs = .int (-1) u := by cases ps; exact ⟨_, rfl⟩
  obtain ⟨tk, evs⟩ := evs
  subst evl evu evs
  show wpAny (model X.prog X.w) X.A (subscriptTail e (.Slice none none (some (.UnaryOp .USub (.Constant (.int 1) k p1) p2)) p3) (.ref a) (.ref s4.heap.objs.size)) (EP X pins σ Q) X.xe { s4 with heap := s4.heap.push { cls := .type "slice", data := .fields #[.none, .none, .int (-1) tk] } }
  refine tail_any (ops := [.ref a, .ref s4.heap.objs.size]) ht.typeIs (PyProof.Rows.slot_tuple_getitem.lookup) ?_ (by with_unfolding_all rfl)
  refine getItem_tuple_rev ht (Heap.IsSliceOf.new _ .none .none _) (by simp only [List.size_toArray]; omega) ?_
  obtain ⟨J, x, hf, f⟩ := laidF I5 (by rw [List.length_reverse]; exact hz) r.reverse
  exact ⟨.ref _, _, J, rfl, q _ _ x f⟩
end
end MM
namespace MM
open PySem PySem.Spec PyProof.Rows L2 GxR
/-- any, all over what is walked: the answer told once -/
theorem gy_told {J : It} {n : Nat} {G : Hp → Prop} {Y : Nat → Hp → V → Hp → Prop} (w : Walk J n G Y) {te : TE} {stop : Bool} {P : Addr} {caps : List (Str × Nat)} {σ : L2.St} {H1 : Hp} {Q : VK} (hP : TabG H1 P) (Pv : Nat → Hp → Prop) (Fr : Hp → Prop) (S : Prop) (h0 : ∀ H2, Ex H1 H2 → Pv 0 H2) (hG : ∀ i H, i ≤ n → Pv i H → G H)
    (hs : ∀ i x H H', i < n → Pv i H → Y i H x H' → te (some x :: caps.map fun p => (σ[p.2]?).join) H' fun y H4 => ∃ b, y = .bl b ∧ (b = stop → S ∧ Fr H4) ∧ (b ≠ stop → Pv (i + 1) H4)) (hd : ∀ H, Pv n H → ¬ S ∧ Fr H) (q : ∀ (b : Bool) H, Fr H → (b = stop ↔ S) → Q (.bl b) H) : tGy J te P stop caps σ H1 Q := by
  have hn : (!stop) = stop ↔ False := by cases stop <;> simp
  refine ⟨hP, fun H2 t2 => ?_⟩
  obtain ⟨W, h1, h2⟩ := gx_it (Qs := fun H => S ∧ Fr H) (Qe := fun H => ¬ S ∧ Fr H) w Pv (h0 H2 (ex_tab hP t2)) hG hs hd
  exact ⟨W, _, _, h1, h2, fun H h => q stop H h.2 ⟨fun _ => h.1, fun _ => rfl⟩, fun H h => q (!stop) H h.2 ⟨fun z => (hn.mp z).elim, fun z => (h.1 z).elim⟩⟩
end MM
namespace K68
open PySem PySem.Spec PyProof.Rows L2 GxR MM
def topS (i : Nat) : Stmt := PySem.Challenge.pw_maymeet_k68_whole_long_books_by_parts.main.body.getD i (.Pass ⟨0, 0, 0, 0⟩)
abbrev s_is_whole : Stmt := topS 9
abbrev N_is_whole : List Str := ["thing"]
theorem sc_is_whole : FnScope N_is_whole ["thing"] (defScope s_is_whole) := ⟨rfl, rfl, rfl, by decide +kernel, rfl, by decide +kernel, by decide +kernel⟩
abbrev s_is_many : Stmt := topS 10
abbrev N_is_many : List Str := ["thing"]
theorem sc_is_many : FnScope N_is_many ["thing"] (defScope s_is_many) := ⟨rfl, rfl, rfl, by decide +kernel, rfl, by decide +kernel, by decide +kernel⟩
abbrev s_is_gap : Stmt := topS 11
abbrev N_is_gap : List Str := ["thing", "many"]
theorem sc_is_gap : FnScope N_is_gap ["thing", "many"] (defScope s_is_gap) := ⟨rfl, rfl, rfl, by decide +kernel, rfl, by decide +kernel, by decide +kernel⟩
abbrev s_is_row : Stmt := topS 12
abbrev N_is_row : List Str := ["thing"]
theorem sc_is_row : FnScope N_is_row ["thing"] (defScope s_is_row) := ⟨rfl, rfl, rfl, by decide +kernel, rfl, by decide +kernel, by decide +kernel⟩
abbrev s_check_many : Stmt := topS 13
abbrev N_check_many : List Str := ["many"]
theorem sc_check_many : FnScope N_check_many ["many"] (defScope s_check_many) := ⟨rfl, rfl, rfl, by decide +kernel, rfl, by decide +kernel, by decide +kernel⟩
abbrev s_is_book : Stmt := topS 14
abbrev N_is_book : List Str := ["thing", "many"]
theorem sc_is_book : FnScope N_is_book ["thing", "many"] (defScope s_is_book) := ⟨rfl, rfl, rfl, by decide +kernel, rfl, by decide +kernel, by decide +kernel⟩
abbrev s_check_row : Stmt := topS 15
abbrev N_check_row : List Str := ["row"]
theorem sc_check_row : FnScope N_check_row ["row"] (defScope s_check_row) := ⟨rfl, rfl, rfl, by decide +kernel, rfl, by decide +kernel, by decide +kernel⟩
abbrev s_check_book : Stmt := topS 16
abbrev N_check_book : List Str := ["book", "many"]
theorem sc_check_book : FnScope N_check_book ["book", "many"] (defScope s_check_book) := ⟨rfl, rfl, rfl, by decide +kernel, rfl, by decide +kernel, by decide +kernel⟩
abbrev s_check_book_and_row : Stmt := topS 17
abbrev N_check_book_and_row : List Str := ["book", "row"]
theorem sc_check_book_and_row : FnScope N_check_book_and_row ["book", "row"] (defScope s_check_book_and_row) := ⟨rfl, rfl, rfl, by decide +kernel, rfl, by decide +kernel, by decide +kernel⟩
abbrev s_check_few : Stmt := topS 18
abbrev N_check_few : List Str := ["many"]
theorem sc_check_few : FnScope N_check_few ["many"] (defScope s_check_few) := ⟨rfl, rfl, rfl, by decide +kernel, rfl, by decide +kernel, by decide +kernel⟩
abbrev s_row_of : Stmt := topS 19
abbrev N_row_of : List Str := ["many"]
theorem sc_row_of : FnScope N_row_of ["many"] (defScope s_row_of) := ⟨rfl, rfl, rfl, by decide +kernel, rfl, by decide +kernel, by decide +kernel⟩
abbrev s_swapped : Stmt := topS 20
abbrev N_swapped : List Str := ["row", "gap"]
theorem sc_swapped : FnScope N_swapped ["row", "gap"] (defScope s_swapped) := ⟨rfl, rfl, rfl, by decide +kernel, rfl, by decide +kernel, by decide +kernel⟩
abbrev s_lesser_ahead : Stmt := topS 22
abbrev N_lesser_ahead : List Str := ["row", "gap"]
theorem sc_lesser_ahead : FnScope N_lesser_ahead ["row", "gap"] (defScope s_lesser_ahead) := ⟨rfl, rfl, rfl, by decide +kernel, rfl, by decide +kernel, by decide +kernel⟩
abbrev s_places_of : Stmt := topS 23
abbrev N_places_of : List Str := ["row"]
theorem sc_places_of : FnScope N_places_of ["row"] (defScope s_places_of) := ⟨rfl, rfl, rfl, by decide +kernel, rfl, by decide +kernel, by decide +kernel⟩
abbrev s_fewest : Stmt := topS 24
abbrev N_fewest : List Str := ["book", "row", "left", "changes", "meeting", "gap"]
theorem sc_fewest : FnScope N_fewest ["book", "row"] (defScope s_fewest) := ⟨rfl, rfl, rfl, by decide +kernel, rfl, by decide +kernel, by decide +kernel⟩
abbrev s_led_on : Stmt := topS 26
abbrev N_led_on : List Str := ["ways", "gap", "row", "after", "other"]
theorem sc_led_on : FnScope N_led_on ["ways", "gap"] (defScope s_led_on) := ⟨rfl, rfl, rfl, by decide +kernel, rfl, by decide +kernel, by decide +kernel⟩
abbrev s_ways_from : Stmt := topS 27
abbrev N_ways_from : List Str := ["row", "book", "ways", "gap"]
theorem sc_ways_from : FnScope N_ways_from ["row", "book"] (defScope s_ways_from) := ⟨rfl, rfl, rfl, by decide +kernel, rfl, by decide +kernel, by decide +kernel⟩
abbrev s_ways_ahead : Stmt := topS 28
abbrev N_ways_ahead : List Str := ["book", "many"]
theorem sc_ways_ahead : FnScope N_ways_ahead ["book", "many"] (defScope s_ways_ahead) := ⟨rfl, rfl, rfl, by decide +kernel, rfl, by decide +kernel, by decide +kernel⟩
abbrev s_check_asked : Stmt := topS 29
abbrev N_check_asked : List Str := ["book", "row"]
theorem sc_check_asked : FnScope N_check_asked ["book", "row"] (defScope s_check_asked) := ⟨rfl, rfl, rfl, by decide +kernel, rfl, by decide +kernel, by decide +kernel⟩
abbrev s_goings : Stmt := topS 30
abbrev N_goings : List Str := ["book", "row"]
theorem sc_goings : FnScope N_goings ["book", "row"] (defScope s_goings) := ⟨rfl, rfl, rfl, by decide +kernel, rfl, by decide +kernel, by decide +kernel⟩
abbrev s_ends : Stmt := topS 31
abbrev N_ends : List Str := ["book", "many", "ways", "row"]
theorem sc_ends : FnScope N_ends ["book", "many"] (defScope s_ends) := ⟨rfl, rfl, rfl, by decide +kernel, rfl, by decide +kernel, by decide +kernel⟩
abbrev s_law_cell_at : Stmt := topS 33
abbrev N_law_cell_at : List Str := ["script", "k"]
theorem sc_law_cell_at : FnScope N_law_cell_at ["script", "k"] (defScope s_law_cell_at) := ⟨rfl, rfl, rfl, by decide +kernel, rfl, by decide +kernel, by decide +kernel⟩
abbrev s_law_bag : Stmt := topS 34
abbrev N_law_bag : List Str := ["cell", "k"]
theorem sc_law_bag : FnScope N_law_bag ["cell", "k"] (defScope s_law_bag) := ⟨rfl, rfl, rfl, by decide +kernel, rfl, by decide +kernel, by decide +kernel⟩
abbrev s_law_take : Stmt := topS 35
abbrev N_law_take : List Str := ["bag", "size", "found", "mixed"]
theorem sc_law_take : FnScope N_law_take ["bag", "size"] (defScope s_law_take) := ⟨rfl, rfl, rfl, by decide +kernel, rfl, by decide +kernel, by decide +kernel⟩
abbrev s_law_plan : Stmt := topS 36
abbrev N_law_plan : List Str := ["bag", "size", "long", "kind", "spots", "found", "k", "spot"]
theorem sc_law_plan : FnScope N_law_plan ["bag", "size", "long"] (defScope s_law_plan) := ⟨rfl, rfl, rfl, by decide +kernel, rfl, by decide +kernel, by decide +kernel⟩
abbrev s_law_line : Stmt := topS 37
abbrev N_law_line : List Str := ["bag", "size", "left", "k"]
theorem sc_law_line : FnScope N_law_line ["bag", "size"] (defScope s_law_line) := ⟨rfl, rfl, rfl, by decide +kernel, rfl, by decide +kernel, by decide +kernel⟩
abbrev s_law_changed : Stmt := topS 38
abbrev N_law_changed : List Str := ["line", "spot"]
theorem sc_law_changed : FnScope N_law_changed ["line", "spot"] (defScope s_law_changed) := ⟨rfl, rfl, rfl, by decide +kernel, rfl, by decide +kernel, by decide +kernel⟩
abbrev s_law_far : Stmt := topS 39
abbrev N_law_far : List Str := ["plan", "size", "line", "spot", "k"]
theorem sc_law_far : FnScope N_law_far ["plan", "size"] (defScope s_law_far) := ⟨rfl, rfl, rfl, by decide +kernel, rfl, by decide +kernel, by decide +kernel⟩
abbrev s_law_drawn_end : Stmt := topS 40
abbrev N_law_drawn_end : List Str := ["bag", "plan", "size", "often", "line", "spot", "k"]
theorem sc_law_drawn_end : FnScope N_law_drawn_end ["bag", "plan", "size"] (defScope s_law_drawn_end) := ⟨rfl, rfl, rfl, by decide +kernel, rfl, by decide +kernel, by decide +kernel⟩
abbrev s_law_led : Stmt := topS 41
abbrev N_law_led : List Str := ["plan", "size", "told", "k", "line"]
theorem sc_law_led : FnScope N_law_led ["plan", "size", "told"] (defScope s_law_led) := ⟨rfl, rfl, rfl, by decide +kernel, rfl, by decide +kernel, by decide +kernel⟩
abbrev s_law_anew : Stmt := topS 42
abbrev N_law_anew : List Str := ["line", "amid", "person"]
theorem sc_law_anew : FnScope N_law_anew ["line", "amid"] (defScope s_law_anew) := ⟨rfl, rfl, rfl, by decide +kernel, rfl, by decide +kernel, by decide +kernel⟩
abbrev s_law_list_right : Stmt := topS 43
abbrev N_law_list_right : List Str := ["plan", "k", "line", "told", "first_ones", "later", "amid", "spot"]
theorem sc_law_list_right : FnScope N_law_list_right ["plan", "k", "line"] (defScope s_law_list_right) := ⟨rfl, rfl, rfl, by decide +kernel, rfl, by decide +kernel, by decide +kernel⟩
abbrev s_law_counts_right : Stmt := topS 44
abbrev N_law_counts_right : List Str := ["plan", "k", "line", "total", "amid", "often"]
theorem sc_law_counts_right : FnScope N_law_counts_right ["plan", "k", "line"] (defScope s_law_counts_right) := ⟨rfl, rfl, rfl, by decide +kernel, rfl, by decide +kernel, by decide +kernel⟩
abbrev s_law_right : Stmt := topS 45
abbrev N_law_right : List Str := ["bag", "size", "plan", "k", "turn", "line"]
theorem sc_law_right : FnScope N_law_right ["bag"] (defScope s_law_right) := ⟨rfl, rfl, rfl, by decide +kernel, rfl, by decide +kernel, by decide +kernel⟩
abbrev s_law : Stmt := topS 46
abbrev N_law : List Str := ["script", "k"]
theorem sc_law : FnScope N_law ["script"] (defScope s_law) := ⟨rfl, rfl, rfl, by decide +kernel, rfl, by decide +kernel, by decide +kernel⟩
end K68
namespace K68
open PySem PySem.Spec PyProof.Rows L2 GxR MM
section
variable {P : Program} {w : World} {K : PySem.W.Frag} {mg : Str → Option Value} {base : Heap} {f : Addr} {fd : FuncData} {n : Nat}
structure Bl (mg : Str → Option Value) : Prop where
  isinstance : mg "isinstance" = none
  int : mg "int" = none
  bool : mg "bool" = none
  tuple : mg "tuple" = none
  len : mg "len" = none
  all : mg "all" = none
  sorted : mg "sorted" = none
  list : mg "list" = none
  range : mg "range" = none
  max : mg "max" = none
  min : mg "min" = none
  abs : mg "abs" = none
  repr : mg "repr" = none
  enumerate : mg "enumerate" = none
  any : mg "any" = none
  sum : mg "sum" = none
  zip : mg "zip" = none
def spWhole (K : PySem.W.Frag) : Sp := fun vs H Q _ => ∃ x T, vs = [x] ∧ Kd K H x T ∧ Q (.bl (isW x)) H
theorem d_is_whole (F : FnP K "is_whole" s_is_whole f fd) (g : mg "is_whole" = some (.ref f)) (B : Bl mg) : CallD P w K mg base (n + 1) "is_whole" ["thing"] (spWhole K) := by
  refine callD F g sc_is_whole (fun _ _ _ _ _ _ us hl => match us, hl with | [_], _ => rfl) (fun vs H Q E h => ?_) (fun cdv A outer s H vs Q E _ hr hG h => ?_)
  · obtain ⟨x, T, rfl, _⟩ := h; rfl
  · obtain ⟨x, T, rfl, k, q⟩ := h
    refine ⟨_, (pss_one (ps_ret (pe_and (pe_callB (k_isi (K := K) rfl) (by rfl) B.isinstance (by decide +kernel) (pa_cons (pv 0) (pa_cons (pe_bltn (v := .ty "int") (by rfl) B.int (by decide +kernel) rfl) pa_nil))) (pe_one (pe_not (pe_callB (k_isi (K := K) rfl) (by rfl) B.isinstance (by decide +kernel) (pa_cons (pv 0) (pa_cons (pe_bltn (v := .ty "bool") (by rfl) B.bool (by decide +kernel) rfl) pa_nil)))))))), ?_⟩
    refine ⟨x, rfl, x, .ty "int", _, _, isI x, rfl, .ty _, k.ty, kd_int k, isI x, rfl, ?_⟩
    rw [isW_eq] at q
    cases e : isI x with
    | false => rw [e] at q; exact iteF q
    | true => rw [e] at q; exact iteT ⟨x, rfl, x, .ty "bool", _, _, isB x, rfl, .ty _, k.ty, kd_bool k, isB x, rfl, q⟩
def spMany : Sp := fun vs H Q _ => ∃ i : Int, vs = [.int i] ∧ Q (.bl (decide (1 ≤ i ∧ i ≤ 9))) H
theorem d_is_many (F : FnP K "is_many" s_is_many f fd) (g : mg "is_many" = some (.ref f)) (C_is_whole : CallD P w K mg base n "is_whole" ["thing"] (spWhole K)) {tk : Tok} (m_MOST_PEOPLE : mg "MOST_PEOPLE" = some (.int 9 tk)) : CallD P w K mg base (n + 1) "is_many" ["thing"] spMany := by
  refine callD F g sc_is_many (fun _ _ _ _ _ _ us hl => match us, hl with | [_], _ => rfl) (fun vs H Q E h => ?_) (fun cdv A outer s H vs Q E _ hr hG h => ?_)
  · obtain ⟨x, rfl, _⟩ := h; rfl
  · obtain ⟨i, rfl, q⟩ := h
    refine ⟨_, (pss_one (ps_ret (pe_and (pe_c C_is_whole hr hG (pa_cons (pv 0) pa_nil)) (pe_one (pe_chain op_le op_le pe_int (pv 0) (pe_glob (v := .int 9) (by rfl) m_MOST_PEOPLE ⟨_, rfl⟩)))))), ?_⟩
    refine ⟨.int i, rfl, .int i, "int", rfl, .int i, true, rfl, iteT ?_⟩
    refine ⟨_, rfl, _, _, rfl, rfl, decide (1 ≤ i), rfl, ?_⟩
    by_cases h1 : 1 ≤ i
    · rw [decide_eq_true h1]
      refine iteT ⟨_, _, rfl, rfl, ?_⟩
      have e : decide (1 ≤ i ∧ i ≤ 9) = decide (i ≤ 9) := by rw [Bool.eq_iff_iff]; simp [h1]
      rw [e] at q; exact q
    · rw [decide_eq_false h1]
      refine iteF ?_
      have e : decide (1 ≤ i ∧ i ≤ 9) = false := by simp [h1]
      rw [e] at q; exact q
/-- is_row of a row -/
def spIsRow (K : PySem.W.Frag) (Pt : Addr) : Sp := fun vs H Q _ => ∃ (a : Addr) (ns : List Int), vs = [.ref a] ∧ SqT K H a (ns.map V.int) ∧ TabG H Pt ∧ IsRow ns ∧ ∀ H', Ex H H' → Q (.bl true) H'
theorem d_is_row {c Pt fW : Addr} {fdW : FuncData} (F : FnP K "is_row" s_is_row f fd) (g : mg "is_row" = some (.ref f)) (B : Bl mg) (C_is_many : CallD P w K mg base n "is_many" ["thing"] spMany) (FW : FnP K "is_whole" s_is_whole fW fdW) (gW : mg "is_whole" = some (.ref fW))
    (TB : TabB base mg c Pt) (hc : ∀ oc od fd osl, K.lookup f = some ⟨oc, od, .func fd, osl⟩ → fd.code = .ref c) : CallD P w K mg base (n + 1) "is_row" ["thing"] (spIsRow K Pt) := by
  refine callD F g sc_is_row (fun _ _ _ _ _ _ us hl => match us, hl with | [_], _ => rfl) (fun vs H Q E h => ?_) (fun cdv A outer s H vs Q E hcd0 hr hG h => ?_)
  · obtain ⟨a, ns, rfl, _⟩ := h; rfl
  · obtain ⟨a, ns, rfl, hT, hTab, hR, q⟩ := h
    have hcd : cdv = .ref c := by
      obtain ⟨oc, od, dV, kV, doc, pm, an, cdv', ct, osl, e1, lk, _⟩ := F.ex
      rw [← hcd0 _ _ _ _ lk]; exact hc _ _ _ _ lk
    subst hcd
    refine ⟨_, (pss_cons (ps_if (PW.pt (pw_or (pt_not (pt_val (pe_callB (k_isi (K := K) rfl) (by rfl) B.isinstance (by decide +kernel) (pa_cons (pv 0) (pa_cons (pe_bltn (v := .ty "tuple") (by rfl) B.tuple (by decide +kernel) rfl) pa_nil))))) (pw_or1 (pt_not (pt_val (pe_c C_is_many hr hG (pa_cons (pe_callB (k_len (K := K) rfl) (by rfl) B.len PySem.boot_len (pa_cons (pv 0) pa_nil)) pa_nil)))))))
      (pss_one (ps_ret pe_bl))
      pss_nil)
      (pss_cons (ps_if (pt_not (pt_val (pe_allT (ok := okKd _) (pb := fun _ v => isW v) hr (by rfl) B.all (by decide +kernel) TB rfl ⟨rfl, rfl, by decide +kernel, rfl, rfl, fun y hy e => (nofree_gen rfl y hy e).elim⟩ (pv 0) (elt_whole FW hr gW B.isinstance B.int B.bool rfl ⟨_, _, _, _, _, _, _, _, _, _, _, ⟨0, 0, 0, 0⟩, rfl⟩ (fun _ _ _ _ _ _ us hl => match us, hl with | [_], _ => rfl) rfl rfl rfl) (fun _ => rfl))))
      (pss_one (ps_ret pe_bl))
      pss_nil)
      (pss_one (ps_ret (pe_cmpR (k_eq (K := K) rfl hr.units) (pe_callB (k_sortT (K := K) rfl) (by rfl) B.sorted (by decide +kernel) (pa_cons (pv 0) pa_nil)) (pe_listRg rfl (by rfl) B.list (prg_1 (by rfl) B.range (pe_callB (k_len (K := K) rfl) (by rfl) B.len PySem.boot_len (pa_cons (pv 0) pa_nil)))) (nomark _)))))), ?_⟩
    refine ⟨.ref a, rfl, .ref a, .ty "tuple", _, _, true, rfl, .ty _, (Kd.tup hT).ty, kd_tuple (Kd.tup hT), true, rfl, iteF ?_⟩
    refine ⟨.ref a, rfl, a, _, rfl, .inr hT, ((ns.map V.int).length : Int), rfl, ?_⟩
    have e1 : decide (1 ≤ ((ns.map V.int).length : Int) ∧ ((ns.map V.int).length : Int) ≤ 9) = true := by have := hR.1; have := hR.2.1; rw [List.length_map]; exact decide_eq_true ⟨by omega, by omega⟩
    refine ⟨_, rfl, ?_⟩
    rw [e1]
    refine iteF ?_
    refine ⟨.ref a, rfl, a, ns.map V.int, rfl, hT, hTab, fun x hx => by obtain ⟨i, _, rfl⟩ := List.mem_map.mp hx; exact ⟨_, .int i⟩, fun H2 t2 => ?_⟩
    have e2 : (ns.map V.int).all isW = true := by rw [List.all_eq_true]; intro x hx; obtain ⟨i, _, rfl⟩ := List.mem_map.mp hx; rfl
    refine ⟨_, rfl, ?_⟩
    rw [e2]
    refine iteF ?_
    have x1 : Ex H H2 := ex_tab hTab t2
    have hT2 := x1.sqt hT
    refine ⟨.ref a, rfl, a, ns, rfl, hT2, fun ns' p hp hs np => ?_⟩
    have x2 : Ex H2 (upd H2 p (.lst (ns'.map V.int))) := ex_new np
    refine ⟨.ref a, rfl, a, _, rfl, .inr (x2.sqt hT2), _, rfl, RgOk.of_le (Int.le_refl _) ?_ (by decide) (Int.natCast_nonneg _), fun q2 nq => ?_⟩
    · rw [List.length_map]; have := hR.2.1; omega
    · have e3 : ns' = (List.range ns.length).map Int.ofNat := hR.sorted hp hs
      have x3 : Ex (upd H2 p (.lst (ns'.map V.int))) (upd (upd H2 p (.lst (ns'.map V.int))) q2 (.lst (rgV 0 ((ns.map V.int).length : Int)))) := ex_new nq
      have e4 : rgV 0 ((ns.map V.int).length : Int) = ns'.map V.int := by rw [List.length_map, rgV_ints, e3]
      have nice : Nice 1 (9 * 53 + 3) (.list (ns'.map PyData.int)) := nice_list (nice_ints fun i hi => by have := hR.mem (hp.mem_iff.mp hi); have := hR.2.1; omega) (by rw [List.length_map, hp.length_eq]; exact hR.2.1)
      refine ⟨_, _, dp_ints (ns := ns') (SqL.of (Ex.lst x3 upd_same)), dp_ints (ns := ns') (SqL.of (by rw [upd_same, e4])), nice.shaped (by decide), nice.shaped (by decide), ?_⟩
      rw [nice.refl]
      exact q _ ((x1.trans x2).trans x3)
def spCheckRow (K : PySem.W.Frag) (Pt : Addr) : Sp := fun vs H Q _ => ∃ (a : Addr) (ns : List Int), vs = [.ref a] ∧ SqT K H a (ns.map V.int) ∧ TabG H Pt ∧ IsRow ns ∧ ∀ H', Ex H H' → Q .non H'
theorem d_check_row {Pt : Addr} (F : FnP K "check_row" s_check_row f fd) (g : mg "check_row" = some (.ref f)) (C_is_row : CallD P w K mg base n "is_row" ["thing"] (spIsRow K Pt)) : CallD P w K mg base (n + 1) "check_row" ["row"] (spCheckRow K Pt) := by
  refine callD F g sc_check_row (fun _ _ _ _ _ _ us hl => match us, hl with | [_], _ => rfl) (fun vs H Q E h => ?_) (fun cdv A outer s H vs Q E _ hr hG h => ?_)
  · obtain ⟨a, ns, rfl, _⟩ := h; rfl
  · obtain ⟨a, ns, rfl, hT, hTab, hR, q⟩ := h
    refine ⟨_, (pss_one (ps_if (pt_not (pt_val (pe_c C_is_row hr hG (pa_cons (pv 0) pa_nil))))
      (pss_one ps_never)
      pss_nil)), ?_⟩
    exact ⟨.ref a, rfl, a, ns, rfl, hT, hTab, hR, fun H' e => ⟨true, rfl, iteF (q H' e)⟩⟩
def spGap : Sp := fun vs H Q _ => ∃ i m : Int, vs = [.int i, .int m] ∧ Q (.bl (decide (0 ≤ i ∧ i ≤ m - 2))) H
theorem d_is_gap (F : FnP K "is_gap" s_is_gap f fd) (g : mg "is_gap" = some (.ref f)) (C_is_whole : CallD P w K mg base n "is_whole" ["thing"] (spWhole K)) : CallD P w K mg base (n + 1) "is_gap" ["thing", "many"] spGap := by
  refine callD F g sc_is_gap (fun _ _ _ _ _ _ us hl => match us, hl with | [_, _], _ => rfl) (fun vs H Q E h => ?_) (fun cdv A outer s H vs Q E _ hr hG h => ?_)
  · obtain ⟨x, m, rfl, _⟩ := h; rfl
  · obtain ⟨i, m, rfl, q⟩ := h
    refine ⟨_, (pss_one (ps_ret (pe_and (pe_c C_is_whole hr hG (pa_cons (pv 0) pa_nil)) (pe_one (pe_chain op_le op_le pe_int (pv 0) (pe_op op_sub (pv 1) pe_int)))))), ?_⟩
    refine ⟨.int i, rfl, .int i, "int", rfl, .int i, true, rfl, iteT ?_⟩
    refine ⟨_, rfl, _, _, rfl, rfl, decide (0 ≤ i), rfl, ?_⟩
    by_cases h1 : 0 ≤ i
    · rw [decide_eq_true h1]
      refine iteT ⟨_, rfl, _, _, rfl, rfl, _, _, rfl, rfl, ?_⟩
      have e : decide (0 ≤ i ∧ i ≤ m - 2) = decide (i ≤ m - 2) := by rw [Bool.eq_iff_iff]; simp [h1]
      rw [e] at q; exact q
    · rw [decide_eq_false h1]
      refine iteF ?_
      have e : decide (0 ≤ i ∧ i ≤ m - 2) = false := by simp [h1]
      rw [e] at q; exact q
theorem row_get {ns : List Int} {k : Nat} (hk : k < ns.length) : (ns.map V.int)[k]? = some (.int (ns.getD k 0)) := by rw [List.getElem?_map, getD_some hk]; rfl
def spSwF : Sp := fun vs H Q _ => ∃ (a : Addr) (ns : List Int) (g : Nat), vs = [.ref a, .int g] ∧ FTup H a (ns.map V.int) ∧ g + 1 < ns.length ∧ ns.length ≤ 9 ∧ ∀ p H', Ex H H' → FTup H' p ((swL ns g).map V.int) → Q (.ref p) H'
theorem d_swapped (F : FnP K "swapped" s_swapped f fd) (g : mg "swapped" = some (.ref f)) : CallD P w K mg base (n + 1) "swapped" ["row", "gap"] spSwF := by
  refine callD F g sc_swapped (fun _ _ _ _ _ _ us hl => match us, hl with | [_, _], _ => rfl) (fun vs H Q E h => ?_) (fun cdv A outer s H vs Q E _ hr hG h => ?_)
  · obtain ⟨a, ns, g, rfl, _⟩ := h; rfl
  · obtain ⟨a, ns, g, rfl, hT, hg, h9, q⟩ := h
    refine ⟨_, (pss_one (ps_ret (pe_op k_catF (pe_op k_catF (pe_slice k_slF (pv 0) po_none (po_some (pv 1))) (pe_tupF (pa_cons (pe_ix (k_ixt (K := K) rfl) (pv 0) (pe_op op_add (pv 1) pe_int) (fun _ _ => rfl)) (pa_cons (pe_ix (k_ixt (K := K) rfl) (pv 0) (pv 1) (fun _ _ => rfl)) pa_nil)))) (pe_slice k_slF (pv 0) (po_some (pe_op op_add (pv 1) pe_int)) po_none)))), ?_⟩
    have sl : sizeLine = 16777216 := by decide
    refine ⟨_, rfl, _, rfl, _, rfl, a, _, rfl, hT, fun p1 H1 x1 h1 => ?_⟩
    rw [cutV_to] at h1
    have eg : (g : Int) + 1 = ((g + 1 : Nat) : Int) := by omega
    refine ⟨_, rfl, _, rfl, _, _, rfl, rfl, a, _, _, _, rfl, rfl, (hT.ex x1).sqt, by rw [eg]; exact at_of (by omega) (row_get hg), ?_⟩
    refine ⟨_, rfl, _, rfl, a, _, _, _, rfl, rfl, (hT.ex x1).sqt, at_of (by omega) (row_get (k := g) (by omega)), by show 2 ≤ sizeLine; decide, fun t H2 x2 nt ht => ?_⟩
    refine ⟨p1, t, _, _, rfl, rfl, h1.ex x2, ht, by rw [List.length_take, List.length_map, sl]; simp; omega, fun p3 H3 x3 h3 => ?_⟩
    refine ⟨_, rfl, _, rfl, _, _, rfl, rfl, _, rfl, a, _, rfl, (hT.ex x1).ex (x2.trans x3), fun p4 H4 x4 h4 => ?_⟩
    rw [show (g : Int) + 2 = ((g + 2 : Nat) : Int) by omega, cutV_from] at h4
    refine ⟨p3, p4, _, _, rfl, rfl, h3.ex x4, h4, by simp [sl]; omega, fun p5 H5 x5 h5 => ?_⟩
    refine q p5 H5 ((((x1.trans x2).trans x3).trans x4).trans x5) ?_
    unfold swL
    rw [List.map_append, List.map_append, List.map_take, List.map_drop]
    exact h5
def spLesser (K : PySem.W.Frag) : Sp := fun vs H Q _ => ∃ (a : Addr) (ns : List Int) (g : Nat), vs = [.ref a, .int g] ∧ SqT K H a (ns.map V.int) ∧ g + 1 < ns.length ∧ Q (.bl (decide (ns.getD g 0 < ns.getD (g + 1) 0))) H
theorem d_lesser_ahead (F : FnP K "lesser_ahead" s_lesser_ahead f fd) (g : mg "lesser_ahead" = some (.ref f)) : CallD P w K mg base (n + 1) "lesser_ahead" ["row", "gap"] (spLesser K) := by
  refine callD F g sc_lesser_ahead (fun _ _ _ _ _ _ us hl => match us, hl with | [_, _], _ => rfl) (fun vs H Q E h => ?_) (fun cdv A outer s H vs Q E _ hr hG h => ?_)
  · obtain ⟨a, ns, g, rfl, _⟩ := h; rfl
  · obtain ⟨a, ns, g, rfl, hT, hg, q⟩ := h
    refine ⟨_, (pss_one (ps_ret (pe_cmpR op_lt (pe_ix (k_ixt (K := K) rfl) (pv 0) (pv 1) (fun _ _ => rfl)) (pe_ix (k_ixt (K := K) rfl) (pv 0) (pe_op op_add (pv 1) pe_int) (fun _ _ => rfl)) (nomark _)))), ?_⟩
    exact ⟨_, rfl, _, rfl, a, _, _, _, rfl, rfl, hT, at_of rfl (row_get (k := g) (by omega)), _, rfl, _, rfl, _, _, rfl, rfl, a, _, _, _, rfl, rfl, hT, at_of (j := g + 1) (by omega) (row_get hg), _, _, rfl, rfl, q⟩
end
end K68
namespace K68
open PySem PySem.Spec PyProof.Rows L2 GxR MM
section
variable {P : Program} {w : World} {K : PySem.W.Frag} {mg : Str → Option Value} {base : Heap} {f : Addr} {fd : FuncData} {n : Nat}
def spCheckMany : Sp := fun vs H Q _ => ∃ i : Int, vs = [.int i] ∧ 1 ≤ i ∧ i ≤ 9 ∧ Q .non H
theorem d_check_many (F : FnP K "check_many" s_check_many f fd) (g : mg "check_many" = some (.ref f)) (C_is_many : CallD P w K mg base n "is_many" ["thing"] spMany) : CallD P w K mg base (n + 1) "check_many" ["many"] spCheckMany := by
  refine callD F g sc_check_many (fun _ _ _ _ _ _ us hl => match us, hl with | [_], _ => rfl) (fun vs H Q E h => ?_) (fun cdv A outer s H vs Q E _ hr hG h => ?_)
  · obtain ⟨i, rfl, _⟩ := h; rfl
  · obtain ⟨i, rfl, h1, h9, q⟩ := h
    refine ⟨_, (pss_one (ps_if (pt_not (pt_val (pe_c C_is_many hr hG (pa_cons (pv 0) pa_nil))))
      (pss_one ps_never)
      pss_nil)), ?_⟩
    refine ⟨_, rfl, i, rfl, ?_⟩
    rw [decide_eq_true (⟨h1, h9⟩ : 1 ≤ i ∧ i ≤ 9)]
    exact ⟨_, rfl, iteF q⟩
def spBook (K : PySem.W.Frag) (Pb : Addr) : Sp := fun vs H Q _ => ∃ (a : Addr) (gs : List Int) (m : Nat), vs = [.ref a, .int m] ∧ SqT K H a (gs.map V.int) ∧ TabG H Pb ∧ 1 ≤ m ∧ m ≤ 9 ∧ BookOk m gs ∧ ∀ H', Ex H H' → Q (.bl true) H'
theorem d_is_book {c Pb fG fW : Addr} {fdG fdW : FuncData} (F : FnP K "is_book" s_is_book f fd) (g : mg "is_book" = some (.ref f)) (B : Bl mg) (C_check_many : CallD P w K mg base n "check_many" ["many"] spCheckMany) (FG : FnP K "is_gap" s_is_gap fG fdG) (gG : mg "is_gap" = some (.ref fG)) (FW : FnP K "is_whole" s_is_whole fW fdW) (gW : mg "is_whole" = some (.ref fW))
    (TB : TabB base mg c Pb) (hc : ∀ oc od fd osl, K.lookup f = some ⟨oc, od, .func fd, osl⟩ → fd.code = .ref c) : CallD P w K mg base (n + 1) "is_book" ["thing", "many"] (spBook K Pb) := by
  refine callD F g sc_is_book (fun _ _ _ _ _ _ us hl => match us, hl with | [_, _], _ => rfl) (fun vs H Q E h => ?_) (fun cdv A outer s H vs Q E hcd0 hr hG h => ?_)
  · obtain ⟨a, gs, m, rfl, _⟩ := h; rfl
  · obtain ⟨a, gs, m, rfl, hT, hTab, h1, h9, hB, q⟩ := h
    have hcd : cdv = .ref c := by
      obtain ⟨oc, od, dV, kV, doc, pm, an, cdv', ct, osl, e1, lk, _⟩ := F.ex
      rw [← hcd0 _ _ _ _ lk]; exact hc _ _ _ _ lk
    subst hcd
    refine ⟨_, (pss_cons (ps_expr (pe_c C_check_many hr hG (pa_cons (pv 1) pa_nil)))
      (pss_one (ps_ret (pe_and (pe_callB (k_isi (K := K) rfl) (by rfl) B.isinstance (by decide +kernel) (pa_cons (pv 0) (pa_cons (pe_bltn (v := .ty "tuple") (by rfl) B.tuple (by decide +kernel) rfl) pa_nil))) (pe_one (pe_allT (ok := fun σ H v => (∃ T, Kd _ H v T) ∧ ∃ m : Int, σ[1]? = some (some (.int m))) (pb := gapAt 1) hr (by rfl) B.all (by decide +kernel) TB rfl ⟨rfl, rfl, by decide +kernel, rfl, rfl, fun y hy e => free_one (z := "many") (by decide +kernel) rfl y hy e⟩ (pv 0) (elt_gap FG FW hr gG gW B.isinstance B.int B.bool rfl ⟨_, _, _, _, _, _, _, _, _, _, _, rfl⟩ (fun _ _ _ _ _ _ us hl => match us, hl with | [_, _], _ => rfl) rfl ⟨_, _, _, _, _, _, _, _, _, _, _, ⟨0, 0, 0, 0⟩, rfl⟩ (fun _ _ _ _ _ _ us hl => match us, hl with | [_], _ => rfl) rfl rfl rfl rfl rfl (fun c hc => by cases hc; rfl) rfl) (fun _ => rfl))))))), ?_⟩
    refine ⟨_, rfl, (m : Int), rfl, by omega, by omega, ?_⟩
    refine ⟨.ref a, rfl, .ref a, .ty "tuple", _, _, true, rfl, .ty _, (Kd.tup hT).ty, kd_tuple (Kd.tup hT), true, rfl, ?_⟩
    refine ⟨.ref a, rfl, a, gs.map V.int, rfl, hT, hTab, fun x hx => ⟨by obtain ⟨i, _, rfl⟩ := List.mem_map.mp hx; exact ⟨_, .int i⟩, (m : Int), rfl⟩, fun H2 t2 => ?_⟩
    have e2 : (gs.map V.int).all (gapAt 1 [some (.ref a), some (.int (m : Int))]) = true := by
      rw [List.all_eq_true]; intro x hx; obtain ⟨i, hi, rfl⟩ := List.mem_map.mp hx
      have := hB i hi
      show decide (0 ≤ i ∧ i ≤ (m : Int) - 2) = true
      exact decide_eq_true ⟨this.1, by omega⟩
    have q2 := q H2 (ex_tab hTab t2)
    rw [← e2] at q2
    exact q2
def spCheckBook (K : PySem.W.Frag) (Pb : Addr) : Sp := fun vs H Q _ => ∃ (a : Addr) (gs : List Int) (m : Nat), vs = [.ref a, .int m] ∧ SqT K H a (gs.map V.int) ∧ TabG H Pb ∧ 1 ≤ m ∧ m ≤ 9 ∧ BookOk m gs ∧ ∀ H', Ex H H' → Q .non H'
theorem d_check_book {Pb : Addr} (F : FnP K "check_book" s_check_book f fd) (g : mg "check_book" = some (.ref f)) (C_is_book : CallD P w K mg base n "is_book" ["thing", "many"] (spBook K Pb)) : CallD P w K mg base (n + 1) "check_book" ["book", "many"] (spCheckBook K Pb) := by
  refine callD F g sc_check_book (fun _ _ _ _ _ _ us hl => match us, hl with | [_, _], _ => rfl) (fun vs H Q E h => ?_) (fun cdv A outer s H vs Q E _ hr hG h => ?_)
  · obtain ⟨a, gs, m, rfl, _⟩ := h; rfl
  · obtain ⟨a, gs, m, rfl, hT, hTab, h1, h9, hB, q⟩ := h
    refine ⟨_, (pss_one (ps_if (pt_not (pt_val (pe_c C_is_book hr hG (pa_cons (pv 0) (pa_cons (pv 1) pa_nil)))))
      (pss_one ps_never)
      pss_nil)), ?_⟩
    exact ⟨_, rfl, _, rfl, a, gs, m, rfl, hT, hTab, h1, h9, hB, fun H' x => ⟨_, rfl, iteF (q H' x)⟩⟩
def spRowOfF : Sp := fun vs H Q _ => ∃ m : Nat, vs = [.int m] ∧ 1 ≤ m ∧ m ≤ 9 ∧ ∀ p H', Ex H H' → FTup H' p ((row0 m).map V.int) → Q (.ref p) H'
theorem d_row_of (F : FnP K "row_of" s_row_of f fd) (g : mg "row_of" = some (.ref f)) (B : Bl mg) (C_check_many : CallD P w K mg base n "check_many" ["many"] spCheckMany) : CallD P w K mg base (n + 1) "row_of" ["many"] spRowOfF := by
  refine callD F g sc_row_of (fun _ _ _ _ _ _ us hl => match us, hl with | [_], _ => rfl) (fun vs H Q E h => ?_) (fun cdv A outer s H vs Q E _ hr hG h => ?_)
  · obtain ⟨m, rfl, _⟩ := h; rfl
  · obtain ⟨m, rfl, h1, h9, q⟩ := h
    refine ⟨_, (pss_cons (ps_expr (pe_c C_check_many hr hG (pa_cons (pv 0) pa_nil)))
      (pss_one (ps_ret (pe_tupRgF rfl (by rfl) B.tuple (prg_1 (by rfl) B.range (pv 0)))))), ?_⟩
    refine ⟨_, rfl, (m : Int), rfl, by omega, by omega, ?_⟩
    refine ⟨_, rfl, _, rfl, RgOk.of_le (Int.le_refl _) (by omega) (by decide) (by omega), fun p H1 x1 np hp => ?_⟩
    rw [show rgV 0 (m : Int) = (row0 m).map V.int from rgV_ints m] at hp
    exact q p H1 x1 hp
def spBookRow (K : PySem.W.Frag) (Pr Pb : Addr) : Sp := fun vs H Q _ => ∃ (a r : Addr) (gs ns : List Int), vs = [.ref a, .ref r] ∧ SqT K H a (gs.map V.int) ∧ SqT K H r (ns.map V.int) ∧ TabG H Pr ∧ TabG H Pb ∧ IsRow ns ∧ BookOk ns.length gs ∧ ∀ H', Ex H H' → Q .non H'
theorem d_check_book_and_row {Pr Pb : Addr} (F : FnP K "check_book_and_row" s_check_book_and_row f fd) (g : mg "check_book_and_row" = some (.ref f)) (B : Bl mg) (C_check_row : CallD P w K mg base n "check_row" ["row"] (spCheckRow K Pr)) (C_check_book : CallD P w K mg base n "check_book" ["book", "many"] (spCheckBook K Pb)) : CallD P w K mg base (n + 1) "check_book_and_row" ["book", "row"] (spBookRow K Pr Pb) := by
  refine callD F g sc_check_book_and_row (fun _ _ _ _ _ _ us hl => match us, hl with | [_, _], _ => rfl) (fun vs H Q E h => ?_) (fun cdv A outer s H vs Q E _ hr hG h => ?_)
  · obtain ⟨a, r, gs, ns, rfl, _⟩ := h; rfl
  · obtain ⟨a, r, gs, ns, rfl, hT, hT2, hPr, hPb, hR, hB, q⟩ := h
    refine ⟨_, (pss_cons (ps_expr (pe_c C_check_row hr hG (pa_cons (pv 1) pa_nil)))
      (pss_one (ps_expr (pe_c C_check_book hr hG (pa_cons (pv 0) (pa_cons (pe_callB (k_len (K := K) rfl) (by rfl) B.len PySem.boot_len (pa_cons (pv 1) pa_nil)) pa_nil)))))), ?_⟩
    refine ⟨_, rfl, r, ns, rfl, hT2, hPr, hR, fun H1 x1 => ?_⟩
    refine ⟨_, rfl, _, rfl, r, _, rfl, .inr (x1.sqt hT2), a, gs, ns.length, by rw [List.length_map]; rfl, x1.sqt hT, x1.tab hPb, hR.1, hR.2.1, hB, fun H2 x2 => q H2 (x1.trans x2)⟩
def spPlaces (Pp : Addr) : Sp := fun vs H Q _ => ∃ (a : Addr) (m : Nat) (fa fb : Nat → Nat), vs = [.ref a] ∧ FTup H a ((ofF m fa).map V.int) ∧ IsInv m fa fb ∧ m ≤ 9 ∧ TabG H Pp ∧ ∀ p H', Ex H H' → FTup H' p ((ofF m fb).map V.int) → Q (.ref p) H'
theorem d_places_of {c Pp : Addr} (F : FnP K "places_of" s_places_of f fd) (g : mg "places_of" = some (.ref f)) (B : Bl mg) (TB : TabB base mg c Pp) (hc : ∀ oc od fd osl, K.lookup f = some ⟨oc, od, .func fd, osl⟩ → fd.code = .ref c) : CallD P w K mg base (n + 1) "places_of" ["row"] (spPlaces Pp) := by
  refine callD F g sc_places_of (fun _ _ _ _ _ _ us hl => match us, hl with | [_], _ => rfl) (fun vs H Q E h => ?_) (fun cdv A outer s H vs Q E hcd0 hr hG h => ?_)
  · obtain ⟨a, m, fa, fb, rfl, _⟩ := h; rfl
  · obtain ⟨a, m, fa, fb, rfl, hT, hI, h9, hTab, q⟩ := h
    have hcd : cdv = .ref c := by
      obtain ⟨oc, od, dV, kV, doc, pm, an, cdv', ct, osl, e1, lk, _⟩ := F.ex
      rw [← hcd0 _ _ _ _ lk]; exact hc _ _ _ _ lk
    subst hcd
    refine ⟨_, (pss_one (ps_ret (pe_tupG (K := K) (ok := okIndex 0) rfl hr (by rfl) B.tuple TB rfl ⟨rfl, rfl, by decide +kernel, rfl, rfl, fun y hy e => free_one (z := "row") (by decide +kernel) rfl y hy e⟩ (pe_callTy cr_range1 (by rfl) B.range (by decide +kernel) (pa_cons (pe_callB (k_len (K := K) rfl) (by rfl) B.len PySem.boot_len (pa_cons (pv 0) pa_nil)) pa_nil)) (elt_index rfl rfl rfl rfl (fun c hc => by cases hc; rfl) rfl rfl) (fun _ => rfl)))), ?_⟩
    refine ⟨_, rfl, a, _, rfl, .inr hT.sqt, ?_⟩
    rw [List.length_map, ofF_len]
    refine ⟨_, rfl, fun p np => ?_⟩
    have x1 : Ex H (upd H p (.rng 0 (m : Int))) := ex_new np
    refine ⟨x1.tab hTab, (List.range m).map (fun (k : Nat) => V.int (k : Int)), (List.range m).map (fun (k : Nat) => some (V.int (fb k : Int))), .inr ⟨p, m, rfl, by omega, upd_same, rfl⟩, by rw [List.length_map, List.length_map], fun j x r hx hr => ?_, by rw [List.length_map, List.length_range]; omega, fun H2 tb u H3 x3 nu hF => ?_⟩
    · rw [List.getElem?_map] at hx hr
      cases e : (List.range m)[j]? with
      | none => rw [e] at hx; cases hx
      | some k =>
        obtain ⟨hk, ek⟩ := List.getElem?_eq_some_iff.mp e
        rw [List.getElem_range] at ek
        rw [e] at hx hr
        cases hx
        cases hr
        have hkm : k < m := by rw [List.length_range] at hk; omega
        obtain ⟨i1, i2⟩ := index_fact hI hkm
        exact ⟨a, ofF m fa, (k : Int), fb k, rfl, hT.ex x1, rfl, i1, fun mm hm h => i2 mm _ hm h rfl, rfl⟩
    · have e : ((List.range m).map fun (k : Nat) => some (V.int (fb k : Int))).filterMap id = (ofF m fb).map V.int := by
        unfold ofF
        rw [List.filterMap_map, List.map_map]
        exact congrFun (List.filterMap_eq_map (f := fun (k : Nat) => V.int ((fb k : Nat) : Int))) (List.range m)
      rw [e] at hF
      exact q u H3 ((x1.trans (ex_tab (x1.tab hTab) tb)).trans x3) hF
def FewV (gs y : List Int) (m : Nat) (H : Hp) (v : V) (H' : Hp) : Prop := (dnL gs y = row0 m → ∃ p, v = .ref p ∧ H p = none ∧ H' p = some (.lst (((tld gs y gs.length).map fun (k : Nat) => (k : Int)).map V.int))) ∧ (dnL gs y ≠ row0 m → v = .non)
def spFewest (K : PySem.W.Frag) (Pr Pb Pp : Addr) : Sp := fun vs H Q _ => ∃ (a r : Addr) (gs : List Int) (m : Nat) (fa fb : Nat → Nat), vs = [.ref a, .ref r] ∧ SqT K H a (gs.map V.int) ∧ FTup H r ((ofF m fa).map V.int) ∧ IsInv m fa fb ∧ 1 ≤ m ∧ m ≤ 9 ∧ BookOk m gs ∧ gs.length ≤ 60 ∧ TabG H Pr ∧ TabG H Pb ∧ TabG H Pp ∧ ∀ v H', Ex H H' → FewV gs (ofF m fb) m H v H' → Q v H'
theorem ne_rows {K : PySem.W.Frag} {H : Hp} {a b : Addr} {ns ms : List Int} (ha : SqT K H a (ns.map V.int)) (hb : SqT K H b (ms.map V.int)) (r1 : IsRow ns) (r2 : IsRow ms) {Q : VK} (q : Q (.bl (!decide (ns = ms))) H) : rNeD K (.ref a) (.ref b) H Q := by
  refine ⟨_, _, dp_row ha, dp_row hb, (nice_row r1).shaped (by decide), (nice_row r2).shaped (by decide), ?_⟩
  rw [eqv_rows]; exact q
theorem d_fewest {Pr Pb Pp : Addr} (F : FnP K "fewest" s_fewest f fd) (g : mg "fewest" = some (.ref f)) (B : Bl mg) (C_check_book_and_row : CallD P w K mg base n "check_book_and_row" ["book", "row"] (spBookRow K Pr Pb)) (C_places_of : CallD P w K mg base n "places_of" ["row"] (spPlaces Pp)) (C_lesser_ahead : CallD P w K mg base n "lesser_ahead" ["row", "gap"] (spLesser K)) (C_swapped : CallD P w K mg base n "swapped" ["row", "gap"] spSwF) (C_row_of : CallD P w K mg base n "row_of" ["many"] spRowOfF) : CallD P w K mg base (n + 1) "fewest" ["book", "row"] (spFewest K Pr Pb Pp) := by
  refine callD F g sc_fewest (fun _ _ _ _ _ _ us hl => match us, hl with | [_, _], _ => rfl) (fun vs H Q E h => ?_) (fun cdv A outer s H vs Q E _ hr hG h => ?_)
  · obtain ⟨a, r, gs, m, fa, fb, rfl, _⟩ := h; rfl
  · obtain ⟨a, r, gs, m, fa, fb, rfl, hT, hF, hI, h1, h9, hB, h60, hPr, hPb, hPp, q⟩ := h
    refine ⟨_, (pss_cons (ps_expr (pe_c C_check_book_and_row hr hG (pa_cons (pv 0) (pa_cons (pv 1) pa_nil))))
      (pss_cons (ps_set (i := 2) sc_fewest.nd rfl (Or.inl rfl) (pe_c C_places_of hr hG (pa_cons (pv 1) pa_nil)))
      (pss_cons (ps_set (i := 3) sc_fewest.nd rfl (Or.inl rfl) (pe_lst pa_nil))
      (pss_cons (ps_for PassesOwn.never rfl (pi_enT (K := K) rfl (by rfl) B.enumerate (pa_cons (pv 0) pa_nil)) (k_tup (K := K) rfl (pg_tup rfl (pgs_cons (pg_name (i := 4) sc_fewest.nd rfl (Or.inl rfl)) (pgs_cons (pg_name (i := 5) sc_fewest.nd rfl (Or.inl rfl)) pgs_nil))))
      (pss_one (ps_if (pt_not (pt_val (pe_c C_lesser_ahead hr hG (pa_cons (pv 2) (pa_cons (pv 5) pa_nil)))))
      (pss_cons (ps_set (i := 2) sc_fewest.nd rfl (Or.inl rfl) (pe_c C_swapped hr hG (pa_cons (pv 2) (pa_cons (pv 5) pa_nil))))
      (pss_one (ps_expr (k_bm (K := K) rfl PySem.F.plainAttrs_list PySem.F.slot_list_append PySem.F.type_list_append mt_append (pv 3) (pa_cons (pv 4) pa_nil)))))
      pss_nil)))
      (pss_cons (ps_if (pt_cmpR (k_ne (K := K) rfl hr.units) (pv 2) (pe_c C_row_of hr hG (pa_cons (pe_callB (k_len (K := K) rfl) (by rfl) B.len PySem.boot_len (pa_cons (pv 1) pa_nil)) pa_nil)) (nomark _))
      (pss_one (ps_ret pe_non))
      pss_nil)
      (pss_one (ps_ret (pv 3)))))))), ?_⟩
    have hR := row_ofF h1 h9 hI
    have hY := row_ofF h1 h9 hI.symm
    refine ⟨_, rfl, _, rfl, a, r, gs, ofF m fa, rfl, hT, hF.sqt, hPr, hPb, hR, by rw [ofF_len]; exact hB, fun H1 x1 => ?_⟩
    refine ⟨_, rfl, r, m, fa, fb, rfl, hF.ex x1, hI, h9, x1.tab hPp, fun l0 H2 x2 hl0 => ?_⟩
    have y2 := x1.trans x2
    refine ⟨Nat.zero_le _, fun ch nch => ?_⟩
    have x3 : Ex H2 (upd H2 ch (.lst [])) := ex_new nch
    have e3 : (upd H2 ch (.lst [])) ch = some (.lst (((tld gs (ofF m fb) 0).map fun (k : Nat) => (k : Int)).map V.int)) := upd_same
    have hl3 := hl0.ex x3
    have y3 := y2.trans x3
    have nchH : H ch = none := y2.fresh nch
    show tSeq _ _ _ _ _
    generalize upd H2 ch (.lst []) = H3 at e3 hl3 y3 ⊢
    have okk := fun i => dnL_ok (gs := gs.take i) (fun x hx => hB x (List.mem_of_mem_take hx)) hY (ofF_len m fb)
    refine ⟨_, rfl, a, _, rfl, y3.sqt hT, for_it (walk_enT (xs := gs.map V.int)) (fun i σ H4 => ∃ (p : Addr) (v4 v5 : Option V), σ = [some (.ref a), some (.ref r), some (.ref p), some (.ref ch), v4, v5] ∧ Ex H H4 ∧ FTup H4 p ((dnL (gs.take i) (ofF m fb)).map V.int) ∧ H4 ch = some (.lst (((tld gs (ofF m fb) i).map fun (k : Nat) => (k : Int)).map V.int))) ⟨l0, none, none, rfl, y3, hl3, e3⟩ (fun i σ H4 _ ⟨_, _, _, _, x, _⟩ => x.sqt hT) ?_ ?_⟩
    · rintro i x σ H4 H4' hi ⟨p, v4, v5, rfl, x4, hp, ech⟩ ⟨T, x', y', rfl, nT, rfl, g1, g2⟩
      rw [List.length_map] at hi
      have g1 : x' = .int (i : Int) := (Option.some.inj g1).symm
      obtain ⟨gp, eg, hg⟩ := book_at hB hi
      have g2 : y' = .int (gp : Int) := by
        have g2 : (gs.map V.int)[i]? = some y' := g2
        rw [row_get hi, eg] at g2; exact (Option.some.inj g2).symm
      subst g1 g2
      have x6 : Ex H4 (upd H4 T (.tup [.int (i : Int), .int (gp : Int)])) := ex_new nT
      have hp := hp.ex x6
      have ech := Ex.lst x6 ech
      have y6 := x4.trans x6
      refine ⟨T, _, rfl, SqT.of upd_same, rfl, _, _, rfl, _, _, rfl, rfl, ?_⟩
      generalize upd H4 T (.tup [.int (i : Int), .int (gp : Int)]) = H6 at hp ech y6 ⊢
      obtain ⟨rr, rl⟩ := okk i
      have egp : gapN gs i = gp := by unfold gapN; rw [eg, Int.toNat_natCast]
      refine ⟨_, rfl, _, rfl, p, _, gp, rfl, hp.sqt, by rw [rl]; exact hg, _, rfl, ?_⟩
      have en := dn_next (y := ofF m fb) hi
      have et := tld_succ gs (ofF m fb) i
      have ha : asc gs (ofF m fb) i ↔ (dnL (gs.take i) (ofF m fb)).getD gp 0 < (dnL (gs.take i) (ofF m fb)).getD (gp + 1) 0 := by unfold asc; rw [egp]
      by_cases hc : asc gs (ofF m fb) i
      · rw [if_pos hc] at en et
        rw [decide_eq_true (ha.mp hc)]
        exact iteF ⟨p, _, _, rfl, y6, by rw [en]; exact hp, by rw [et]; exact ech⟩
      · rw [if_neg hc] at en et
        rw [egp] at en
        rw [decide_eq_false (fun z => hc (ha.mpr z))]
        refine iteT ⟨_, rfl, _, rfl, p, _, gp, rfl, hp, by rw [rl]; exact hg, by rw [rl]; exact h9, fun p2 H7 x7 hp2 => ?_⟩
        have ech7 := Ex.lst x7 ech
        refine ⟨_, rfl, .inl ⟨rfl, _, SqL.of ech7⟩, _, rfl, ch, _, _, rfl, rfl, ech7, small1000 ?_, ?_⟩
        · rw [List.length_map, List.length_map]
          have : (tld gs (ofF m fb) i).length ≤ i := by unfold tld; exact Nat.le_trans (List.length_filter_le _ _) (by rw [List.length_range]; exact Nat.le_refl _)
          omega
        · have x8 : ExB (fun z => z = ch) H7 (upd H7 ch (.lst ((((tld gs (ofF m fb) i).map fun (k : Nat) => (k : Int)).map V.int) ++ [.int (i : Int)]))) := ex_set ech7
          refine ⟨p2, _, _, rfl, (y6.trans x7).then x8 fun z hz => .inl (by rw [show z = ch from hz]; exact nchH), by rw [en]; exact hp2.ex x8, ?_⟩
          rw [et, upd_same, List.map_append, List.map_append]; rfl
    · rintro σ H4 ⟨p, v4, v5, rfl, x4, hp, ech⟩
      rw [List.length_map, List.take_length] at hp
      rw [List.length_map] at ech
      obtain ⟨rr, rl⟩ := okk gs.length
      rw [List.take_length] at rr rl
      refine ⟨_, rfl, _, rfl, r, _, rfl, .inr (x4.sqt hF.sqt), m, by rw [List.length_map, ofF_len]; rfl, h1, h9, fun t H5 x5 ht => ?_⟩
      refine ne_rows (x5.sqt hp.sqt) ht.sqt rr (row0_row h1 h9) ⟨_, rfl, ?_⟩
      by_cases hd : dnL gs (ofF m fb) = row0 m
      · rw [decide_eq_true hd]
        exact iteF ⟨_, rfl, q _ _ (x4.trans x5) ⟨fun _ => ⟨ch, rfl, nchH, Ex.lst x5 ech⟩, fun z => absurd hd z⟩⟩
      · rw [decide_eq_false hd]
        exact iteT (q _ _ (x4.trans x5) ⟨fun z => absurd z hd, fun _ => rfl⟩)
end
end K68
namespace K68
open PySem PySem.Spec PyProof.Rows L2 GxR MM
section
variable {P : Program} {w : World} {K : PySem.W.Frag} {mg : Str → Option Value} {base : Heap} {f : Addr} {fd : FuncData} {n : Nat}
def spFew : Sp := fun vs H Q _ => ∃ i : Int, vs = [.int i] ∧ i ≤ 6 ∧ Q .non H
theorem d_check_few (F : FnP K "check_few" s_check_few f fd) (g : mg "check_few" = some (.ref f)) {tk : Tok} (m_MOST_GONE_THROUGH : mg "MOST_GONE_THROUGH" = some (.int 6 tk)) : CallD P w K mg base (n + 1) "check_few" ["many"] spFew := by
  refine callD F g sc_check_few (fun _ _ _ _ _ _ us hl => match us, hl with | [_], _ => rfl) (fun vs H Q E h => ?_) (fun cdv A outer s H vs Q E _ hr hG h => ?_)
  · obtain ⟨i, rfl, _⟩ := h; rfl
  · obtain ⟨i, rfl, h6, q⟩ := h
    refine ⟨_, (pss_one (ps_if (pt_cmpR op_gt (pv 0) (pe_glob (v := .int 6) (by rfl) m_MOST_GONE_THROUGH ⟨_, rfl⟩) (nomark _))
      (pss_one ps_never)
      pss_nil)), ?_⟩
    refine ⟨_, rfl, _, _, rfl, rfl, _, rfl, ?_⟩
    rw [decide_eq_false (by omega)]
    exact iteF q
def spAsked (K : PySem.W.Frag) (Pr Pb : Addr) : Sp := fun vs H Q _ => ∃ (a r : Addr) (gs ns : List Int), vs = [.ref a, .ref r] ∧ SqT K H a (gs.map V.int) ∧ SqT K H r (ns.map V.int) ∧ TabG H Pr ∧ TabG H Pb ∧ IsRow ns ∧ ns.length ≤ 6 ∧ BookOk ns.length gs ∧ ∀ H', Ex H H' → Q .non H'
theorem d_check_asked {Pr Pb : Addr} (F : FnP K "check_asked" s_check_asked f fd) (g : mg "check_asked" = some (.ref f)) (B : Bl mg) (C_check_book_and_row : CallD P w K mg base n "check_book_and_row" ["book", "row"] (spBookRow K Pr Pb)) (C_check_few : CallD P w K mg base n "check_few" ["many"] spFew) : CallD P w K mg base (n + 1) "check_asked" ["book", "row"] (spAsked K Pr Pb) := by
  refine callD F g sc_check_asked (fun _ _ _ _ _ _ us hl => match us, hl with | [_, _], _ => rfl) (fun vs H Q E h => ?_) (fun cdv A outer s H vs Q E _ hr hG h => ?_)
  · obtain ⟨a, r, gs, ns, rfl, _⟩ := h; rfl
  · obtain ⟨a, r, gs, ns, rfl, hT, hT2, hPr, hPb, hR, h6, hB, q⟩ := h
    refine ⟨_, (pss_cons (ps_expr (pe_c C_check_book_and_row hr hG (pa_cons (pv 0) (pa_cons (pv 1) pa_nil))))
      (pss_one (ps_expr (pe_c C_check_few hr hG (pa_cons (pe_callB (k_len (K := K) rfl) (by rfl) B.len PySem.boot_len (pa_cons (pv 1) pa_nil)) pa_nil))))), ?_⟩
    refine ⟨_, rfl, _, rfl, a, r, gs, ns, rfl, hT, hT2, hPr, hPb, hR, hB, fun H1 x1 => ?_⟩
    refine ⟨_, rfl, r, _, rfl, .inr (x1.sqt hT2), _, rfl, by rw [List.length_map]; omega, q H1 x1⟩
theorem at_neg {xs : List V} {i : Nat} (h : xs.length = i + 1) : atI xs (-1) = xs[i]? := by
  have e : ixN xs.length (-1) = some i := by
    unfold ixN
    rw [if_neg (by decide), if_pos (by omega), show ((-1 : Int) + (xs.length : Int)).toNat = i by omega]
  unfold atI
  rw [e]; rfl
def spCellAt (K : PySem.W.Frag) : Sp := fun vs H Q _ => ∃ (a : Addr) (ns : List Int) (k : Nat), vs = [.ref a, .int k] ∧ SqL K H a (ns.map V.int) ∧ ∀ c : Int, Q (.int c) H
theorem d_law_cell_at (F : FnP K "_law_cell_at" s_law_cell_at f fd) (g : mg "_law_cell_at" = some (.ref f)) (B : Bl mg) : CallD P w K mg base (n + 1) "_law_cell_at" ["script", "k"] (spCellAt K) := by
  refine callD F g sc_law_cell_at (fun _ _ _ _ _ _ us hl => match us, hl with | [_, _], _ => rfl) (fun vs H Q E h => ?_) (fun cdv A outer s H vs Q E _ hr hG h => ?_)
  · obtain ⟨a, ns, k, rfl, _⟩ := h; rfl
  · obtain ⟨a, ns, k, rfl, hS, q⟩ := h
    refine ⟨_, (pss_cons (ps_if (pt_cmpR op_lt (pv 1) (pe_callB (k_len (K := K) rfl) (by rfl) B.len PySem.boot_len (pa_cons (pv 0) pa_nil)) (nomark _))
      (pss_one (ps_ret (pe_ix (k_ixl (K := K) rfl) (pv 0) (pv 1) (fun _ _ => rfl))))
      pss_nil)
      (pss_one (ps_ret pe_int))), ?_⟩
    refine ⟨_, rfl, _, rfl, a, _, rfl, .inl hS, _, _, rfl, rfl, _, rfl, ?_⟩
    rw [List.length_map]
    by_cases hlt : (k : Int) < (ns.length : Int)
    · rw [decide_eq_true hlt]
      exact iteT ⟨_, rfl, _, rfl, a, _, _, _, rfl, rfl, hS, at_of rfl (row_get (k := k) (by omega)), q _⟩
    · rw [decide_eq_false hlt]
      exact iteF (q 0)
def spBag : Sp := fun vs H Q _ => ∃ (c k : Int), vs = [.int c, .int k] ∧ 0 ≤ k ∧ k ≤ 1000 ∧ ∀ b H', Ex H H' → H b = none → Bag 0 H' b → Q (.ref b) H'
theorem d_law_bag (F : FnP K "_law_bag" s_law_bag f fd) (g : mg "_law_bag" = some (.ref f)) (B : Bl mg) : CallD P w K mg base (n + 1) "_law_bag" ["cell", "k"] spBag := by
  refine callD F g sc_law_bag (fun _ _ _ _ _ _ us hl => match us, hl with | [_, _], _ => rfl) (fun vs H Q E h => ?_) (fun cdv A outer s H vs Q E _ hr hG h => ?_)
  · obtain ⟨c, k, rfl, _⟩ := h; rfl
  · obtain ⟨cell, k, rfl, hk0, hk1, q⟩ := h
    refine ⟨_, (pss_one (ps_ret (pe_lst (pa_cons (pe_callB (call_max2 rfl) (by rfl) B.max (by decide +kernel) (pa_cons pe_int (pa_cons (pe_op op_sub (pv 0) (pe_op op_powW pe_int pe_int)) pa_nil))) (pa_cons (pe_op op_add (pe_op op_mod (pv 0) pe_int) (pe_op op_mulW pe_int (pe_op op_add (pv 1) pe_int))) (pa_cons pe_int pa_nil)))))), ?_⟩
    have pw2 : CPowW 10 18 := pow_ok (k := 200) (by decide) (by decide) (by decide)
    refine ⟨_, rfl, 10, 18, rfl, rfl, pw2, _, _, rfl, rfl, _, _, rfl, ?_⟩
    refine ⟨_, rfl, _, _, rfl, rfl, by show (0 : Int) < 162259276829213363391578010288127; decide, _, rfl, _, _, rfl, rfl, 9311, k + 1, rfl, rfl, mulW_small (by decide) (Nat.lt_of_le_of_lt (show (k + 1).natAbs ≤ 1001 by omega) (by decide)), _, _, rfl, rfl, by show 3 ≤ sizeLine; decide, fun b nb => ?_⟩
    refine q b _ (ex_new nb) nb ⟨_, _, _, upd_same, ?_, ?_, ?_, Int.le_refl _, Int.le_refl _⟩
    · exact max_nn _
    · have h1 : 0 ≤ cell % 162259276829213363391578010288127 := Int.emod_nonneg _ (by decide)
      show 0 ≤ cell % 162259276829213363391578010288127 + 9311 * (k + 1)
      omega
    · have h1 : cell % 162259276829213363391578010288127 < 162259276829213363391578010288127 := Int.emod_lt_of_pos _ (by decide)
      show cell % 162259276829213363391578010288127 + 9311 * (k + 1) < 10 ^ 40
      have h2 : (162259276829213363391578010288127 : Int) + 9311 * 1001 ≤ 10 ^ 40 := by decide
      omega
def spTake : Sp := fun vs H Q _ => ∃ (b : Addr) (wd : Int) (m : Nat), vs = [.ref b, .int wd] ∧ Bag m H b ∧ m < 1000000 ∧ 1 ≤ wd ∧ wd ≤ 1000000 ∧ ∀ (v : Int) H', 0 ≤ v → v < wd → ExB (At1 b) H H' → Bag (m + 1) H' b → Q (.int v) H'
theorem d_law_take (F : FnP K "_law_take" s_law_take f fd) (g : mg "_law_take" = some (.ref f)) : CallD P w K mg base (n + 1) "_law_take" ["bag", "size"] spTake := by
  refine callD F g sc_law_take (fun _ _ _ _ _ _ us hl => match us, hl with | [_, _], _ => rfl) (fun vs H Q E h => ?_) (fun cdv A outer s H vs Q E _ hr hG h => ?_)
  · obtain ⟨b, wd, m, rfl, _⟩ := h; rfl
  · obtain ⟨b, wd, m, rfl, ⟨x, y, z, eb, hx, hy, hy2, hz, hz2⟩, hm, hw1, hw2, q⟩ := h
    refine ⟨_, (pss_cons (ps_if (pt_cmpR op_gt (pe_ix (k_ixl (K := K) rfl) (pv 0) pe_int (fun _ _ => rfl)) pe_int (nomark _))
      (pss_cons (ps_set (i := 2) sc_law_take.nd rfl (Or.inl rfl) (pe_op op_mod (pe_ix (k_ixl (K := K) rfl) (pv 0) pe_int (fun _ _ => rfl)) (pv 1)))
      (pss_cons (ps_asg (pe_op op_fdivW (pe_ix (k_ixl (K := K) rfl) (pv 0) pe_int (fun _ _ => rfl)) (pv 1)) (pg_sub (pv 0) pe_int set_list))
      (pss_one (ps_ret (pv 2)))))
      pss_nil)
      (pss_cons (ps_asg (pe_op op_add (pe_ix (k_ixl (K := K) rfl) (pv 0) pe_int (fun _ _ => rfl)) pe_int) (pg_sub (pv 0) pe_int set_list))
      (pss_cons (ps_set (i := 3) sc_law_take.nd rfl (Or.inl rfl) (pe_op op_mod (pe_op op_powW (pe_op op_add (pe_ix (k_ixl (K := K) rfl) (pv 0) pe_int (fun _ _ => rfl)) (pe_op op_mulW pe_int (pe_ix (k_ixl (K := K) rfl) (pv 0) pe_int (fun _ _ => rfl)))) pe_int) pe_int))
      (pss_cons (ps_set (i := 3) sc_law_take.nd rfl (Or.inl rfl) (pe_op op_mod (pe_op op_powW (pe_op op_add (pv 3) (pe_op op_mulW pe_int (pe_ix (k_ixl (K := K) rfl) (pv 0) pe_int (fun _ _ => rfl)))) pe_int) pe_int))
      (pss_one (ps_ret (pe_op op_mod (pe_op op_fdivW (pv 3) pe_int) (pv 1)))))))), ?_⟩
    have w9 : wd < 10 ^ 9 := by have : (10 : Int) ^ 9 = 1000000000 := by decide
                                omega
    refine ⟨_, rfl, b, _, _, _, rfl, rfl, SqL.of eb, rfl, _, _, rfl, rfl, _, rfl, ?_⟩
    by_cases hp : 1 < x
    · rw [decide_eq_true hp]
      refine iteT ⟨_, rfl, b, _, _, _, rfl, rfl, SqL.of eb, rfl, _, rfl, _, _, rfl, rfl, by show (0 : Int) < wd; omega, ?_⟩
      refine ⟨_, rfl, b, _, _, _, rfl, rfl, SqL.of eb, rfl, _, rfl, _, _, rfl, rfl, divW_small (by omega) w9, _, rfl, b, _, _, 0, rfl, rfl, eb, rfl, ?_⟩
      refine ⟨_, rfl, q _ _ (Int.emod_nonneg _ (by omega)) (Int.emod_lt_of_pos _ (by omega)) (ex_set eb) ⟨_, _, _, upd_same, Int.ediv_nonneg hx (by omega), hy, hy2, hz, by omega⟩⟩
    · rw [decide_eq_false hp]
      refine iteF ⟨_, rfl, b, _, _, _, rfl, rfl, SqL.of eb, rfl, _, _, rfl, rfl, _, rfl, b, _, _, 2, rfl, rfl, eb, rfl, ?_⟩
      have x1 : ExB (At1 b) H (upd H b (.lst [.int x, .int y, .int (z + 1)])) := ex_set eb
      have e1 : (upd H b (.lst [.int x, .int y, .int (z + 1)])) b = some (.lst [.int x, .int y, .int (z + 1)]) := upd_same
      show tSeq _ _ _ _ (upd H b (.lst [.int x, .int y, .int (z + 1)]))
      generalize upd H b (.lst [.int x, .int y, .int (z + 1)]) = H1 at x1 e1 ⊢
      have m1 : CMulW 1299757 (z + 1) := mulW_small (by decide) (Nat.lt_of_le_of_lt (show (z + 1).natAbs ≤ 1000001 by omega) (by decide))
      have m2 : CMulW 15485927 (z + 1) := mulW_small (by decide) (Nat.lt_of_le_of_lt (show (z + 1).natAbs ≤ 1000001 by omega) (by decide))
      have p1 : CPowW (y + 1299757 * (z + 1)) 3 := mix_ok hy hy2 (by omega) (by omega) (by decide) (by decide) (by decide) (by decide)
      refine ⟨_, rfl, b, _, _, _, rfl, rfl, SqL.of e1, rfl, _, rfl, b, _, _, _, rfl, rfl, SqL.of e1, rfl, _, _, rfl, rfl, m1, _, _, rfl, rfl, _, _, rfl, rfl, p1, _, _, rfl, rfl, by show (0 : Int) < 162259276829213363391578010288127; decide, ?_⟩
      have r0 : 0 ≤ (y + 1299757 * (z + 1)) ^ 3 % 162259276829213363391578010288127 := Int.emod_nonneg _ (by decide)
      have r1 : (y + 1299757 * (z + 1)) ^ 3 % 162259276829213363391578010288127 < 10 ^ 40 := Int.lt_trans (Int.emod_lt_of_pos _ (by decide)) (by decide)
      generalize hmx : (y + 1299757 * (z + 1)) ^ 3 % 162259276829213363391578010288127 = mx at r0 r1
      have emx : (y + 1299757 * (z + 1)) ^ (3 : Int).toNat % 162259276829213363391578010288127 = mx := hmx
      show tSeq _ _ _ [_, _, _, some (V.int ((y + 1299757 * (z + 1)) ^ (3 : Int).toNat % 162259276829213363391578010288127))] _
      rw [emx]
      have p2 : CPowW (mx + 15485927 * (z + 1)) 5 := mix_ok r0 r1 (by omega) (by omega) (by decide) (by decide) (by decide) (by decide)
      refine ⟨_, rfl, _, rfl, b, _, _, _, rfl, rfl, SqL.of e1, rfl, _, _, rfl, rfl, m2, _, _, rfl, rfl, _, _, rfl, rfl, p2, _, _, rfl, rfl, by show (0 : Int) < 618970019642690137449562111; decide, ?_⟩
      refine ⟨_, rfl, _, _, rfl, rfl, divW_small (by decide) (by decide), _, rfl, _, _, rfl, rfl, by show (0 : Int) < wd; omega, ?_⟩
      exact q _ _ (Int.emod_nonneg _ (by omega)) (Int.emod_lt_of_pos _ (by omega)) x1 ⟨_, _, _, e1, hx, hy, hy2, by omega, by omega⟩
def spChangedF : Sp := fun vs H Q _ => ∃ (a : Addr) (ns : List Int) (g : Nat), vs = [.ref a, .int g] ∧ FTup H a (ns.map V.int) ∧ g + 1 < ns.length ∧ ns.length ≤ 9 ∧ ∀ p H', Ex H H' → FTup H' p ((swL ns g).map V.int) → Q (.ref p) H'
theorem d_law_changed (F : FnP K "_law_changed" s_law_changed f fd) (g : mg "_law_changed" = some (.ref f)) : CallD P w K mg base (n + 1) "_law_changed" ["line", "spot"] spChangedF := by
  refine callD F g sc_law_changed (fun _ _ _ _ _ _ us hl => match us, hl with | [_, _], _ => rfl) (fun vs H Q E h => ?_) (fun cdv A outer s H vs Q E _ hr hG h => ?_)
  · obtain ⟨a, ns, g, rfl, _⟩ := h; rfl
  · obtain ⟨a, ns, g, rfl, hT, hg, h9, q⟩ := h
    refine ⟨_, (pss_one (ps_ret (pe_op k_catF (pe_op k_catF (pe_slice k_slF (pv 0) po_none (po_some (pv 1))) (pe_tupF (pa_cons (pe_ix (k_ixt (K := K) rfl) (pv 0) (pe_op op_add (pv 1) pe_int) (fun _ _ => rfl)) (pa_cons (pe_ix (k_ixt (K := K) rfl) (pv 0) (pv 1) (fun _ _ => rfl)) pa_nil)))) (pe_slice k_slF (pv 0) (po_some (pe_op op_add (pv 1) pe_int)) po_none)))), ?_⟩
    have sl : sizeLine = 16777216 := by decide
    refine ⟨_, rfl, _, rfl, _, rfl, a, _, rfl, hT, fun p1 H1 x1 h1 => ?_⟩
    rw [cutV_to] at h1
    have eg : (g : Int) + 1 = ((g + 1 : Nat) : Int) := by omega
    refine ⟨_, rfl, _, rfl, _, _, rfl, rfl, a, _, _, _, rfl, rfl, (hT.ex x1).sqt, by rw [eg]; exact at_of (by omega) (row_get hg), ?_⟩
    refine ⟨_, rfl, _, rfl, a, _, _, _, rfl, rfl, (hT.ex x1).sqt, at_of (by omega) (row_get (k := g) (by omega)), by show 2 ≤ sizeLine; decide, fun t H2 x2 nt ht => ?_⟩
    refine ⟨p1, t, _, _, rfl, rfl, h1.ex x2, ht, by rw [List.length_take, List.length_map, sl]; simp; omega, fun p3 H3 x3 h3 => ?_⟩
    refine ⟨_, rfl, _, rfl, _, _, rfl, rfl, _, rfl, a, _, rfl, (hT.ex x1).ex (x2.trans x3), fun p4 H4 x4 h4 => ?_⟩
    rw [show (g : Int) + 2 = ((g + 2 : Nat) : Int) by omega, cutV_from] at h4
    refine ⟨p3, p4, _, _, rfl, rfl, h3.ex x4, h4, by simp [sl]; omega, fun p5 H5 x5 h5 => ?_⟩
    refine q p5 H5 ((((x1.trans x2).trans x3).trans x4).trans x5) ?_
    unfold swL
    rw [List.map_append, List.map_append, List.map_take, List.map_drop]
    exact h5
def spPlan (K : PySem.W.Frag) : Sp := fun vs H Q _ => ∃ (b : Addr) (sz lo : Nat) (m : Nat), vs = [.ref b, .int sz, .int lo] ∧ Bag m H b ∧ m + 200 < 1000000 ∧ 1 ≤ sz ∧ sz ≤ 9 ∧ lo ≤ 41 ∧
  ∀ p (gs : List Int) H', BookOk sz gs → gs.length ≤ lo → ExB (At1 b) H H' → H' p = some (.tup (gs.map V.int)) → Bag (m + 100) H' b → Q (.ref p) H'
theorem d_law_plan (F : FnP K "_law_plan" s_law_plan f fd) (g : mg "_law_plan" = some (.ref f)) (B : Bl mg) (C_law_take : CallD P w K mg base n "_law_take" ["bag", "size"] spTake) : CallD P w K mg base (n + 1) "_law_plan" ["bag", "size", "long"] (spPlan K) := by
  refine callD F g sc_law_plan (fun _ _ _ _ _ _ us hl => match us, hl with | [_, _, _], _ => rfl) (fun vs H Q E h => ?_) (fun cdv A outer s H vs Q E _ hr hG h => ?_)
  · obtain ⟨b, sz, mo, m, rfl, _⟩ := h; rfl
  · obtain ⟨b, sz, lo, m, rfl, hB, hm, h1, h9, h41, q⟩ := h
    refine ⟨_, (pss_cons (ps_if (pt_cmpR op_lt (pv 1) pe_int (nomark _))
      (pss_one (ps_ret (pe_tup pa_nil)))
      pss_nil)
      (pss_cons (ps_set (i := 3) sc_law_plan.nd rfl (Or.inl rfl) (pe_c C_law_take hr hG (pa_cons (pv 0) (pa_cons pe_int pa_nil))))
      (pss_cons (ps_set (i := 4) sc_law_plan.nd rfl (Or.inl rfl) (pe_lst (pa_cons (pe_c C_law_take hr hG (pa_cons (pv 0) (pa_cons (pe_op op_sub (pv 1) pe_int) pa_nil))) (pa_cons (pe_c C_law_take hr hG (pa_cons (pv 0) (pa_cons (pe_op op_sub (pv 1) pe_int) pa_nil))) pa_nil))))
      (pss_cons (ps_set (i := 5) sc_law_plan.nd rfl (Or.inl rfl) (pe_lst pa_nil))
      (pss_cons (ps_for PassesOwn.never rfl (pi_range1 rfl B.range (pa_cons (pv 2) pa_nil)) (pg_name (i := 6) sc_law_plan.nd rfl (Or.inl rfl))
      (pss_cons (ps_set (i := 7) sc_law_plan.nd rfl (Or.inl rfl) (pe_c C_law_take hr hG (pa_cons (pv 0) (pa_cons (pe_op op_sub (pv 1) pe_int) pa_nil))))
      (pss_cons (ps_if (PW.pt (pw_and (pt_cmpR op_eq (pv 3) pe_int (nomark _)) (pw_and1 (pt_cmpR (k_ne (K := K) rfl hr.units) (pv 5) (pe_lst pa_nil) (nomark _)))))
      (pss_one (ps_set (i := 7) sc_law_plan.nd rfl (Or.inl rfl) (pe_op op_mod (pe_op op_add (pe_ix (k_ixl (K := K) rfl) (pv 5) (pe_un un_neg pe_int) (fun _ _ => rfl)) (pe_ix (k_ixl (K := K) rfl) (pe_lst (pa_cons pe_int (pa_cons (pe_op op_sub (pv 1) pe_int) (pa_cons pe_int (pa_cons pe_int pa_nil))))) (pe_c C_law_take hr hG (pa_cons (pv 0) (pa_cons pe_int pa_nil))) (fun _ _ => rfl))) (pe_op op_sub (pv 1) pe_int))))
      pss_nil)
      (pss_cons (ps_if (pt_cmpR op_eq (pv 3) pe_int (nomark _))
      (pss_one (ps_set (i := 7) sc_law_plan.nd rfl (Or.inl rfl) (pe_ix (k_ixl (K := K) rfl) (pv 4) (pe_op op_mod (pv 7) pe_int) (fun _ _ => rfl))))
      pss_nil)
      (pss_cons (ps_if (pt_cmpR op_eq (pv 3) pe_int (nomark _))
      (pss_one (ps_set (i := 7) sc_law_plan.nd rfl (Or.inl rfl) (pe_op op_mod (pe_op op_sub (pe_op op_sub (pv 1) pe_int) (pv 6)) (pe_op op_sub (pv 1) pe_int))))
      pss_nil)
      (pss_one (ps_expr (k_bm (K := K) rfl PySem.F.plainAttrs_list PySem.F.slot_list_append PySem.F.type_list_append mt_append (pv 5) (pa_cons (pv 7) pa_nil)))))))))
      (pss_one (ps_ret (k_tupOf (K := K) rfl (by rfl) B.tuple (pv 5))))))))), ?_⟩
    have sl : sizeLine = 16777216 := by decide
    refine ⟨_, rfl, _, _, rfl, rfl, _, rfl, ?_⟩
    by_cases hs : (sz : Int) < 2
    · rw [decide_eq_true hs]
      refine iteT ⟨Nat.zero_le _, fun p np => ?_⟩
      have x1 : Ex H (upd H p (.tup [])) := ex_new np
      exact q p [] _ (fun _ h => nomatch h) (Nat.zero_le _) x1.of upd_same ((hB.ex x1).mono (by omega))
    · rw [decide_eq_false hs]
      refine iteF ?_
      -- kind, spots, found
      refine ⟨_, rfl, b, 5, m, rfl, hB, by omega, by decide, by decide, fun kind H1 k0 k1 x1 B1 => ?_⟩
      refine ⟨_, rfl, _, rfl, _, _, rfl, rfl, b, _, m + 1, rfl, B1, by omega, by omega, by omega, fun s1 H2 s10 s11 x2 B2 => ?_⟩
      refine ⟨_, rfl, _, rfl, _, _, rfl, rfl, b, _, m + 2, rfl, B2, by omega, by omega, by omega, fun s2 H3 s20 s21 x3 B3 => ?_⟩
      refine ⟨by show 2 ≤ sizeLine; decide, fun sp nsp => ?_⟩
      have x4 : Ex H3 (upd H3 sp (.lst [.int s1, .int s2])) := ex_new nsp
      have esp : (upd H3 sp (.lst [.int s1, .int s2])) sp = some (.lst [.int s1, .int s2]) := upd_same
      have B4 := B3.ex x4
      have bsp : b ≠ sp := fun z => by obtain ⟨_, _, _, e, _⟩ := B3; rw [z, nsp] at e; cases e
      have y4 : ExB (At1 b) H (upd H3 sp (.lst [.int s1, .int s2])) := ((x1.trans x2).trans x3).trans x4.of
      show tSeq _ _ _ _ _
      generalize upd H3 sp (.lst [.int s1, .int s2]) = H4 at esp B4 y4 ⊢
      refine ⟨Nat.zero_le _, fun fo nfo => ?_⟩
      have x5 : Ex H4 (upd H4 fo (.lst [])) := ex_new nfo
      have efo : (upd H4 fo (.lst [])) fo = some (.lst (([] : List Int).map V.int)) := upd_same
      have bfo : b ≠ fo := fun z => by obtain ⟨_, _, _, e, _⟩ := B4; rw [z, nfo] at e; cases e
      have spfo : sp ≠ fo := fun z => by rw [z, nfo] at esp; cases esp
      have nfoH : H fo = none := y4.fresh nfo
      have esp := Ex.lst x5 esp
      have B5 := B4.ex x5
      have y5 := y4.trans x5.of
      show tSeq _ _ _ _ _
      generalize upd H4 fo (.lst []) = H5 at esp efo B5 y5 ⊢
      -- for k in range(long)
      refine ⟨_, rfl, _, rfl, by omega, by omega, ?_⟩
      rw [Int.toNat_natCast]
      refine for_it walk_range (fun i σ H6 => ∃ (gs : List Int) (v6 v7 : Option V), σ = [some (.ref b), some (.int sz), some (.int lo), some (.int kind), some (.ref sp), some (.ref fo), v6, v7] ∧ ExB (At1 b) H H6 ∧ H6 fo = some (.lst (gs.map V.int)) ∧ H6 sp = some (.lst [.int s1, .int s2]) ∧ BookOk sz gs ∧ gs.length = i ∧ Bag (m + 3 + 2 * i) H6 b) ⟨[], none, none, rfl, y5, efo, esp, (fun _ h => nomatch h), rfl, B5⟩ (fun _ _ _ _ _ => trivial) ?_ ?_
      · rintro i x σ H6 H6' hi ⟨gs, v6, v7, rfl, y6, efo, esp, hgs, hlen, B6⟩ ⟨rfl, rfl⟩
        -- spot
        refine ⟨_, rfl, _, rfl, _, _, rfl, rfl, b, _, m + 3 + 2 * i, rfl, B6, by omega, by omega, by omega, fun u H7 u0 u1 x7 B7 => ?_⟩
        have efo := x7.lst efo (fun z => bfo z.symm)
        have esp := x7.lst esp (fun z => bsp z.symm)
        have y7 := y6.trans x7
        apply later2 (R := fun u H' => (0 ≤ u ∧ u + 1 < sz) ∧ ExB (At1 b) H H' ∧ H' fo = some (.lst (gs.map V.int)) ∧ H' sp = some (.lst [.int s1, .int s2]) ∧ Bag (m + 3 + 2 * i + 2) H' b)
        · intro rest
          generalize hu' : u = u'
          rw [hu'] at u0 u1
          refine ⟨_, rfl, rfl, _, rfl, ?_⟩
          by_cases hk : kind = 1
          · rw [decide_eq_true (show V.int kind = V.int 1 by rw [hk])]
            refine iteT ⟨_, rfl, Nat.zero_le _, fun z nz => ?_⟩
            have x8 : Ex H7 (upd H7 z (.lst [])) := ex_new nz
            have D1 : Dp K (upd H7 z (.lst [])) (.ref fo) (.list (gs.map PyData.int)) := dp_ints (SqL.of (Ex.lst x8 efo))
            have D2 : Dp K (upd H7 z (.lst [])) (.ref z) (.list (([] : List Int).map PyData.int)) := dp_ints (ns := []) (SqL.of upd_same)
            have n1 : Nice 1 (41 * 53 + 3) (.list (gs.map PyData.int)) := nice_list (nice_ints fun w hw => by have := hgs w hw; omega) (by rw [List.length_map]; omega)
            have n0 : Nice 1 (0 * (0 + 2) + 3) (.list (([] : List Int).map PyData.int)) := nice_list (k := 0) (fun _ h => nomatch h) (Nat.le_refl _)
            refine ⟨_, _, D1, D2, n1.shaped (by decide), n0.shaped (by decide), _, rfl, ?_⟩
            rw [eqv_ints]
            have efo8 := Ex.lst x8 efo
            have esp8 := Ex.lst x8 esp
            have B8 := B7.ex x8
            have y8 := y7.trans x8.of
            generalize upd H7 z (.lst []) = H8 at efo8 esp8 B8 y8 ⊢
            by_cases hg0 : gs = []
            · rw [decide_eq_true hg0]
              exact iteF (rest u' H8 ⟨⟨u0, by omega⟩, y8, efo8, esp8, B8.mono (by omega)⟩)
            · rw [decide_eq_false hg0]
              obtain ⟨i', hi'⟩ : ∃ i', gs.length = i' + 1 := ⟨gs.length - 1, by have hne : gs.length ≠ 0 := (fun z => hg0 (List.length_eq_zero_iff.mp z)); omega⟩
              have gl : (gs.map V.int)[i']? = some (.int (gs.getD i' 0)) := row_get (by omega)
              refine iteT ⟨_, rfl, 1, rfl, fo, _, _, _, rfl, rfl, SqL.of efo8, (at_neg (by rw [List.length_map]; exact hi')).trans gl, ?_⟩
              refine ⟨_, rfl, _, _, rfl, rfl, by show 4 ≤ sizeLine; decide, fun l nl => ?_⟩
              have x9 : Ex H8 (upd H8 l (.lst [.int 1, .int ((sz : Int) - 2), .int 1, .int 0])) := ex_new nl
              have el : (upd H8 l (.lst [.int 1, .int ((sz : Int) - 2), .int 1, .int 0])) l = some (.lst [.int 1, .int ((sz : Int) - 2), .int 1, .int 0]) := upd_same
              have bl : b ≠ l := fun z => by obtain ⟨_, _, _, e, _⟩ := B8; rw [z, nl] at e; cases e
              have efo9 := Ex.lst x9 efo8
              have esp9 := Ex.lst x9 esp8
              have B9 := B8.ex x9
              have y9 := y8.trans x9.of
              show ∃ v, _
              generalize upd H8 l (.lst [.int 1, .int ((sz : Int) - 2), .int 1, .int 0]) = H9 at el efo9 esp9 B9 y9 ⊢
              refine ⟨_, rfl, b, 4, m + 3 + 2 * i + 1, rfl, B9, by omega, by decide, by decide, fun t H10 t0 t1 x10 B10 => ?_⟩
              have el := x10.lst el (fun z => bl z.symm)
              have hat : ∃ v : Int, atI [V.int 1, .int ((sz : Int) - 2), .int 1, .int 0] t = some (.int v) := by
                rcases (by omega : t = 0 ∨ t = 1 ∨ t = 2 ∨ t = 3) with h | h | h | h <;> subst h <;> exact ⟨_, rfl⟩
              obtain ⟨v, hat⟩ := hat
              refine ⟨l, _, _, _, rfl, rfl, SqL.of el, hat, _, _, rfl, rfl, _, rfl, _, _, rfl, rfl, _, _, rfl, rfl, by show (0 : Int) < (sz : Int) - 1; omega, ?_⟩
              refine rest _ H10 ⟨⟨Int.emod_nonneg _ (by omega), ?_⟩, y9.trans x10, x10.lst efo9 (fun z => bfo z.symm), x10.lst esp9 (fun z => bsp z.symm), B10.mono (by omega)⟩
              have := Int.emod_lt_of_pos (gs.getD i' 0 + v) (show (0 : Int) < (sz : Int) - 1 by omega)
              show (gs.getD i' 0 + v) % ((sz : Int) - 1) + 1 < sz
              omega
          · rw [decide_eq_false (show ¬ V.int kind = V.int 1 by intro z; injection z with z; exact hk z)]
            exact iteF (iteF (rest u' H7 ⟨⟨u0, by omega⟩, y7, efo, esp, B7.mono (by omega)⟩))
        rintro u8 H8 ⟨⟨u80, u81⟩, y8, efo, esp, B8⟩
        apply later1 (R := fun u => 0 ≤ u ∧ u + 1 < sz)
        · intro rest
          generalize hu' : u8 = u'
          rw [hu'] at u80 u81
          refine ⟨_, rfl, rfl, _, rfl, ?_⟩
          by_cases hk : ¬ kind = 2
          · rw [decide_eq_false (show ¬ V.int kind = V.int 2 by intro z; injection z with z; exact hk z)]
            exact iteF (rest u' ⟨by omega, by omega⟩)
          · have hk : kind = 2 := Decidable.not_not.mp hk
            rw [decide_eq_true (show V.int kind = V.int 2 by rw [hk])]
            have hat : ∃ v : Int, atI [V.int s1, .int s2] (u' % 2) = some (.int v) ∧ 0 ≤ v ∧ v + 1 < sz := by
              rcases (by omega : u' % 2 = 0 ∨ u' % 2 = 1) with h | h <;> rw [h]
              · exact ⟨s1, rfl, s10, by omega⟩
              · exact ⟨s2, rfl, s20, by omega⟩
            obtain ⟨v, hat, v0, v1⟩ := hat
            exact iteT ⟨_, rfl, _, rfl, _, _, rfl, rfl, by show (0 : Int) < 2; decide, sp, _, _, _, rfl, rfl, SqL.of esp, hat, rest v ⟨v0, v1⟩⟩
        rintro u9 ⟨u90, u91⟩
        apply later1 (R := fun u => 0 ≤ u ∧ u + 1 < sz)
        · intro rest
          generalize hu' : u9 = u'
          rw [hu'] at u90 u91
          refine ⟨_, rfl, rfl, _, rfl, ?_⟩
          by_cases hk : ¬ kind = 3
          · rw [decide_eq_false (show ¬ V.int kind = V.int 3 by intro z; injection z with z; exact hk z)]
            exact iteF (rest u' ⟨by omega, by omega⟩)
          · have hk : kind = 3 := Decidable.not_not.mp hk
            rw [decide_eq_true (show V.int kind = V.int 3 by rw [hk])]
            refine iteT ⟨_, rfl, _, _, rfl, rfl, _, rfl, _, _, rfl, rfl, _, rfl, _, _, rfl, rfl, _, _, rfl, rfl, by show (0 : Int) < (sz : Int) - 1; omega, rest _ ⟨Int.emod_nonneg _ (by omega), ?_⟩⟩
            have := Int.emod_lt_of_pos ((sz : Int) - 2 - (0 + (i : Int))) (show (0 : Int) < (sz : Int) - 1 by omega)
            show ((sz : Int) - 2 - (0 + (i : Int))) % ((sz : Int) - 1) + 1 < sz
            omega
        rintro ua ⟨ua0, ua1⟩
        -- found.append(spot)
        refine ⟨_, rfl, .inl ⟨rfl, _, SqL.of efo⟩, _, rfl, fo, _, _, rfl, rfl, efo, small1000 (by rw [List.length_map]; omega), ?_⟩
        have x11 : ExB (fun z => z = fo) H8 (upd H8 fo (.lst (gs.map V.int ++ [.int ua]))) := ex_set efo
        refine ⟨gs ++ [ua], _, _, rfl, y8.then x11 fun z hz => .inl (by rw [show z = fo from hz]; exact nfoH), by rw [upd_same, List.map_append]; rfl, x11.lst esp spfo, fun y hy => ?_, by rw [List.length_append, hlen]; rfl, (B8.exB x11 bfo).mono (by omega)⟩
        rcases List.mem_append.mp hy with z | z
        · exact hgs y z
        · rw [List.mem_singleton.mp z]; exact ⟨ua0, by omega⟩
      · rintro σ H6 ⟨gs, v6, v7, rfl, y6, efo, esp, hgs, hlen, B6⟩
        refine ⟨_, rfl, fo, _, rfl, .inl ⟨SqL.of efo, fun p H7 x7 np e7 => ?_⟩⟩
        exact q p gs H7 hgs (by omega) (y6.trans x7.of) e7 ((B6.mono (by omega)).ex x7)
end
end K68
namespace K68
open PySem PySem.Spec PyProof.Rows L2 GxR MM
section
variable {P : Program} {w : World} {K : PySem.W.Frag} {mg : Str → Option Value} {base : Heap} {f : Addr} {fd : FuncData} {n : Nat}
theorem row0_take {m i : Nat} (h : i < m) : (row0 m).take (i + 1) = (row0 m).take i ++ [(i : Int)] := ofF_take (a := id) h
def spDrawnC (K : PySem.W.Frag) : Sp := fun vs H Q _ => ∃ (b a : Addr) (gs : List Int) (sz : Nat) (m : Nat), vs = [.ref b, .ref a, .int sz] ∧ Bag m H b ∧ m + 100 < 1000000 ∧ SqT K H a (gs.map V.int) ∧ 1 ≤ sz ∧ sz ≤ 9 ∧ BookOk sz gs ∧ gs.length ≤ 41 ∧
  ∀ p (ns : List Int) H', IsRow ns → ns.length = sz → Come sz gs gs.length ns → ExB (At1 b) H H' → FTup H' p (ns.map V.int) → Bag (m + 42) H' b → Q (.ref p) H'
theorem d_law_drawn_end (F : FnP K "_law_drawn_end" s_law_drawn_end f fd) (g : mg "_law_drawn_end" = some (.ref f)) (B : Bl mg) (C_law_take : CallD P w K mg base n "_law_take" ["bag", "size"] spTake) (C_law_changed : CallD P w K mg base n "_law_changed" ["line", "spot"] spChangedF) : CallD P w K mg base (n + 1) "_law_drawn_end" ["bag", "plan", "size"] (spDrawnC K) := by
  refine callD F g sc_law_drawn_end (fun _ _ _ _ _ _ us hl => match us, hl with | [_, _, _], _ => rfl) (fun vs H Q E h => ?_) (fun cdv A outer s H vs Q E _ hr hG h => ?_)
  · obtain ⟨b, a, gs, m, _, rfl, _⟩ := h; rfl
  · obtain ⟨b, a, gs, sz, m, rfl, hB, hm, hT, h1, h9, hgs, h41, q⟩ := h
    refine ⟨_, (pss_cons (ps_set (i := 3) sc_law_drawn_end.nd rfl (Or.inl rfl) (pe_ix (k_ixl (K := K) rfl) (pe_lst (pa_cons pe_int (pa_cons pe_int (pa_cons pe_int pa_nil)))) (pe_c C_law_take hr hG (pa_cons (pv 0) (pa_cons pe_int pa_nil))) (fun _ _ => rfl)))
      (pss_cons (ps_set (i := 4) sc_law_drawn_end.nd rfl (Or.inl rfl) (k_tupOfF (K := K) rfl (by rfl) B.tuple (pe_lc (own := [("k", 6)]) (g := gName 6) rfl sc_law_drawn_end.nd (pi_range1 rfl B.range (pa_cons (pv 2) pa_nil)) (blkOk_by (N := N_law_drawn_end) (sc := defScope s_law_drawn_end) (by decide +kernel)) (fun _ _ _ _ _ => (pg_name (i := 6) sc_law_drawn_end.nd rfl (by first | exact Or.inl rfl | exact Or.inr rfl))) (fun _ _ _ _ _ => pts_nil) (fun _ _ _ _ _ => (pv 6)))))
      (pss_cons (ps_for PassesOwn.never rfl (k_piT (K := K) rfl (pv 1)) (pg_name (i := 5) sc_law_drawn_end.nd rfl (Or.inl rfl))
      (pss_one (ps_if (pt_cmpR op_eq (pe_c C_law_take hr hG (pa_cons (pv 0) (pa_cons (pv 3) pa_nil))) pe_int (nomark _))
      (pss_one (ps_set (i := 4) sc_law_drawn_end.nd rfl (Or.inl rfl) (pe_c C_law_changed hr hG (pa_cons (pv 4) (pa_cons (pv 5) pa_nil)))))
      pss_nil)))
      (pss_one (ps_ret (pv 4)))))), ?_⟩
    have bne : H b ≠ none := by obtain ⟨_, _, _, e, _⟩ := hB; rw [e]; exact fun z => nomatch z
    -- often
    refine ⟨by show 3 ≤ sizeLine; decide, fun l nl => ?_⟩
    have x1 : Ex H (upd H l (.lst [.int 1, .int 2, .int 5])) := ex_new nl
    have el : (upd H l (.lst [.int 1, .int 2, .int 5])) l = some (.lst [.int 1, .int 2, .int 5]) := upd_same
    have bl : b ≠ l := fun z => bne (z ▸ nl)
    have B1 := hB.ex x1
    show ∃ v, _
    generalize upd H l (.lst [.int 1, .int 2, .int 5]) = H1 at x1 el B1 ⊢
    refine ⟨_, rfl, b, 3, m, rfl, B1, by omega, by decide, by decide, fun t H2 t0 t1 x2 B2 => ?_⟩
    have el := x2.lst el (fun z => bl z.symm)
    have hat : ∃ v : Int, atI [V.int 1, .int 2, .int 5] t = some (.int v) ∧ 1 ≤ v ∧ v ≤ 5 := by
      rcases (by omega : t = 0 ∨ t = 1 ∨ t = 2) with h | h | h <;> subst h <;> exact ⟨_, rfl, by decide, by decide⟩
    obtain ⟨often, hat, of1, of5⟩ := hat
    refine ⟨l, _, _, _, rfl, rfl, SqL.of el, hat, ?_⟩
    have y2 : ExB (At1 b) H H2 := x1.of.trans x2
    -- line
    refine ⟨_, rfl, _, rfl, by omega, by omega, fun D nD => ?_⟩
    rw [Int.toNat_natCast]
    refine lc_it walk_range (fun i H3 => Ex H2 H3 ∧ H3 D = some (.lst (((row0 sz).take i).map V.int))) ⟨ex_new nD, upd_same⟩ (fun _ _ _ _ => trivial) ?_ ?_
    · rintro i x H3 H3' hi ⟨x3, e3⟩ ⟨rfl, rfl⟩
      refine ⟨rfl, yes_go ⟨_, rfl, _, e3, small1000 (by rw [List.length_map, List.length_take]; omega), x3.then (ex_set e3) fun y hy => .inl (hy ▸ nD), ?_⟩⟩
      rw [upd_same, row0_take hi, List.map_append]
      simp only [Int.zero_add]; rfl
    · rintro H3 ⟨x3, e3⟩
      have full : (row0 sz).take sz = row0 sz := List.take_of_length_le (by rw [row0_len]; exact Nat.le_refl _)
      rw [full] at e3
      refine ⟨D, _, rfl, SqL.of e3, fun t0 H4 x4 nt0 e4 => ?_⟩
      have y4 : ExB (At1 b) H H4 := (y2.trans x3.of).trans x4.of
      have B4 := (B2.ex x3).ex x4
      refine ⟨_, rfl, a, rfl, ⟨_, y4.sqt hT⟩, for_it (walk_tup (xs := gs.map V.int)) (fun i σ H5 => ∃ (p : Addr) (ns : List Int) (v5 : Option V), σ = [some (.ref b), some (.ref a), some (.int sz), some (.int often), some (.ref p), v5, none] ∧ ExB (At1 b) H H5 ∧ FTup H5 p (ns.map V.int) ∧ IsRow ns ∧ ns.length = sz ∧ Come sz gs i ns ∧ Bag (m + 1 + i) H5 b) ⟨t0, row0 sz, none, rfl, y4, e4, row0_row h1 h9, row0_len sz, rfl, B4⟩ (fun i σ H5 _ ⟨_, _, _, _, x, _⟩ => x.sqt hT) ?_ ?_⟩
      · rintro i x σ H5 H5' hi ⟨p, ns, v5, rfl, y5, hp, hR, hl, hC, B5⟩ ⟨rfl, hx⟩
        rw [List.length_map] at hi
        obtain ⟨gp, eg, hg⟩ := book_at hgs hi
        rw [row_get hi, eg] at hx
        cases hx
        obtain ⟨hri, hrl⟩ := farAt_ok (row0_row h1 h9) (row0_len sz) hgs i (by omega)
        have ev : farAt (row0 sz) gs (i + 1) = upS (farAt (row0 sz) gs i) gp := by show upS (farAt (row0 sz) gs i) (gs.getD i 0).toNat = _; rw [eg, Int.toNat_natCast]
        have hgn : gp + 1 < ns.length := by rw [hl]; exact hg
        refine ⟨_, rfl, _, rfl, b, often, m + 1 + i, rfl, B5, by omega, by omega, by omega, fun u H6 u0 u1 x6 B6 => ?_⟩
        refine ⟨rfl, _, rfl, ?_⟩
        have y6 := y5.trans x6
        by_cases hu : u = 0
        · rw [decide_eq_true (show V.int u = V.int 0 by rw [hu])]
          refine iteT ⟨_, rfl, _, rfl, p, ns, gp, rfl, hp.ex x6, hgn, by rw [hl]; exact h9, fun p2 H7 x7 hp2 => ?_⟩
          exact ⟨p2, swL ns gp, _, rfl, y6.trans x7.of, hp2, sw_row hgn hR, by rw [sw_len hgn, hl], .inr ⟨ns, hR, hl, hC, by rw [eg, Int.toNat_natCast]⟩, (B6.ex x7).mono (by omega)⟩
        · rw [decide_eq_false (show ¬ V.int u = V.int 0 by intro z; injection z with z; exact hu z)]
          exact iteF ⟨p, ns, _, rfl, y6, hp.ex x6, hR, hl, .inl hC, B6.mono (by omega)⟩
      · rintro σ H5 ⟨p, ns, v5, rfl, y5, hp, hR, hl, hC, B5⟩
        rw [List.length_map] at B5 hC
        exact ⟨_, rfl, q p ns H5 hR hl hC y5 hp (B5.mono (by omega))⟩
end
end K68
namespace MM
open PySem PySem.Spec PyProof.Rows L2 GxR
/-- the next key, laid behind those ahead of it -/
theorem putX_next {xs : KXs} (hn : ((kvX xs).map (·.1)).Nodup) {i : Nat} {k : List Key} {b : Addr} {v : V} (e : xs[i]? = some (k, b, v)) : putX (xs.take i) k b v = xs.take (i + 1) := by
  have no : ((kvX (xs.take i)).any fun kv => decide (kv.1 = k)) = false := by
    rw [List.any_eq_false]
    intro p hp z
    have z' : p.1 = k := of_decide_eq_true z
    have h2 := not_before hn (j := i) (k := k) (by rw [kvX_get e]; rfl)
    refine h2 ?_
    have e2 : kvX (xs.take i) = (kvX xs).take i := by unfold kvX; rw [List.map_take]
    rw [e2] at hp
    rw [← List.map_take]
    exact List.mem_map.mpr ⟨p, hp, z'⟩
  unfold putX
  rw [if_neg (by rw [no]; decide), List.take_add_one, e]
  rfl
theorem kvX_take (xs : KXs) (i : Nat) : kvX (xs.take i) = (kvX xs).take i := by unfold kvX; rw [List.map_take]
end MM
namespace K68
open PySem PySem.Spec PyProof.Rows L2 GxR MM
section
variable {P : Program} {w : World} {K : PySem.W.Frag} {mg : Str → Option Value} {base : Heap} {f : Addr} {fd : FuncData} {n : Nat}
def spLedOn (P : Program) (w : World) : Sp := fun vs H Q _ => ∃ (d : Addr) (g m : Nat) (fw : List Int → Nat) (xs : KXs), vs = [.ref d, .int g] ∧ DFo P w H d xs ∧ DW m fw (kvX xs) ∧ g + 1 < m ∧ m ≤ 6 ∧ ∀ p x2 H', Ex H H' → H p = none → DFo P w H' p x2 → DW m (tkN g fw) (kvX x2) → Q (.ref p) H'
theorem d_led_on (F : FnP K "led_on" s_led_on f fd) (g : mg "led_on" = some (.ref f)) (C_swapped : CallD P w K mg base n "swapped" ["row", "gap"] spSwF) : CallD P w K mg base (n + 1) "led_on" ["ways", "gap"] (spLedOn P w) := by
  refine callD F g sc_led_on (fun _ _ _ _ _ _ us hl => match us, hl with | [_, _], _ => rfl) (fun vs H Q E h => ?_) (fun cdv A outer s H vs Q E _ hr hG h => ?_)
  · obtain ⟨d, g, m, fw, xs, rfl, _⟩ := h; rfl
  · obtain ⟨d, g, m, fw, xs, rfl, ⟨hd, hkF⟩, hW, hg, h6, q⟩ := h
    refine ⟨_, (pss_cons (ps_lock (ps_setDcF (i := 3) (hu_of hr) (own := [("row", 2)]) (g := gName 2) rfl sc_led_on.nd rfl rfl (sw_trueD rfl rfl rfl (by decide +kernel)) (pi_keysF (P := P) (w := w) rfl rfl (pv 0)) (blkOk_by (N := N_led_on) (sc := defScope s_led_on) (by decide +kernel)) (fun _ _ _ _ _ => (pg_name (i := 2) sc_led_on.nd rfl (by first | exact Or.inl rfl | exact Or.inr rfl))) (fun _ _ _ _ _ => pts_nil) (fun _ _ _ _ _ => (pv 2)) (fun _ _ _ _ _ => (pe_dgetFx (K := K) (P := P) (w := w) rfl rfl rfl (hu_of hr) (pv 0) (pv 2) (fun _ _ => rfl)))))
      (pss_cons (ps_lock (ps_for PassesOwn.never rfl (pi_keysF (P := P) (w := w) rfl rfl (pv 0)) (pg_name (i := 2) sc_led_on.nd rfl (Or.inl rfl))
      (pss_cons (ps_set (i := 4) sc_led_on.nd rfl (Or.inl rfl) (pe_c C_swapped hr hG (pa_cons (pv 2) (pa_cons (pv 1) pa_nil))))
      (pss_one (ps_dputF (P := P) (w := w) rfl rfl (hu_of hr) (pv 3) (pv 4) (pe_op op_add (pe_dget2F (K := K) (P := P) (w := w) rfl rfl rfl (hu_of hr) (pv 3) (pv 4) pe_int ⟨rfl, rfl, rfl, rfl⟩) (pe_dgetFx (K := K) (P := P) (w := w) rfl rfl rfl (hu_of hr) (pv 0) (pv 2) (fun _ _ => rfl))) (by rfl))))))
      (pss_one (ps_ret (pv 3))))), ?_⟩
    have sl : sizeLine = 16777216 := by decide
    generalize hkvs : kvX xs = kvs at hW
    have hle := hW.le h6
    have lx : xs.length = kvs.length := by rw [← hkvs, kvX_len]
    -- after = {row: ways[row] for row in ways}
    refine ⟨d, _, hd, trivial, fun od => ?_⟩
    have eL : (upd H d (.frz od (.ext (DTp P w d xs)))) d = some (.frz od (.ext (DTp P w d xs))) := upd_same
    have xl := ex_setX (o := .frz od (.ext (DTp P w d xs))) hd
    have kL := hkF.ex xl
    refine ⟨_, rfl, d, od, xs, rfl, eL, fun D Hz nD xz Dz => ?_⟩
    have hDd : D ≠ d := fun z => by rw [z, eL] at nD; cases nD
    have nDH : H D = none := by rw [upd_ne hDd] at nD; exact nD
    refine dcF_it walk_keysF (fun i Hb => Ex (upd H d (.frz od (.ext (DTp P w d xs)))) Hb ∧ DFo P w Hb D (xs.take i)) ⟨xz, Dz⟩ (fun i Hb _ y => y.1.frzT eL) ?_ ?_
    · rintro i x Hb Hc hi ⟨x1, e1⟩ ⟨rfl, k, q0, v, eks, rfl⟩
      have ek : kvs[i]? = some (k, v) := by rw [← hkvs]; exact kvX_get eks
      have eq0 := (kL.ex x1) _ (List.mem_of_getElem? eks)
      have hv := val_of_nodup hW.nd ek
      refine ⟨rfl, yes_go ⟨_, rfl, _, rfl, _, rfl, d, xs, q0, k, v, rfl, rfl, ⟨.inr ⟨od, x1.frzT eL⟩, kL.ex x1⟩, eq0.sqt, by rw [hkvs]; exact hv, xs.take i, k, q0, rfl, eq0, e1, by rw [List.length_take]; omega, fun Hx xx Dx => ?_⟩⟩
      rw [putX_next (by rw [hkvs]; exact hW.nd) eks] at Dx
      exact ⟨x1.then xx fun z hz => .inl (by rw [show z = D from hz]; exact nD), Dx⟩
    rintro H2 ⟨x1, e1⟩
    rw [List.take_length] at e1
    refine ⟨x1.frzT eL, ?_⟩
    have f2 := x1.frzT eL
    have x2 : Ex H (upd H2 d (.ext (DTp P w d xs))) := ex_lockX hd x1
    have ed : (upd H2 d (.ext (DTp P w d xs))) d = some (.ext (DTp P w d xs)) := upd_same
    have kx := hkF.ex x2
    have eD : DFo P w (upd H2 d (.ext (DTp P w d xs))) D xs := ⟨by rw [upd_ne hDd]; exact e1.1, kx⟩
    show tSeq _ _ _ _ (upd H2 d (.ext (DTp P w d xs)))
    generalize upd H2 d (.ext (DTp P w d xs)) = H3 at x2 ed eD kx ⊢
    -- for row in ways
    refine ⟨d, _, ed, trivial, fun od2 => ?_⟩
    have eL2 : (upd H3 d (.frz od2 (.ext (DTp P w d xs)))) d = some (.frz od2 (.ext (DTp P w d xs))) := upd_same
    have xl2 := ex_setX (o := .frz od2 (.ext (DTp P w d xs))) ed
    have eD2 := eD.ex xl2 hDd
    have k4 := kx.ex xl2
    generalize hH4 : upd H3 d (.frz od2 (.ext (DTp P w d xs))) = H4 at eL2 eD2 k4
    rw [← lx] at hle
    refine ⟨_, rfl, d, od2, xs, rfl, eL2, ?_⟩
    refine for_it walk_keysF (fun j σ Hb => ∃ (x2 : KXs) (v2 v4 : Option V), σ = [some (.ref d), some (.int g), v2, some (.ref D), v4] ∧ ExB (At1 D) H4 Hb ∧ DFo P w Hb D x2 ∧ DW m (fJ kvs fw g j) (kvX x2)) ⟨xs, _, _, rfl, ExB.refl, eD2, by rw [hkvs]; exact hW.congr fun x _ _ => (fJ_zero kvs fw g x).symm⟩ (fun j σ Hb _ ⟨_, _, _, _, y, _⟩ => y.frzT eL2) ?_ ?_
    · rintro j x σ Hb Hc hj ⟨xs2, v2, v4, rfl, x4, D4, J4⟩ ⟨rfl, k, q0, v, eks, rfl⟩
      have ek : kvs[j]? = some (k, v) := by rw [← hkvs]; exact kvX_get eks
      have eq0 := (k4.ex x4) _ (List.mem_of_getElem? eks)
      obtain ⟨ns, rfl, hR, hl, hf, hv⟩ := hW.at ek
      have hkj : (kvs[j]?).map (·.1) = some (rk ns) := by rw [ek]; rfl
      have eq0 : FTup Hc q0 (ns.map V.int) := by rw [← rk_kV]; exact eq0
      refine ⟨_, rfl, _, rfl, q0, ns, g, rfl, eq0, by omega, by omega, fun u H5 x5 e5 => ?_⟩
      have y5 := x4.trans (ExB.of x5)
      have D5 := D4.ex x5 id
      have eq5 := eq0.ex x5
      have hRm := sw_row (g := g) (by omega) hR
      have hlm : (swL ns g).length = m := by rw [sw_len (by omega)]; exact hl
      refine ⟨_, rfl, D, xs2, rfl, D5.rd, _, rfl, u, rk (swL ns g), rfl, D5.rd, by rw [rk_kV]; exact e5.sqt, ?_⟩
      rw [J4.get hRm hlm]
      refine ⟨_, rfl, _, rfl, d, xs, q0, rk ns, .int ((fw ns : Nat) : Int), rfl, rfl, ⟨.inr ⟨od2, y5.frzT eL2⟩, k4.ex y5⟩, by rw [rk_kV]; exact eq5.sqt, by rw [hkvs]; exact hv, ?_⟩
      refine ⟨_, _, rfl, rfl, _, rfl, _, rfl, D, xs2, u, rk (swL ns g), rfl, rfl, D5, by rw [rk_kV]; exact e5, by have := J4.le h6; omega, fun Hn xn Dn => ?_⟩
      exact ⟨_, _, _, rfl, y5.trans xn, Dn, by rw [kvX_put]; exact DW.put hW.nd hkj hR hl hf hg J4⟩
    · rintro σ Hb ⟨xs2, v2, v4, rfl, x4, D4, J4⟩
      refine ⟨x4.frzT eL2, _, rfl, ?_⟩
      have hfz := x4.frzT eL2
      rw [lx] at J4
      subst hH4
      have x5 := ex_lockX ed x4
      refine q D xs2 _ (x2.then x5 fun z hz => .inl (by rw [show z = D from hz]; exact nDH)) nDH ⟨by rw [upd_ne hDd]; exact D4.1, fun p hp => ?_⟩ (hW.fin hg J4)
      obtain ⟨ob, c1, c2, c3⟩ := D4.2 p hp
      exact ⟨ob, c1, c2, by rw [upd_ne (fun z => by rw [z, hfz] at c3; cases c3)]; exact c3⟩
end
end K68
namespace K68
open PySem PySem.Spec PyProof.Rows L2 GxR MM
section
variable {P : Program} {w : World} {K : PySem.W.Frag} {mg : Str → Option Value} {base : Heap} {f : Addr} {fd : FuncData} {n : Nat}
/-- dicts at ds: the k-th tells by how many goings through the first k meetings of gs each row comes from r -/
def WaysF (P : Program) (w : World) (H : Hp) (m : Nat) (r gs : List Int) (n : Nat) (ds : List Addr) : Prop := ds.length = n ∧ ∀ k d, ds[k]? = some d → ∃ xs, DFo P w H d xs ∧ DW m (wN r (gs.take k)) (kvX xs)
theorem WaysF.ex {P : Program} {w : World} {H H' : Hp} {m n : Nat} {r gs : List Int} {ds : List Addr} (h : WaysF P w H m r gs n ds) (e : Ex H H') : WaysF P w H' m r gs n ds := ⟨h.1, fun k d hk => let ⟨xs, a, b⟩ := h.2 k d hk; ⟨xs, a.ex e id, b⟩⟩
def spWays (K : PySem.W.Frag) (P : Program) (w : World) : Sp := fun vs H Q _ => ∃ (r b : Addr) (rr gs : List Int) (m : Nat), vs = [.ref r, .ref b] ∧ FTup H r (rr.map V.int) ∧ SqT K H b (gs.map V.int) ∧ IsRow rr ∧ rr.length = m ∧ m ≤ 6 ∧ BookOk m gs ∧ gs.length ≤ 100 ∧
  ∀ p ds H', Ex H H' → H p = none → (∀ d ∈ ds, H d = none) → H' p = some (.lst (ds.map V.ref)) → WaysF P w H' m rr gs (gs.length + 1) ds → Q (.ref p) H'
theorem d_ways_from (F : FnP K "ways_from" s_ways_from f fd) (g : mg "ways_from" = some (.ref f)) (C_led_on : CallD P w K mg base n "led_on" ["ways", "gap"] (spLedOn P w)) : CallD P w K mg base (n + 1) "ways_from" ["row", "book"] (spWays K P w) := by
  refine callD F g sc_ways_from (fun _ _ _ _ _ _ us hl => match us, hl with | [_, _], _ => rfl) (fun vs H Q E h => ?_) (fun cdv A outer s H vs Q E _ hr hG h => ?_)
  · obtain ⟨r, b, rr, gs, m, rfl, _⟩ := h; rfl
  · obtain ⟨r, b, rr, gs, m, rfl, hr0, hT, hR, hl, h6, hB, h100, q⟩ := h
    refine ⟨_, (pss_cons (ps_set (i := 2) sc_ways_from.nd rfl (Or.inl rfl) (pe_lst (pa_cons (pe_disp1F (P := P) (w := w) rfl rfl (hu_of hr) (pv 0) pe_int) pa_nil)))
      (pss_cons (ps_for PassesOwn.never rfl (k_piT (K := K) rfl (pv 1)) (pg_name (i := 3) sc_ways_from.nd rfl (Or.inl rfl))
      (pss_one (ps_expr (k_bm (K := K) rfl PySem.F.plainAttrs_list PySem.F.slot_list_append PySem.F.type_list_append mt_append (pv 2) (pa_cons (pe_c C_led_on hr hG (pa_cons (pe_ix (k_ixl (K := K) rfl) (pv 2) (pe_un un_neg pe_int) (fun _ _ => rfl)) (pa_cons (pv 3) pa_nil))) pa_nil)))))
      (pss_one (ps_ret (pv 2))))), ?_⟩
    have sl : sizeLine = 16777216 := by decide
    refine fun d0 H1 nd0 x1 D1 => ?_
    refine ⟨_, rfl, D1, r, rk rr, rfl, by rw [rk_kV]; exact hr0.ex x1, fun H2 x2 D2 => ?_⟩
    have y2 : Ex H H2 := x1.then x2 fun z hz => .inl (by rw [show z = d0 from hz]; exact nd0)
    refine ⟨by show 1 ≤ sizeLine; decide, fun p np => ?_⟩
    have x3 : Ex H2 (upd H2 p (.lst [.ref d0])) := ex_new np
    have e3 : (upd H2 p (.lst [.ref d0])) p = some (.lst ([d0].map V.ref)) := upd_same
    have W3 : WaysF P w (upd H2 p (.lst [.ref d0])) m rr gs 1 [d0] := ⟨rfl, fun k d hk => by
      cases k with
      | zero => cases hk; exact ⟨_, D2.ex x3 id, by rw [kvX_put]; exact DW.one hR hl⟩
      | succ k => simp at hk⟩
    have npH : H p = none := y2.fresh np
    have y3 := y2.trans x3
    show tSeq _ _ _ _ _
    generalize upd H2 p (.lst [.ref d0]) = H3 at y3 e3 W3 ⊢
    refine ⟨_, rfl, b, rfl, ⟨_, y3.sqt hT⟩, for_it (walk_tup (xs := gs.map V.int)) (fun i σ H5 => ∃ (ds : List Addr) (v3 : Option V), σ = [some (.ref r), some (.ref b), some (.ref p), v3] ∧ Ex H H5 ∧ H5 p = some (.lst (ds.map V.ref)) ∧ (∀ d ∈ ds, H d = none) ∧ WaysF P w H5 m rr gs (i + 1) ds) ⟨[d0], none, rfl, y3, e3, by simpa using nd0, W3⟩ (fun i σ H5 _ ⟨_, _, _, x, _⟩ => x.sqt hT) ?_ ?_⟩
    · rintro i x σ H5' H5 hi ⟨ds, v3, rfl, x5, e5, n5, W5⟩ ⟨rfl, hx⟩
      rw [List.length_map] at hi
      rw [row_get hi] at hx
      cases hx
      obtain ⟨gp, eg, hg⟩ := book_at hB hi
      have egp : gapN gs i = gp := by unfold gapN; rw [eg, Int.toNat_natCast]
      have hil : i < ds.length := by rw [W5.1]; omega
      have gt : (ds.map V.ref)[i]? = some (.ref ds[i]) := by rw [List.getElem?_map, List.getElem?_eq_getElem hil]; rfl
      obtain ⟨xs, Dd, hW⟩ := W5.2 i _ (List.getElem?_eq_getElem hil)
      refine ⟨_, rfl, .inl ⟨rfl, _, SqL.of e5⟩, _, rfl, 1, rfl, p, _, _, _, rfl, rfl, SqL.of e5, (at_neg (by rw [List.length_map, W5.1])).trans gt, ?_⟩
      refine ⟨_, rfl, ds[i], gp, m, _, xs, by rw [eg]; rfl, Dd, hW, hg, h6, fun u x2' H6 x6 nu D6 hW6 => ?_⟩
      have e6p := Ex.lst x6 e5
      refine ⟨p, _, _, rfl, rfl, e6p, by rw [List.length_map, W5.1, sl]; omega, ?_⟩
      have x7 : ExB (fun z => z = p) H6 (upd H6 p (.lst (ds.map V.ref ++ [.ref u]))) := ex_set e6p
      refine ⟨ds ++ [u], _, rfl, (x5.trans x6).then x7 fun z hz => .inl (by rw [show z = p from hz]; exact npH), by rw [upd_same, List.map_append]; rfl, fun d hd => ?_, by rw [List.length_append, W5.1]; rfl, fun k d hk => ?_⟩
      · rcases List.mem_append.mp hd with z | z
        · exact n5 d z
        · rw [List.mem_singleton.mp z]; exact x5.fresh nu
      · have nep : ∀ {d ys}, DFo P w H6 d ys → d ≠ p := fun {d ys} z y => by have := z.1; rw [y, e6p] at this; cases this
        rcases Nat.lt_or_ge k ds.length with c | c
        · rw [List.getElem?_append_left c] at hk
          obtain ⟨ys, a1, a2⟩ := W5.2 k d hk
          have a3 := a1.ex x6 id
          exact ⟨ys, a3.ex x7 (nep a3), a2⟩
        · have hk2 : k < (ds ++ [u]).length := (List.getElem?_eq_some_iff.mp hk).1
          have ek : k = i + 1 := by rw [List.length_append, W5.1] at hk2; rw [W5.1] at c; simp at hk2; omega
          subst ek
          rw [List.getElem?_append_right c, W5.1, Nat.sub_self] at hk
          cases hk
          exact ⟨x2', D6.ex x7 (nep D6), by rw [wN_take hi, egp]; exact hW6⟩
    · rintro σ H5 ⟨ds, v3, rfl, x5, e5, n5, W5⟩
      rw [List.length_map] at W5
      exact ⟨_, rfl, q p ds H5 x5 npH n5 e5 W5⟩
def spAhead (K : PySem.W.Frag) (P : Program) (w : World) : Sp := fun vs H Q _ => ∃ (b : Addr) (gs : List Int) (m : Nat), vs = [.ref b, .int m] ∧ SqT K H b (gs.map V.int) ∧ 1 ≤ m ∧ m ≤ 6 ∧ BookOk m gs ∧ gs.length ≤ 100 ∧
  ∀ p ds H', Ex H H' → H' p = some (.lst (ds.map V.ref)) → WaysF P w H' m (row0 m) gs (gs.length + 1) ds → Q (.ref p) H'
theorem d_ways_ahead (F : FnP K "ways_ahead" s_ways_ahead f fd) (g : mg "ways_ahead" = some (.ref f)) (C_row_of : CallD P w K mg base n "row_of" ["many"] spRowOfF) (C_ways_from : CallD P w K mg base n "ways_from" ["row", "book"] (spWays K P w)) : CallD P w K mg base (n + 1) "ways_ahead" ["book", "many"] (spAhead K P w) := by
  refine callD F g sc_ways_ahead (fun _ _ _ _ _ _ us hl => match us, hl with | [_, _], _ => rfl) (fun vs H Q E h => ?_) (fun cdv A outer s H vs Q E _ hr hG h => ?_)
  · obtain ⟨b, gs, m, rfl, _⟩ := h; rfl
  · obtain ⟨b, gs, m, rfl, hT, h1, h6, hB, h100, q⟩ := h
    refine ⟨_, (pss_one (ps_ret (pe_c C_ways_from hr hG (pa_cons (pe_c C_row_of hr hG (pa_cons (pv 1) pa_nil)) (pa_cons (pv 0) pa_nil))))), ?_⟩
    refine ⟨_, rfl, m, rfl, h1, by omega, fun r H1 x1 e1 => ?_⟩
    exact ⟨_, rfl, r, b, row0 m, gs, m, rfl, e1, x1.sqt hT, row0_row h1 (by omega), row0_len m, h6, hB, h100, fun p ds H2 x2 _ _ e2 W2 => q p ds H2 (x1.trans x2) e2 W2⟩
end
end K68
namespace K68
open PySem PySem.Spec PyProof.Rows L2 GxR MM
section
variable {P : Program} {w : World} {K : PySem.W.Frag} {mg : Str → Option Value} {base : Heap} {f : Addr} {fd : FuncData} {n : Nat}
def spGoings (K : PySem.W.Frag) (Pr Pb : Addr) : Sp := fun vs H Q _ => ∃ (a r : Addr) (gs ns : List Int), vs = [.ref a, .ref r] ∧ SqT K H a (gs.map V.int) ∧ SqT K H r (ns.map V.int) ∧ TabG H Pr ∧ TabG H Pb ∧ IsRow ns ∧ ns.length ≤ 6 ∧ BookOk ns.length gs ∧ gs.length ≤ 100 ∧ ∀ H', Ex H H' → Q (.int ((wN (row0 ns.length) gs ns : Nat) : Int)) H'
theorem d_goings {Pr Pb : Addr} (F : FnP K "goings" s_goings f fd) (g : mg "goings" = some (.ref f)) (B : Bl mg) (C_check_asked : CallD P w K mg base n "check_asked" ["book", "row"] (spAsked K Pr Pb)) (C_ways_ahead : CallD P w K mg base n "ways_ahead" ["book", "many"] (spAhead K P w)) : CallD P w K mg base (n + 1) "goings" ["book", "row"] (spGoings K Pr Pb) := by
  refine callD F g sc_goings (fun _ _ _ _ _ _ us hl => match us, hl with | [_, _], _ => rfl) (fun vs H Q E h => ?_) (fun cdv A outer s H vs Q E _ hr hG h => ?_)
  · obtain ⟨a, r, gs, ns, rfl, _⟩ := h; rfl
  · obtain ⟨a, r, gs, ns, rfl, hT, hr0, hPr, hPb, hR, h6, hB, h100, q⟩ := h
    refine ⟨_, (pss_cons (ps_expr (pe_c C_check_asked hr hG (pa_cons (pv 0) (pa_cons (pv 1) pa_nil))))
      (pss_one (ps_ret (pe_dget2F (K := K) (P := P) (w := w) rfl rfl rfl (hu_of hr) (pe_ix (k_ixl (K := K) rfl) (pe_c C_ways_ahead hr hG (pa_cons (pv 0) (pa_cons (pe_callB (k_len (K := K) rfl) (by rfl) B.len PySem.boot_len (pa_cons (pv 1) pa_nil)) pa_nil))) (pe_un un_neg pe_int) (fun _ _ => rfl)) (pv 1) pe_int ⟨rfl, rfl, rfl, rfl⟩)))), ?_⟩
    refine ⟨_, rfl, _, rfl, a, r, gs, ns, rfl, hT, hr0, hPr, hPb, hR, h6, hB, fun H1 x1 => ?_⟩
    refine ⟨_, rfl, _, rfl, r, _, rfl, .inr (x1.sqt hr0), a, gs, ns.length, by rw [List.length_map]; rfl, x1.sqt hT, hR.1, h6, hB, h100, fun p ds H2 x2 ep W => ?_⟩
    have hil : gs.length < ds.length := by rw [W.1]; omega
    have gt : (ds.map V.ref)[gs.length]? = some (.ref ds[gs.length]) := by rw [List.getElem?_map, List.getElem?_eq_getElem hil]; rfl
    obtain ⟨xs, ed, hW⟩ := W.2 gs.length _ (List.getElem?_eq_getElem hil)
    rw [List.take_length] at hW
    refine ⟨1, rfl, p, _, _, _, rfl, rfl, SqL.of ep, (at_neg (by rw [List.length_map, W.1])).trans gt, ?_⟩
    refine ⟨_, xs, rfl, ed.rd, _, rfl, r, rk ns, rfl, ed.rd, by rw [rk_kV]; exact (x1.trans x2).sqt hr0, ?_⟩
    rw [hW.get hR rfl]
    exact q H2 (x1.trans x2)
/-- pairs of a row and how many goings lead there -/
abbrev RefE (fw : List Int → Nat) (H : Hp) : List V → List (List Int) → Prop := Paired fun v x => ∃ t q : Addr, v = V.ref t ∧ H t = some (.tup [.ref q, .int (fw x : Nat)]) ∧ FTup H q (x.map V.int)
theorem RefE.exB {fw : List Int → Nat} {B : Addr → Prop} {H H' : Hp} {vs : List V} {es : List (List Int)} (h : RefE fw H vs es) (e : ExB B H H') : RefE fw H' vs es := L2.Paired.mapP h fun _ _ ⟨t, q, a, b, c⟩ => ⟨t, q, a, e.tup b, c.ex e⟩
theorem RefE.snoc {fw : List Int → Nat} {H : Hp} {t q : Addr} {x : List Int} : ∀ {vs : List V} {es : List (List Int)}, RefE fw H vs es → H t = some (.tup [.ref q, .int (fw x : Nat)]) → FTup H q (x.map V.int) → RefE fw H (vs ++ [.ref t]) (es ++ [x])
  | _, _, .nil, a, b => .cons ⟨t, q, rfl, a, b⟩ .nil
  | _, _, .cons y r, a, b => .cons y (RefE.snoc r a b)
def spEnds (K : PySem.W.Frag) (Pb : Addr) : Sp := fun vs H Q _ => ∃ (b : Addr) (gs : List Int) (m : Nat), vs = [.ref b, .int m] ∧ SqT K H b (gs.map V.int) ∧ TabG H Pb ∧ 1 ≤ m ∧ m ≤ 6 ∧ BookOk m gs ∧ gs.length ≤ 100 ∧
  ∀ p vs Rs H', Ex H H' → H' p = some (.lst vs) → RefE (wN (row0 m) gs) H' vs Rs → Rs.Pairwise (· < ·) → (∀ x, x ∈ Rs ↔ IsRow x ∧ x.length = m ∧ 0 < wN (row0 m) gs x) → Q (.ref p) H'
theorem d_ends {Pb : Addr} (F : FnP K "ends" s_ends f fd) (g : mg "ends" = some (.ref f)) (B : Bl mg) (C_check_book : CallD P w K mg base n "check_book" ["book", "many"] (spCheckBook K Pb)) (C_check_few : CallD P w K mg base n "check_few" ["many"] spFew) (C_ways_ahead : CallD P w K mg base n "ways_ahead" ["book", "many"] (spAhead K P w)) : CallD P w K mg base (n + 1) "ends" ["book", "many"] (spEnds K Pb) := by
  refine callD F g sc_ends (fun _ _ _ _ _ _ us hl => match us, hl with | [_, _], _ => rfl) (fun vs H Q E h => ?_) (fun cdv A outer s H vs Q E _ hr hG h => ?_)
  · obtain ⟨b, gs, m, rfl, _⟩ := h; rfl
  · obtain ⟨b, gs, m, rfl, hT, hPb, h1, h6, hB, h100, q⟩ := h
    refine ⟨_, (pss_cons (ps_expr (pe_c C_check_book hr hG (pa_cons (pv 0) (pa_cons (pv 1) pa_nil))))
      (pss_cons (ps_expr (pe_c C_check_few hr hG (pa_cons (pv 1) pa_nil)))
      (pss_cons (ps_set (i := 2) sc_ends.nd rfl (Or.inr rfl) (pe_ix (k_ixl (K := K) rfl) (pe_c C_ways_ahead hr hG (pa_cons (pv 0) (pa_cons (pv 1) pa_nil))) (pe_un un_neg pe_int) (fun _ _ => rfl)))
      (pss_one (ps_ret (pe_lc (own := [("row", 3)]) (g := gName 3) rfl sc_ends.nd (k_piL (K := K) rfl (pe_callB (cr_sortF (P := P) (w := w) rfl rfl rfl hr.units) (by rfl) B.sorted (by decide +kernel) (pa_cons (pv 2) pa_nil))) (blkOk_by (N := N_ends) (sc := defScope s_ends) (by decide +kernel)) (fun _ _ _ _ _ => (pg_name (i := 3) sc_ends.nd rfl (by first | exact Or.inl rfl | exact Or.inr rfl))) (fun _ _ _ _ _ => pts_nil) (fun _ _ _ _ _ => (pe_tup (pa_cons (pv 3) (pa_cons (pe_dgetFx (K := K) (P := P) (w := w) rfl rfl rfl (hu_of hr) (pv 2) (pv 3) (fun _ _ => rfl)) pa_nil)))))))))), ?_⟩
    have sl : sizeLine = 16777216 := by decide
    refine ⟨_, rfl, _, rfl, b, gs, m, rfl, hT, hPb, h1, by omega, hB, fun H1 x1 => ?_⟩
    refine ⟨_, rfl, (m : Int), rfl, by omega, ?_⟩
    refine ⟨_, rfl, _, rfl, b, gs, m, rfl, x1.sqt hT, h1, h6, hB, h100, fun p ds H2 x2 ep W => ?_⟩
    have hil : gs.length < ds.length := by rw [W.1]; omega
    have gt : (ds.map V.ref)[gs.length]? = some (.ref ds[gs.length]) := by rw [List.getElem?_map, List.getElem?_eq_getElem hil]; rfl
    obtain ⟨xs, D2, hW⟩ := W.2 gs.length _ (List.getElem?_eq_getElem hil)
    rw [List.take_length] at hW
    refine ⟨1, rfl, p, _, _, _, rfl, rfl, SqL.of ep, (at_neg (by rw [List.length_map, W.1])).trans gt, ?_⟩
    generalize ds[gs.length] = d at D2
    have y2 := x1.trans x2
    generalize hkvs : kvX xs = kvs at hW
    have hle := hW.le h6
    obtain ⟨Es, eEs, hEs⟩ := rows_ofX (m := m) (xs := xs) (by rw [hkvs]; exact hW.all)
    have eK : kvs.map (·.1) = (Es.map (·.2)).map rk := by
      rw [← hkvs]
      have h := congrArg (List.map Prod.fst) eEs
      unfold kvX
      rw [List.map_map] at h ⊢
      rw [List.map_map] at h ⊢
      exact h
    have hnd : (Es.map (·.2)).Nodup := by
      have := hW.nd
      rw [eK] at this
      unfold List.Nodup at this ⊢
      rw [List.pairwise_map] at this
      exact this.imp fun h e => h (by rw [e])
    have hRs : ∀ x ∈ Es.map (·.2), IsRow x ∧ x.length = m := fun x hx => by
      obtain ⟨e, he, rfl⟩ := List.mem_map.mp hx
      exact hEs e he
    have inS : ∀ x, x ∈ Es.map (·.2) ↔ IsRow x ∧ x.length = m ∧ 0 < wN (row0 m) gs x := fun x => by
      constructor
      · intro hx
        obtain ⟨a, b⟩ := hRs x hx
        exact ⟨a, b, (hW.key a b).mp (by rw [eK]; exact List.mem_map.mpr ⟨x, hx, rfl⟩)⟩
      · rintro ⟨a, b, c⟩
        have := (hW.key a b).mpr c
        rw [eK] at this
        obtain ⟨y, hy, e⟩ := List.mem_map.mp this
        rw [← rk_inj e]; exact hy
    have own : ∀ e ∈ Es, FTup H2 e.1 (e.2.map V.int) := fun e he => by
      obtain ⟨p, hp, e2⟩ := List.mem_map.mp (eEs ▸ List.mem_map.mpr ⟨e, he, rfl⟩ : (rk e.2, e.1) ∈ xs.map fun p => (p.1, p.2.1))
      have h1 := D2.2 p hp
      injection e2 with e3 e4
      rw [e3, e4, rk_kV] at h1
      exact h1
    refine ⟨_, rfl, d, xs, Es, rfl, .inl D2.1, D2.2, eEs, hnd, fun x hx z => by have := (hRs x hx).1.1; rw [z] at this; exact absurd this (by decide), fun p2 L np2 hL hpm => ?_⟩
    have hperm : (L.map (·.2)).Perm (Es.map (·.2)) := by
      have := hpm.map (·.2)
      rw [List.map_map] at this
      exact this
    have x3 : Ex H2 (upd H2 p2 (.lst (L.map (·.1)))) := ex_new np2
    have e3 : (upd H2 p2 (.lst (L.map (·.1)))) p2 = some (.lst (L.map (·.1))) := upd_same
    have D3 := D2.ex x3 id
    have hLe3 : ∀ e ∈ L, ∃ b, e.1 = V.ref b ∧ FTup (upd H2 p2 (.lst (L.map (·.1)))) b (e.2.map V.int) := fun e he => by
      obtain ⟨u, hu, rfl⟩ := List.mem_map.mp (hpm.mem_iff.mp he)
      exact ⟨u.1, rfl, (own u hu).ex x3⟩
    have lL : L.length ≤ 531441 := by
      have h1 := hperm.length_eq
      have h2 := congrArg List.length eK
      rw [List.length_map, List.length_map (f := rk)] at h2
      rw [List.length_map] at h1
      omega
    generalize upd H2 p2 (.lst (L.map (·.1))) = H3 at x3 e3 D3 hLe3 ⊢
    refine ⟨p2, rfl, ⟨_, SqL.of e3⟩, fun Dd nD => ?_⟩
    refine lc_it (walk_list (xs := L.map (·.1))) (fun i H4 => Ex H3 H4 ∧ ∃ ws, H4 Dd = some (.lst ws) ∧ RefE (wN (row0 m) gs) H4 ws ((L.map (·.2)).take i) ∧ ws.length ≤ i) ⟨ex_new nD, [], upd_same, .nil, Nat.le_refl _⟩ (fun i H4 _ y => SqL.of (Ex.lst y.1 e3)) ?_ ?_
    · rintro i x H4' H4 hi ⟨x4, ws, e4, r4, lx⟩ ⟨rfl, hx⟩
      rw [List.length_map] at hi
      have hLi : L[i]? = some L[i] := List.getElem?_eq_getElem hi
      have hx1 : (L.map (·.1))[i]? = some x := hx
      rw [List.getElem?_map, hLi] at hx1
      have hx2 : x = L[i].1 := (Option.some.inj hx1).symm
      subst hx2
      obtain ⟨qa, eqa, hqa⟩ := hLe3 L[i] (List.getElem_mem hi)
      rw [eqa]
      have hm : L[i].2 ∈ Es.map (·.2) := hperm.mem_iff.mp (List.mem_map.mpr ⟨L[i], List.getElem_mem hi, rfl⟩)
      obtain ⟨hR, hl, hpos⟩ := (inS _).mp hm
      have hqa4 := hqa.ex x4
      have D4 := D3.ex x4 id
      have hv : valV (kvX xs) (rk L[i].2) = some (.int (wN (row0 m) gs L[i].2 : Nat)) := by
        rw [hkvs]
        have := hW.get hR hl
        have hs := valV_mem.mpr ((hW.key hR hl).mpr hpos)
        obtain ⟨v, hv⟩ := Option.isSome_iff_exists.mp hs
        rw [hv] at this ⊢
        exact congrArg some this
      refine ⟨rfl, yes_go ⟨_, rfl, _, rfl, _, rfl, d, xs, qa, rk L[i].2, _, rfl, rfl, D4.rd, by rw [rk_kV]; exact hqa4.sqt, hv, by show 2 ≤ sizeLine; decide, fun t nt => ?_⟩⟩
      have x5 : Ex H4 (upd H4 t (.tup [.ref qa, .int (wN (row0 m) gs L[i].2 : Nat)])) := ex_new nt
      have e5 : (upd H4 t (.tup [.ref qa, .int (wN (row0 m) gs L[i].2 : Nat)])) t = some (.tup [.ref qa, .int (wN (row0 m) gs L[i].2 : Nat)]) := upd_same
      have e6 := Ex.lst x5 e4
      have xs2 : ExB (fun z => z = Dd) _ _ := ex_set (ys := ws ++ [.ref t]) e6
      refine ⟨_, e6, by rw [sl]; omega, (x4.trans x5).then (ex_set e6) fun y hy => .inl (hy ▸ nD), ws ++ [.ref t], upd_same, ?_, by rw [List.length_append]; show ws.length + 1 ≤ i + 1; omega⟩
      rw [List.take_add_one, List.getElem?_map, hLi]
      exact ((r4.exB x5).exB xs2).snoc (xs2.tup e5) ((hqa4.ex x5).ex xs2)
    · rintro H4 ⟨x4, ws, e4, r4, lx⟩
      rw [List.length_map, List.take_of_length_le (by rw [List.length_map]; exact Nat.le_refl _)] at r4
      exact q Dd ws _ H4 (y2.trans (x3.trans x4)) e4 r4 hL fun x => by rw [hperm.mem_iff, inS x]
end
end K68
namespace K68
open PySem PySem.Spec PyProof.Rows L2 GxR MM
section
variable {P : Program} {w : World} {K : PySem.W.Frag} {mg : Str → Option Value} {base : Heap} {f : Addr} {fd : FuncData} {n : Nat}
def spAnew (K : PySem.W.Frag) : Sp := fun vs H Q _ => ∃ (l a : Addr) (m : Nat) (c fa fb : Nat → Nat), vs = [.ref l, .ref a] ∧ SqT K H l ((ofF m c).map V.int) ∧ FTup H a ((ofF m fa).map V.int) ∧ IsInv m fa fb ∧ (∀ i, i < m → c i < m) ∧ 1 ≤ m ∧ m ≤ 9 ∧ ∀ p H', Ex H H' → FTup H' p ((ofF m fun i => fb (c i)).map V.int) → Q (.ref p) H'
theorem d_law_anew (F : FnP K "_law_anew" s_law_anew f fd) (g : mg "_law_anew" = some (.ref f)) (B : Bl mg) : CallD P w K mg base (n + 1) "_law_anew" ["line", "amid"] (spAnew K) := by
  refine callD F g sc_law_anew (fun _ _ _ _ _ _ us hl => match us, hl with | [_, _], _ => rfl) (fun vs H Q E h => ?_) (fun cdv A outer s H vs Q E _ hr hG h => ?_)
  · obtain ⟨l, a, m, c, fa, fb, rfl, _⟩ := h; rfl
  · obtain ⟨l, a, m, c, fa, fb, rfl, hl, ha, hI, hc, h1, h9, q⟩ := h
    refine ⟨_, (pss_one (ps_ret (k_tupOfF (K := K) rfl (by rfl) B.tuple (pe_lc (own := [("person", 2)]) (g := gName 2) rfl sc_law_anew.nd (k_piT (K := K) rfl (pv 0)) (blkOk_by (N := N_law_anew) (sc := defScope s_law_anew) (by decide +kernel)) (fun _ _ _ _ _ => (pg_name (i := 2) sc_law_anew.nd rfl (by first | exact Or.inl rfl | exact Or.inr rfl))) (fun _ _ _ _ _ => pts_nil) (fun _ _ _ _ _ => (k_bmF PySem.F.plainAttrs_tuple PySem.F.slot_tuple_index PySem.F.type_tuple_index (k_indexT (K := K) rfl) (pv 1) (pa_cons (pv 2) pa_nil))))))), ?_⟩
    have sl : sizeLine = 16777216 := by decide
    refine ⟨_, rfl, l, rfl, ⟨_, hl⟩, fun D nD => ?_⟩
    refine lc_it (walk_tup (xs := (ofF m c).map V.int)) (fun i H4 => Ex H H4 ∧ H4 D = some (.lst (((ofF m fun i => fb (c i)).take i).map V.int))) ⟨ex_new nD, upd_same⟩ (fun i H4 _ y => y.1.sqt hl) ?_ ?_
    · rintro i x H4' H4 hi ⟨x4, e4⟩ ⟨rfl, hx⟩
      rw [List.length_map, ofF_len] at hi
      rw [List.getElem?_map, ofF_get hi] at hx
      cases hx
      obtain ⟨i1, i2⟩ := index_fact hI (hc i hi)
      refine ⟨rfl, yes_go ⟨_, rfl, ⟨a, _, rfl, ha.ex x4⟩, _, rfl, a, _, _, fb (c i), .int ((c i : Nat) : Int), rfl, rfl, (ha.ex x4).sqt, rfl, by rw [List.all_map]; exact List.all_eq_true.mpr fun _ _ => rfl, by rw [List.getElem?_map, i1]; rfl, by show decide _ = true; exact decide_eq_true rfl, fun k z' hk hz => ?_, ?_⟩⟩
      · rw [List.getElem?_map] at hz
        obtain ⟨z, hz2, rfl⟩ := Option.map_eq_some_iff.mp hz
        show decide _ = false
        exact decide_eq_false (i2 k z hk hz2)
      · refine ⟨_, e4, by rw [List.length_map, List.length_take, ofF_len, sl]; omega, x4.then (ex_set e4) fun y hy => .inl (hy ▸ nD), ?_⟩
        rw [upd_same, ofF_take hi, List.map_append]; rfl
    · rintro H4 ⟨x4, e4⟩
      rw [List.length_map, ofF_len, List.take_of_length_le (by rw [ofF_len]; exact Nat.le_refl _)] at e4
      exact ⟨D, _, rfl, SqL.of e4, fun p H5 x5 n5 h5 => q p H5 (x4.trans x5) h5⟩
end
end K68
namespace K68
open PySem PySem.Spec PyProof.Rows L2 GxR MM
section
variable {P : Program} {w : World} {K : PySem.W.Frag} {mg : Str → Option Value} {base : Heap} {f : Addr} {fd : FuncData} {n : Nat}
/-- the row that comes where the two change at some meetings alone -/
def ledT (gs : List Int) (x : List Int) (told : List Nat) : List Int := told.foldl (fun y k => swL y (gapN gs k)) x
theorem ledT_ok {m : Nat} {gs : List Int} (hB : BookOk m gs) : ∀ (told : List Nat) {x : List Int}, (∀ k ∈ told, k < gs.length) → IsRow x → x.length = m → IsRow (ledT gs x told) ∧ (ledT gs x told).length = m
  | [], _, _, hr, hl => ⟨hr, hl⟩
  | k :: told, x, ht, hr, hl => by
    have hg := gap_lt hB (ht k List.mem_cons_self)
    exact ledT_ok hB told (x := swL x (gapN gs k)) (fun z hz => ht z (List.mem_cons_of_mem _ hz)) (sw_row (by omega) hr) (by rw [sw_len (by omega)]; exact hl)
theorem ledT_snoc (gs x : List Int) (told : List Nat) (k : Nat) : ledT gs x (told ++ [k]) = swL (ledT gs x told) (gapN gs k) := by
  unfold ledT
  rw [List.foldl_append]; rfl
def spLed (K : PySem.W.Frag) : Sp := fun vs H Q _ => ∃ (a l : Addr) (gs : List Int) (told : List Nat) (m : Nat), vs = [.ref a, .int m, .ref l] ∧ SqT K H a (gs.map V.int) ∧ SqL K H l (told.map fun (k : Nat) => V.int (k : Int)) ∧ BookOk m gs ∧ (∀ k ∈ told, k < gs.length) ∧ 1 ≤ m ∧ m ≤ 9 ∧ ∀ p H', Ex H H' → FTup H' p ((ledT gs (row0 m) told).map V.int) → Q (.ref p) H'
theorem d_law_led (F : FnP K "_law_led" s_law_led f fd) (g : mg "_law_led" = some (.ref f)) (B : Bl mg) (C_law_changed : CallD P w K mg base n "_law_changed" ["line", "spot"] spChangedF) : CallD P w K mg base (n + 1) "_law_led" ["plan", "size", "told"] (spLed K) := by
  refine callD F g sc_law_led (fun _ _ _ _ _ _ us hl => match us, hl with | [_, _, _], _ => rfl) (fun vs H Q E h => ?_) (fun cdv A outer s H vs Q E _ hr hG h => ?_)
  · obtain ⟨a, l, gs, told, m, rfl, _⟩ := h; rfl
  · obtain ⟨a, l, gs, told, m, rfl, hT, hL, hB, ht, h1, h9, q⟩ := h
    refine ⟨_, (pss_cons (ps_set (i := 4) sc_law_led.nd rfl (Or.inl rfl) (k_tupOfF (K := K) rfl (by rfl) B.tuple (pe_lc (own := [("k", 3)]) (g := gName 3) rfl sc_law_led.nd (pi_range1 rfl B.range (pa_cons (pv 1) pa_nil)) (blkOk_by (N := N_law_led) (sc := defScope s_law_led) (by decide +kernel)) (fun _ _ _ _ _ => (pg_name (i := 3) sc_law_led.nd rfl (by first | exact Or.inl rfl | exact Or.inr rfl))) (fun _ _ _ _ _ => pts_nil) (fun _ _ _ _ _ => (pv 3)))))
      (pss_cons (ps_for PassesOwn.never rfl (k_piL (K := K) rfl (pv 2)) (pg_name (i := 3) sc_law_led.nd rfl (Or.inl rfl))
      (pss_one (ps_set (i := 4) sc_law_led.nd rfl (Or.inl rfl) (pe_c C_law_changed hr hG (pa_cons (pv 4) (pa_cons (pe_ix (k_ixt (K := K) rfl) (pv 0) (pv 3) (fun _ _ => rfl)) pa_nil))))))
      (pss_one (ps_ret (pv 4))))), ?_⟩
    have sl : sizeLine = 16777216 := by decide
    refine ⟨_, rfl, _, rfl, by omega, by omega, fun D nD => ?_⟩
    refine lc_it walk_range (fun i H2 => Ex H H2 ∧ H2 D = some (.lst ((row0 i).map V.int))) ⟨ex_new nD, upd_same⟩ (fun _ _ _ _ => trivial) ?_ ?_
    · rintro i x H2' H2 hi ⟨x2, e2⟩ ⟨rfl, rfl⟩
      refine ⟨rfl, yes_go ⟨_, rfl, ?_⟩⟩
      refine ⟨_, e2, by rw [List.length_map, row0_len, sl]; omega, x2.then (ex_set e2) fun y hy => .inl (hy ▸ nD), ?_⟩
      rw [upd_same, show row0 (i + 1) = row0 i ++ [(i : Int)] by unfold row0; rw [List.range_succ, List.map_append]; rfl, List.map_append]
      simp
    rintro H2 ⟨x2, e2⟩
    rw [Int.toNat_natCast] at e2
    refine ⟨D, _, rfl, SqL.of e2, fun p H3 x3 n3 h3 => ?_⟩
    have y3 := x2.trans x3
    refine ⟨_, rfl, l, rfl, ⟨_, y3.sql hL id⟩, for_it (walk_list (xs := told.map fun (k : Nat) => V.int (k : Int))) (fun i σ H5 => ∃ (p : Addr) (v3 : Option V), σ = [some (.ref a), some (.int m), some (.ref l), v3, some (.ref p)] ∧ Ex H H5 ∧ FTup H5 p ((ledT gs (row0 m) (told.take i)).map V.int)) ⟨p, _, rfl, y3, h3⟩ (fun i σ H5 _ ⟨_, _, _, x, _⟩ => x.sql hL) ?_ ?_⟩
    · rintro i x σ H5' H5 hi ⟨p, v3, rfl, x5, hp⟩ ⟨rfl, hx⟩
      rw [List.length_map] at hi
      have hti : told[i]? = some told[i] := List.getElem?_eq_getElem hi
      rw [List.getElem?_map, hti] at hx
      cases hx
      have hk := ht told[i] (List.getElem_mem hi)
      obtain ⟨gp, eg, hg⟩ := book_at hB hk
      have egp : gapN gs told[i] = gp := by unfold gapN; rw [eg, Int.toNat_natCast]
      obtain ⟨r1, l1⟩ := ledT_ok hB (told.take i) (fun z hz => ht z (List.mem_of_mem_take hz)) (row0_row h1 h9) (row0_len m)
      refine ⟨_, rfl, _, rfl, _, rfl, a, _, _, _, rfl, rfl, x5.sqt hT, at_of rfl (row_get hk), ?_⟩
      refine ⟨p, _, gp, by rw [eg]; rfl, hp, by rw [l1]; exact hg, by rw [l1]; exact h9, fun p2 H6 x6 hp2 => ?_⟩
      refine ⟨p2, _, rfl, x5.trans x6, ?_⟩
      rw [List.take_add_one, hti]
      show FTup _ _ ((ledT gs (row0 m) (told.take i ++ [told[i]])).map V.int)
      rw [ledT_snoc, egp]; exact hp2
    · rintro σ H5 ⟨p, v3, rfl, x5, hp⟩
      rw [List.length_map, List.take_length] at hp
      exact ⟨_, rfl, q p H5 x5 hp⟩
end
end K68
namespace MM
open PySem PySem.Spec PyProof.Rows L2 GxR
/-! ### the goings by changes -/
/-- how many of the goings from y through gs to rr change c times -/
def cg (rr gs y : List Int) (c : Nat) : Nat := ((goL rr gs y).filter fun w => w.count true == c).length
theorem cg_nil (rr y : List Int) (c : Nat) : cg rr [] y c = if y = rr ∧ c = 0 then 1 else 0 := by
  show ((if y = rr then [[]] else [] : List (List Bool)).filter fun w => w.count true == c).length = _
  by_cases h : y = rr
  · rw [if_pos h]
    by_cases hc : c = 0
    · rw [if_pos ⟨h, hc⟩, hc]; rfl
    · rw [if_neg (fun z => hc z.2), List.filter_cons_of_neg (by simpa using fun z => hc z.symm)]; rfl
  · rw [if_neg h, if_neg (fun z => h z.1)]; rfl
theorem cg_cons (rr gs y : List Int) (g : Int) (c : Nat) : cg rr (g :: gs) y c = cg rr gs y c + if c = 0 then 0 else cg rr gs (swL y g.toNat) (c - 1) := by
  show ((List.map (false :: ·) (goL rr gs y) ++ List.map (true :: ·) (goL rr gs (swL y g.toNat))).filter fun w => w.count true == c).length = _
  rw [List.filter_append, List.length_append, List.filter_map, List.filter_map, List.length_map, List.length_map]
  unfold cg
  have e1 : ((fun w : List Bool => w.count true == c) ∘ fun x => false :: x) = fun w => w.count true == c := by
    funext w; simp [Function.comp]
  rw [e1]
  congr 1
  by_cases hc : c = 0
  · rw [if_pos hc, List.length_eq_zero_iff, List.filter_eq_nil_iff]
    intro w _
    simp [Function.comp, hc]
  · rw [if_neg hc]
    congr 2
    funext w
    simp only [Function.comp, List.count_cons_self]
    rw [Bool.eq_iff_iff, beq_iff_eq, beq_iff_eq]
    omega
theorem cg_snoc {m : Nat} {g : Int} : ∀ {gs rr y : List Int} {c : Nat}, BookOk m gs → 0 ≤ g ∧ g + 2 ≤ m → rr.length = m → y.length = m → cg rr (gs ++ [g]) y c = cg rr gs y c + if c = 0 then 0 else cg (swL rr g.toNat) gs y (c - 1)
  | [], rr, y, c, _, hg, hr, hy => by
    show cg rr (g :: []) y c = _
    rw [cg_cons]
    congr 1
    split
    · rfl
    · rw [cg_nil, cg_nil]
      have : swL y g.toNat = rr ↔ y = swL rr g.toNat := ⟨fun h => by rw [← h, sw_sw (by omega)], fun h => by rw [h, sw_sw (by omega)]⟩
      by_cases p : swL y g.toNat = rr ∧ c - 1 = 0
      · rw [if_pos p, if_pos ⟨this.mp p.1, p.2⟩]
      · rw [if_neg p, if_neg fun z => p ⟨this.mpr z.1, z.2⟩]
  | b :: gs, rr, y, c, hb, hg, hr, hy => by
    have hb' : BookOk m gs := fun z hz => hb z (List.mem_cons_of_mem _ hz)
    have hbb := hb b List.mem_cons_self
    have hys : (swL y b.toNat).length = m := by rw [sw_len (by omega)]; exact hy
    have eA := cg_snoc (c := c) hb' hg hr hy
    have eB := cg_snoc (c := c - 1) hb' hg hr hys
    have eC := cg_cons rr gs y b c
    have eD := cg_cons (swL rr g.toNat) gs y b (c - 1)
    have eE := cg_cons rr (gs ++ [g]) y b c
    show cg rr (b :: (gs ++ [g])) y c = _
    rw [eE, eA, eC]
    by_cases hc : c = 0
    · simp only [if_pos hc]
    · simp only [if_neg hc]
      rw [eB, eD]
      by_cases hc1 : c - 1 = 0
      · simp only [if_pos hc1]; omega
      · simp only [if_neg hc1]; omega
theorem cons_getD (l : List Int) (c : Nat) : ((0 : Int) :: l).getD c 0 = if c = 0 then 0 else l.getD (c - 1) 0 := by
  cases c with
  | zero => rfl
  | succ c => rw [if_neg (by omega)]; rfl
theorem spS_cg {m : Nat} {gs : List Int} (hB : BookOk m gs) : ∀ i, i ≤ gs.length → ∀ {x : List Int} (c : Nat), x.length = m → (spS m gs i x).getD c 0 = ((cg x (gs.take i) (row0 m) c : Nat) : Int)
  | 0, _, x, c, hx => by
    rw [List.take_zero, cg_nil]
    show (if x = row0 m then [1] else [] : List Int).getD c 0 = _
    by_cases h : x = row0 m
    · rw [if_pos h]
      cases c with
      | zero => rw [if_pos ⟨h.symm, rfl⟩]; rfl
      | succ c => rw [if_neg (fun z => by omega)]; rfl
    · rw [if_neg h, if_neg (fun z => h z.1.symm)]; rfl
  | i + 1, hi, x, c, hx => by
    have hil : i < gs.length := hi
    obtain ⟨gp, eg, hg⟩ := book_at hB hil
    have egp : gapN gs i = gp := by unfold gapN; rw [eg, Int.toNat_natCast]
    have et : gs.take (i + 1) = gs.take i ++ [gs.getD i 0] := by rw [List.take_add_one, getD_some hil]; rfl
    have hb' : BookOk m (gs.take i) := fun z hz => hB z (List.mem_of_mem_take hz)
    have hsl : (swL x gp).length = m := by rw [sw_len (by omega)]; exact hx
    have ih1 := spS_cg hB i (by omega) (x := x) c hx
    have ih2 := fun c' => spS_cg hB i (by omega) (x := swL x gp) c' hsl
    rw [et, cg_snoc hb' (by rw [eg]; omega) hx (row0_len m), eg, Int.toNat_natCast]
    show (spN (gapN gs i) (spS m gs i) x).getD c 0 = _
    rw [egp]
    unfold spN
    by_cases h : spS m gs i x = [] ∧ spS m gs i (swL x gp) = []
    · rw [if_pos h]
      have a1 := ih1
      rw [h.1] at a1
      have a2 := ih2 (c - 1)
      rw [h.2] at a2
      have z1 : ([] : List Int).getD c 0 = 0 := rfl
      have z2 : ([] : List Int).getD (c - 1) 0 = 0 := rfl
      rw [z1] at a1 ⊢
      rw [z2] at a2
      split <;> omega
    · rw [if_neg h, oneMore_at, cons_getD, ih1]
      by_cases hc : c = 0
      · rw [if_pos hc, if_pos hc]; simp
      · rw [if_neg hc, if_neg hc, ih2, Int.natCast_add]
end MM
namespace MM
open PySem PySem.Spec PyProof.Rows L2 GxR
theorem tri6 : ∀ k, k < 7 → triN k ≤ 15 := by decide
theorem pairs15 {x : List Int} (r : IsRow x) (h : x.length ≤ 6) : pairsN x ≤ 15 := by
  obtain ⟨a, b, hI, e⟩ := r.inv
  have h1 := runs_tri hI x.length (Nat.le_refl _)
  have h2 := runs_pairs hI
  rw [← e] at h2
  have := tri6 x.length (by omega)
  omega
/-! ### what was found, kept row by row -/
structure KnW (m : Nat) (kvs : List (List Key × V)) : Prop where
  rows : RowsE m kvs
  val : ∀ x v, IsRow x → x.length = m → valV kvs (rk x) = some v → v = .int ((nrw (pairsN x) x : Nat) : Int)
theorem KnW.le {m : Nat} {kvs : List (List Key × V)} (h : KnW m kvs) (h6 : m ≤ 6) : kvs.length ≤ 531441 := let ⟨_, r⟩ := h.rows; r.le h6
theorem KnW.nil {m : Nat} : KnW m [] := ⟨RowsE.nil, fun _ _ _ _ h => nomatch h⟩
theorem KnW.put {m : Nat} {kvs : List (List Key × V)} (h : KnW m kvs) {ns : List Int} (hR : IsRow ns) (hl : ns.length = m) : KnW m (putK kvs (rk ns) (.int ((nrw (pairsN ns) ns : Nat) : Int))) := by
  refine ⟨h.rows.put hR hl _, fun x v hr hx e => ?_⟩
  rw [valV_put] at e
  by_cases c : rk x = rk ns
  · rw [if_pos c] at e
    rw [rk_inj c]; exact (Option.some.inj e).symm
  · rw [if_neg c] at e; exact h.val x v hr hx e
/-- the sum behind the gaps ahead of i -/
def totW (ns : List Int) (i : Nat) : Nat := if pairsN ns = 0 then 1 else upto (pairsN ns - 1) ns i
theorem totW_zero (ns : List Int) : totW ns 0 = if pairsN ns = 0 then 1 else 0 := by
  unfold totW; split <;> rfl
theorem totW_fall {ns : List Int} {i : Nat} (hi : i + 1 < ns.length) (h : Fall ns i) : totW ns (i + 1) = totW ns i + nrw (pairsN (swL ns i)) (swL ns i) := by
  have p := pairs_desc hi h
  unfold totW
  rw [if_neg (by omega), if_neg (by omega), upto_succ, if_pos h, show pairsN ns - 1 = pairsN (swL ns i) by omega]
theorem totW_stay {ns : List Int} {i : Nat} (h : ¬ Fall ns i) : totW ns (i + 1) = totW ns i := by
  unfold totW
  split
  · rfl
  · rw [upto_succ, if_neg h]; rfl
theorem totW_all (ns : List Int) : totW ns (ns.length - 1) = nrw (pairsN ns) ns := by
  unfold totW
  split
  · rename_i h; rw [h]; rfl
  · rename_i h
    obtain ⟨r, hr⟩ : ∃ r, pairsN ns = r + 1 := ⟨pairsN ns - 1, by omega⟩
    rw [hr, nrw_succ]; rfl
end MM
namespace MM
open PySem PySem.Spec PyProof.Rows L2 GxR
/-! ### shortest books read from the end -/
theorem runW_app : ∀ (y : List Int) (a b : List Nat), runW y (a ++ b) = runW (runW y a) b
  | _, [], _ => rfl
  | y, g :: a, b => runW_app (swL y g) a b
theorem runW_ok {m : Nat} : ∀ {w : List Nat} {y : List Int}, (∀ g ∈ w, g + 1 < m) → IsRow y → y.length = m → IsRow (runW y w) ∧ (runW y w).length = m
  | [], _, _, hr, hl => ⟨hr, hl⟩
  | g :: w, y, hw, hr, hl => by
    have hg := hw g List.mem_cons_self
    exact runW_ok (w := w) (y := swL y g) (fun x hx => hw x (List.mem_cons_of_mem _ hx)) (sw_row (by omega) hr) (by rw [sw_len (by omega)]; exact hl)
def rwI (p : List Nat × List Int) (n : Nat) : List (List Nat × List Int) := (List.range n).flatMap fun g => if Fall p.2 g then [(g :: p.1, swL p.2 g)] else []
def rwS (L : List (List Nat × List Int)) : List (List Nat × List Int) := L.flatMap fun p => rwI p (p.2.length - 1)
def rwL (x : List Int) : Nat → List (List Nat × List Int)
  | 0 => [([], x)]
  | k + 1 => rwS (rwL x k)
theorem rwI_succ (p : List Nat × List Int) (n : Nat) : rwI p (n + 1) = rwI p n ++ (if Fall p.2 n then [(n :: p.1, swL p.2 n)] else []) := by
  unfold rwI
  rw [List.range_succ, List.flatMap_append]
  congr 1
  simp
theorem rwS_snoc (L : List (List Nat × List Int)) (p : List Nat × List Int) : rwS (L ++ [p]) = rwS L ++ rwI p (p.2.length - 1) := by
  unfold rwS
  rw [List.flatMap_append]
  congr 1
  simp
theorem mem_rwI {p q : List Nat × List Int} {n : Nat} : q ∈ rwI p n ↔ ∃ g, g < n ∧ Fall p.2 g ∧ q = (g :: p.1, swL p.2 g) := by
  unfold rwI
  rw [List.mem_flatMap]
  constructor
  · rintro ⟨g, hg, h⟩
    by_cases c : Fall p.2 g
    · rw [if_pos c] at h
      exact ⟨g, List.mem_range.mp hg, c, List.mem_singleton.mp h⟩
    · rw [if_neg c] at h; exact nomatch h
  · rintro ⟨g, hg, c, rfl⟩
    exact ⟨g, List.mem_range.mpr hg, by rw [if_pos c]; exact List.mem_singleton.mpr rfl⟩
theorem mem_rwL {m : Nat} {x : List Int} (hr : IsRow x) (hl : x.length = m) : ∀ {k : Nat} {w : List Nat} {z : List Int}, (w, z) ∈ rwL x k ↔ w.length = k ∧ (∀ g ∈ w, g + 1 < m) ∧ runW x w.reverse = z ∧ pairsN z + k = pairsN x
  | 0, w, z => by
    constructor
    · intro h
      have e := List.mem_singleton.mp h
      injection e with e1 e2
      subst e1 e2
      exact ⟨rfl, (fun _ z => nomatch z), rfl, rfl⟩
    · rintro ⟨h, _, e, _⟩
      obtain rfl := List.length_eq_zero_iff.mp h
      subst e
      exact List.mem_singleton.mpr rfl
  | k + 1, w, z => by
    show (w, z) ∈ (rwL x k).flatMap _ ↔ _
    rw [List.mem_flatMap]
    constructor
    · rintro ⟨⟨s, l⟩, hp, hq⟩
      obtain ⟨g, hg, c, e⟩ := mem_rwI.mp hq
      injection e with e1 e2
      obtain ⟨a, b, er, ep⟩ := (mem_rwL hr hl).mp hp
      have hll : l.length = m := by rw [← er]; exact (runW_ok (fun g hg => b g (List.mem_reverse.mp hg)) hr hl).2
      have hg' : g + 1 < m := by simp only at hg; omega
      have hpd := pairs_desc (x := l) (g := g) (by omega) c
      subst e1 e2
      refine ⟨by rw [List.length_cons, a], fun y hy => ?_, ?_, ?_⟩
      · rcases List.mem_cons.mp hy with h | h
        · rw [h]; exact hg'
        · exact b y h
      · rw [List.reverse_cons, runW_app, er]; rfl
      · show pairsN (swL l g) + (k + 1) = _; omega
    · rintro ⟨a, b, er, ep⟩
      cases w with
      | nil => cases a
      | cons g s =>
        have hg := b g List.mem_cons_self
        have b' : ∀ y ∈ s, y + 1 < m := fun y hy => b y (List.mem_cons_of_mem _ hy)
        have br : ∀ y ∈ s.reverse, y + 1 < m := fun y hy => b' y (List.mem_reverse.mp hy)
        have hs : s.length = k := by simpa using a
        obtain ⟨r1, l1⟩ := runW_ok br hr hl
        rw [List.reverse_cons, runW_app] at er
        have er' : swL (runW x s.reverse) g = z := er
        have p1 := run_pairs br hr hl
        rw [List.length_reverse, hs] at p1
        have hg2 : g + 1 < (runW x s.reverse).length := by omega
        have c : Fall (runW x s.reverse) g := by
          apply Decidable.byContradiction
          intro c
          have hne := row_ne r1 hg2
          have up : (runW x s.reverse).getD g 0 < (runW x s.reverse).getD (g + 1) 0 := by
            have c' : ¬ (runW x s.reverse).getD (g + 1) 0 < (runW x s.reverse).getD g 0 := c
            omega
          have p2 := pairs_sw hg2 up
          rw [er'] at p2
          omega
        have p2 := pairs_desc hg2 c
        rw [er'] at p2
        exact ⟨(s, runW x s.reverse), (mem_rwL hr hl).mpr ⟨hs, b', rfl, by omega⟩, mem_rwI.mpr ⟨g, by simp only; omega, c, by rw [er']⟩⟩
theorem rwL_nodup (x : List Int) : ∀ k, ((rwL x k).map (·.1)).Nodup
  | 0 => List.pairwise_singleton _ _
  | k + 1 => by
    have ih := rwL_nodup x k
    unfold List.Nodup at ih ⊢
    show ((rwS (rwL x k)).map (·.1)).Pairwise _
    rw [List.pairwise_map] at ih ⊢
    unfold rwS
    rw [List.pairwise_flatMap]
    refine ⟨fun p _ => ?_, ih.imp fun {p q} h u hu v hv e => ?_⟩
    · unfold rwI
      rw [List.pairwise_flatMap]
      refine ⟨fun g _ => ?_, List.pairwise_lt_range.imp fun {a b} h u hu v hv e => ?_⟩
      · split
        · exact List.pairwise_singleton _ _
        · exact List.Pairwise.nil
      · split at hu
        · split at hv
          · rw [List.mem_singleton.mp hu, List.mem_singleton.mp hv] at e
            injection e with e1 e2
            omega
          · exact nomatch hv
        · exact nomatch hu
    · obtain ⟨g, _, _, rfl⟩ := mem_rwI.mp hu
      obtain ⟨g', _, _, rfl⟩ := mem_rwI.mp hv
      injection e with e1 e2
      exact h e2
theorem listed_mem {m : Nat} {a b : Nat → Nat} (h1 : 1 ≤ m) (h9 : m ≤ 9) (hI : IsInv m a b) {k : Nat} (hp : pairsN (ofF m a) = k) (w : List Nat) : w ∈ (rwL (ofF m a) k).map (·.1) ↔ w ∈ LW k (ofF m b) := by
  have ra := row_ofF h1 h9 hI
  have rb := row_ofF h1 h9 hI.symm
  have pb : pairsN (ofF m b) = k := by rw [pairs_back h1 h9 hI]; exact hp
  rw [mem_LW (m := m) rb (ofF_len _ _) pb, List.mem_map]
  constructor
  · rintro ⟨⟨w', z⟩, h, rfl⟩
    obtain ⟨c1, c2, c3, c4⟩ := (mem_rwL ra (ofF_len m a)).mp h
    refine ⟨c1, c2, (run_back hI c2).mp ?_⟩
    obtain ⟨r1, l1⟩ := runW_ok (m := m) (fun g hg => c2 g (List.mem_reverse.mp hg)) ra (ofF_len m a)
    have := no_pairs r1 (by rw [c3]; omega)
    rw [l1] at this; exact this
  · rintro ⟨c1, c2, c3⟩
    exact ⟨(w, row0 m), (mem_rwL ra (ofF_len m a)).mpr ⟨c1, c2, (run_back hI c2).mpr c3, by rw [pairs_row00]; omega⟩, rfl⟩
/-- always changing by such a word leads to the row -/
theorem far_words {m : Nat} : ∀ {v : List Nat} {x : List Int}, (∀ g ∈ v, g + 1 < m) → IsRow x → x.length = m → pairsN x = v.length → runW x v = row0 m → farL (row0 m) (nI v.reverse) = x
  | [], x, _, hr, hl, hp, e => e.symm
  | g :: v, x, hv, hr, hl, hp, e => by
    have hg := hv g List.mem_cons_self
    have hv' : ∀ y ∈ v, y + 1 < m := fun y hy => hv y (List.mem_cons_of_mem _ hy)
    have hgx : g + 1 < x.length := by omega
    have c : Fall x g := by
      apply Decidable.byContradiction
      intro c
      have hne := row_ne hr hgx
      have up : x.getD g 0 < x.getD (g + 1) 0 := by
        have c' : ¬ x.getD (g + 1) 0 < x.getD g 0 := c
        omega
      have p1 := pairs_sw hgx up
      have p2 := run_pairs (m := m) hv' (sw_row hgx hr) (by rw [sw_len hgx]; exact hl)
      rw [show runW (swL x g) v = row0 m from e, pairs_row00] at p2
      rw [List.length_cons] at hp
      omega
    have p := pairs_desc hgx c
    rw [List.length_cons] at hp
    have ih := far_words hv' (sw_row hgx hr) (by rw [sw_len hgx]; exact hl) (by omega) (show runW (swL x g) v = row0 m from e)
    have ea : nI (g :: v).reverse = nI v.reverse ++ [(g : Int)] := by
      rw [List.reverse_cons]; unfold nI; rw [List.map_append]; rfl
    rw [ea, farL_app, ih]
    exact far_desc (l := []) hgx c
theorem far_LW {m : Nat} {a b : Nat → Nat} (h1 : 1 ≤ m) (h9 : m ≤ 9) (hI : IsInv m a b) {k : Nat} (hp : pairsN (ofF m a) = k) {w : List Nat} (h : w ∈ LW k (ofF m b)) : farL (row0 m) (nI w) = ofF m a ∧ w.length = k ∧ ∀ g ∈ w, g + 1 < m := by
  have ra := row_ofF h1 h9 hI
  have rb := row_ofF h1 h9 hI.symm
  have pb : pairsN (ofF m b) = k := by rw [pairs_back h1 h9 hI]; exact hp
  obtain ⟨c1, c2, c3⟩ := (mem_LW (m := m) rb (ofF_len _ _) pb).mp h
  have := far_words (m := m) (v := w.reverse) (fun g hg => c2 g (List.mem_reverse.mp hg)) ra (ofF_len m a) (by rw [List.length_reverse, hp, c1]) ((run_back hI c2).mpr c3)
  rw [List.reverse_reverse] at this
  exact ⟨this, c1, c2⟩
/-! #### words sorted -/
def pw (w : List Nat) : PyData := .tuple ((nI w).map PyData.int)
theorem pw_alike (a b : List Nat) : PySem.W.alike (pw a) (pw b) = true := by
  unfold pw
  generalize nI a = x; generalize nI b = y
  simp [PySem.W.alike, MM.alike_ints]
theorem pw_lt (a b : List Nat) : PySem.W.dataLt (pw a) (pw b) = decide (a < b) := by
  unfold pw
  rw [PySem.W.dataLt_tuple]
  have h3 := PySem.W.dataLt_ints (nI a) (nI b)
  unfold PySem.W.rowLt at h3
  rw [h3, Bool.eq_iff_iff, decide_eq_true_iff, decide_eq_true_iff, nI_lt]
theorem le_pw (x y : List Nat) : PySem.W.dataLe false pw x y = decide (x ≤ y) := by
  rw [PySem.W.dataLe_eq]
  show (!PySem.W.dataLt (pw y) (pw x)) = _
  rw [pw_lt, Bool.eq_iff_iff]
  simp only [Bool.not_eq_true', decide_eq_false_iff_not, decide_eq_true_eq]
  exact ⟨fun h => List.not_lt.mp h, fun h => List.not_lt.mpr h⟩
theorem strictN {l : List (List Nat)} (hs : l.Pairwise (· ≤ ·)) (hn : l.Nodup) : l.Pairwise (· < ·) := by
  refine List.Pairwise.imp ?_ (List.pairwise_and_iff.mpr ⟨hs, hn⟩)
  rintro a b ⟨h, hne⟩
  exact (List.le_iff_lt_or_eq.mp h).resolve_right hne
theorem sort_words (bs : List (V × List Nat)) (hn : (bs.map (·.2)).Nodup) : ∃ L : List (V × List Nat), L.Perm bs ∧ (L.map (·.2)).Pairwise (· < ·) ∧
    ((bs.map fun p => (p.1, pw p.2)).mergeSort (PySem.W.dataLe false (fun p : V × PyData => p.2))).map (·.1) = L.map (·.1) := by
  refine ⟨bs.mergeSort fun p q => decide (p.2 ≤ q.2), List.mergeSort_perm _ _, ?_, ?_⟩
  · refine strictN ?_ (((List.mergeSort_perm bs _).map (·.2)).nodup_iff.mpr hn)
    rw [List.pairwise_map]
    have := List.pairwise_mergeSort (le := fun p q : V × List Nat => decide (p.2 ≤ q.2)) (fun a b c h1 h2 => decide_eq_true (List.le_trans (of_decide_eq_true h1) (of_decide_eq_true h2))) (fun a b => by
      rcases List.le_total a.2 b.2 with h | h
      · simp [h]
      · simp [h]) bs
    exact this.imp fun h => of_decide_eq_true h
  · have := List.map_mergeSort (r := fun p q : V × List Nat => decide (p.2 ≤ q.2)) (s := PySem.W.dataLe false (fun p : V × PyData => p.2)) (f := fun p : V × List Nat => (p.1, pw p.2)) (l := bs) (fun a _ b _ => (le_pw a.2 b.2).symm)
    rw [← this, List.map_map]
    rfl
theorem words_eq : ∀ {l1 l2 : List (List Nat)}, l1.Pairwise (· < ·) → l2.Pairwise (· < ·) → (∀ x, x ∈ l1 ↔ x ∈ l2) → l1 = l2
  | [], [], _, _, _ => rfl
  | [], y :: l2, _, _, h => absurd ((h y).mpr List.mem_cons_self) (by simp)
  | x :: l1, [], _, _, h => absurd ((h x).mp List.mem_cons_self) (by simp)
  | x :: l1, y :: l2, p1, p2, h => by
    obtain ⟨a1, a2⟩ := List.pairwise_cons.mp p1
    obtain ⟨b1, b2⟩ := List.pairwise_cons.mp p2
    have e : x = y := by
      rcases List.mem_cons.mp ((h x).mp List.mem_cons_self) with z | z
      · exact z
      · rcases List.mem_cons.mp ((h y).mpr List.mem_cons_self) with w | w
        · exact w.symm
        · exact absurd (lex_trans (b1 x z) (a1 y w)) lex_irr
    subst e
    rw [words_eq a2 b2 fun z => ⟨fun hz => ?_, fun hz => ?_⟩]
    · rcases List.mem_cons.mp ((h z).mp (List.mem_cons_of_mem _ hz)) with w | w
      · exact absurd (w ▸ a1 z hz) lex_irr
      · exact w
    · rcases List.mem_cons.mp ((h z).mpr (List.mem_cons_of_mem _ hz)) with w | w
      · exact absurd (w ▸ b1 z hz) lex_irr
      · exact w
end MM
namespace MM
open PySem PySem.Spec PyProof.Rows L2 GxR
/-! ### the words listed from the end: how many -/
theorem rwI_pre (p : List Nat × List Int) (n : Nat) : ∀ d, ∃ t, rwI p (n + d) = rwI p n ++ t
  | 0 => ⟨[], (List.append_nil _).symm⟩
  | d + 1 => by
    obtain ⟨t, e⟩ := rwI_pre p n d
    exact ⟨_, by rw [show n + (d + 1) = (n + d) + 1 from rfl, rwI_succ, e, List.append_assoc]⟩
theorem rwI_le {p : List Nat × List Int} {n n' : Nat} (h : n ≤ n') : (rwI p n).length ≤ (rwI p n').length := by
  obtain ⟨t, e⟩ := rwI_pre p n (n' - n)
  rw [show n + (n' - n) = n' by omega] at e
  rw [e, List.length_append]; omega
theorem rwS_take {L : List (List Nat × List Int)} {j : Nat} {p : List Nat × List Int} (h : L[j]? = some p) : rwS (L.take (j + 1)) = rwS (L.take j) ++ rwI p (p.2.length - 1) := by
  rw [List.take_add_one, h]
  exact rwS_snoc _ _
theorem rwS_pre (L : List (List Nat × List Int)) (j : Nat) : (rwS (L.take j)).length ≤ (rwS L).length := by
  have e : rwS L = rwS (L.take j) ++ rwS (L.drop j) := by
    unfold rwS
    rw [← List.flatMap_append, List.take_append_drop]
  rw [e, List.length_append]; omega
theorem rwS_part {L : List (List Nat × List Int)} {j i : Nat} {p : List Nat × List Int} (h : L[j]? = some p) (hi : i ≤ p.2.length - 1) : (rwS (L.take j) ++ rwI p i).length ≤ (rwS L).length := by
  have h1 := rwS_pre L (j + 1)
  rw [rwS_take h] at h1
  have h2 := rwI_le (p := p) hi
  rw [List.length_append] at h1 ⊢
  omega
theorem flat_ge {α β : Type} {f : α → List β} : ∀ {L : List α}, (∀ x ∈ L, 1 ≤ (f x).length) → L.length ≤ (L.flatMap f).length
  | [], _ => Nat.le_refl _
  | x :: L, h => by
    rw [List.flatMap_cons, List.length_append, List.length_cons]
    have h1 := h x List.mem_cons_self
    have h2 := flat_ge (L := L) fun y hy => h y (List.mem_cons_of_mem _ hy)
    omega
theorem rwL_up {m : Nat} {x : List Int} (hr : IsRow x) (hl : x.length = m) {k : Nat} (hk : k < pairsN x) : (rwL x k).length ≤ (rwL x (k + 1)).length := by
  refine flat_ge fun p hp => ?_
  obtain ⟨s, l⟩ := p
  obtain ⟨a, b, er, ep⟩ := (mem_rwL hr hl).mp hp
  obtain ⟨r1, l1⟩ := runW_ok (m := m) (fun g hg => b g (List.mem_reverse.mp hg)) hr hl
  rw [er] at r1 l1
  obtain ⟨g, hg, hf⟩ := has_desc r1 (by omega)
  exact List.length_pos_of_mem (mem_rwI.mpr ⟨g, by simp only; omega, hf, rfl⟩)
theorem rwL_mono {m : Nat} {x : List Int} (hr : IsRow x) (hl : x.length = m) : ∀ (d k : Nat), k + d = pairsN x → (rwL x k).length ≤ (rwL x (pairsN x)).length
  | 0, k, h => by rw [show k = pairsN x by omega]; exact Nat.le_refl _
  | d + 1, k, h => Nat.le_trans (rwL_up hr hl (by omega)) (rwL_mono hr hl d (k + 1) (by omega))
theorem rwL_le {m : Nat} {a b : Nat → Nat} (h1 : 1 ≤ m) (h9 : m ≤ 9) (hI : IsInv m a b) {k : Nat} (hk : k ≤ pairsN (ofF m a)) : (rwL (ofF m a) k).length ≤ nrw (pairsN (ofF m a)) (ofF m a) := by
  have ra := row_ofF h1 h9 hI
  refine Nat.le_trans (rwL_mono ra (ofF_len m a) (pairsN (ofF m a) - k) k (by omega)) ?_
  have P : ((rwL (ofF m a) (pairsN (ofF m a))).map (·.1)).Perm (LW (pairsN (ofF m a)) (ofF m b)) := by
    rw [List.perm_ext_iff_of_nodup (rwL_nodup _ _) (LW_nodup _ _)]
    exact listed_mem h1 h9 hI rfl
  have := P.length_eq
  rw [List.length_map] at this
  rw [this, ← nrw_inv h1 h9 hI rfl]
  exact Nat.le_refl _
theorem rwL_rows {m : Nat} {x : List Int} (hr : IsRow x) (hl : x.length = m) {k : Nat} {p : List Nat × List Int} (h : p ∈ rwL x k) : IsRow p.2 ∧ p.2.length = m ∧ p.1.length = k := by
  obtain ⟨s, l⟩ := p
  obtain ⟨a, b, er, ep⟩ := (mem_rwL hr hl).mp h
  obtain ⟨r1, l1⟩ := runW_ok (m := m) (fun g hg => b g (List.mem_reverse.mp hg)) hr hl
  rw [er] at r1 l1
  exact ⟨r1, l1, a⟩
theorem pw_depth (u : List Nat) : (pw u).depth ≤ 60 := by
  unfold pw
  generalize nI u = x
  simp [PyData.depth, PyData.depthAll, PySem.W.depth_ints]
theorem pairL {α β : Type} {F : α → β → Prop} {i : Nat} {x : α} : ∀ {l₁ : List α} {l₂ : List β}, Paired F l₁ l₂ → l₁[i]? = some x → ∃ y, l₂[i]? = some y ∧ F x y := by
  intro l₁ l₂ r
  induction r generalizing i with
  | nil => intro h; simp at h
  | cons h t ih =>
    intro hx
    cases i with
    | zero => cases hx; exact ⟨_, rfl, h⟩
    | succ i => exact ih hx
theorem pair_zip {α β : Type} {F : α → β → Prop} {l₁ : List α} {l₂ : List β} (r : Paired F l₁ l₂) : ∀ p ∈ l₁.zip l₂, F p.1 p.2 := by
  induction r with
  | nil => intro p h; exact nomatch h
  | cons h t ih =>
    intro p hp
    rcases List.mem_cons.mp hp with e | e
    · rw [e]; exact h
    · exact ih p e
theorem pair_of {α β : Type} {F : α → β → Prop} : ∀ {L : List (α × β)}, (∀ p ∈ L, F p.1 p.2) → Paired F (L.map (·.1)) (L.map (·.2))
  | [], _ => .nil
  | p :: L, h => .cons (h p List.mem_cons_self) (pair_of fun q hq => h q (List.mem_cons_of_mem _ hq))
end MM
namespace MM
open PySem PySem.Spec PyProof.Rows L2 GxR
theorem LW_cons {r N g : Nat} {y : List Int} {u : List Nat} (h : (LW (r + 1) y)[N]? = some (g :: u)) : g + 1 < y.length ∧ Fall y g ∧ upto r y g ≤ N ∧ (LW r (swL y g))[N - upto r y g]? = some u := by
  have hN : N < upto r y (y.length - 1) := (List.getElem?_eq_some_iff.mp h).1
  obtain ⟨gap, h1, h2, h3⟩ := upto_find _ hN
  obtain ⟨hF, hl, hA⟩ := LW_at h1 h2 h3
  rw [hA] at h
  obtain ⟨w, hw, e⟩ := Option.map_eq_some_iff.mp h
  injection e with e1 e2
  subst e1 e2
  exact ⟨by omega, hF, h2, hw⟩
/-- the people numbered so that p and the next one change -/
theorem inv_left {m p : Nat} {a b : Nat → Nat} (h : IsInv m a b) (hp : p + 1 < m) : IsInv m (fun i => trs p (a i)) (fun j => b (trs p j)) := (h.symm.tr hp).symm
def callsV (p : Nat) : List (Key × V) := [(.inl (p : Int), .int ((p : Int) + 1)), (.inl ((p : Int) + 1), .int (p : Int))]
theorem calls_val (p i : Nat) : (valV (callsV p) (Sum.inl (i : Int) : Key)).getD (.int (i : Int)) = .int ((trs p i : Nat) : Int) := by
  unfold callsV trs
  by_cases h1 : i = p
  · rw [if_pos h1, h1, valV_pos rfl]
    show V.int _ = V.int _
    congr 1
  · have n1 : ¬ (Sum.inl (p : Int) : Key) = Sum.inl (i : Int) := fun z => h1 (by injection z with z; omega)
    rw [if_neg h1, valV_neg n1]
    by_cases h2 : i = p + 1
    · rw [if_pos h2, h2, valV_pos (by congr 1)]; rfl
    · have n2 : ¬ (Sum.inl ((p : Int) + 1) : Key) = Sum.inl (i : Int) := fun z => h2 (by injection z with z; omega)
      rw [if_neg h2, valV_neg n2]; rfl
end MM
namespace MM
open PySem PySem.Spec PyProof.Rows L2 GxR
theorem nrw_le5 : ∀ (k : Nat) (y : List Int), y.length ≤ 6 → nrw k y ≤ 5 ^ k
  | 0, _, _ => Nat.le_refl _
  | k + 1, y, h => by
    have go : ∀ n, n ≤ y.length - 1 → upto k y n ≤ n * 5 ^ k := by
      intro n
      induction n with
      | zero => intro _; exact Nat.le_of_eq (by rw [upto_zero]; omega)
      | succ n ih =>
        intro hn
        have h1 := ih (by omega)
        have h2 := nrw_le5 k (swL y n) (by rw [sw_len (by omega)]; exact h)
        rw [upto_succ, Nat.succ_mul]
        split <;> omega
    rw [nrw_succ, Nat.pow_succ]
    have h1 := go (y.length - 1) (Nat.le_refl _)
    have h2 : (y.length - 1) * 5 ^ k ≤ 5 * 5 ^ k := Nat.mul_le_mul_right _ (by omega)
    omega
theorem nrw_big {y : List Int} (hr : IsRow y) (h : y.length ≤ 6) : nrw (pairsN y) y ≤ 30517578125 := by
  have h1 := nrw_le5 (pairsN y) y h
  have h2 : 5 ^ pairsN y ≤ 5 ^ 15 := Nat.pow_le_pow_right (by decide) (pairs15 hr h)
  have h3 : (5 : Nat) ^ 15 = 30517578125 := by decide
  omega
theorem divW_big {i j : Int} (h : 0 < j) (hj : j < 10 ^ 12) : CDivW i j := wide_div (b := 200) h (by
  have : j.natAbs < 10 ^ 12 := by
    have h2 : (10 : Int) ^ 12 = 1000000000000 := by decide
    have h3 : (10 : Nat) ^ 12 = 1000000000000 := by decide
    omega
  exact Nat.lt_trans this (by decide)) (by decide) (by decide)
end MM
namespace MM
open PySem PySem.Spec PyProof.Rows L2 GxR
/-! ### in how many ways a word is found within a book -/
def emb : List Nat → List Int → Nat
  | [], _ => 1
  | _ :: _, [] => 0
  | x :: u, g :: gs => emb (x :: u) gs + if g.toNat = x then emb u gs else 0
theorem emb_nil (gs : List Int) : emb [] gs = 1 := by cases gs <;> rfl
theorem emb_none (x : Nat) (u : List Nat) : emb (x :: u) [] = 0 := rfl
theorem emb_cons (x : Nat) (u : List Nat) (g : Int) (gs : List Int) : emb (x :: u) (g :: gs) = emb (x :: u) gs + if g.toNat = x then emb u gs else 0 := rfl
theorem emb_snoc (x : Nat) (g : Int) : ∀ (gs : List Int) (u : List Nat), emb (u ++ [x]) (gs ++ [g]) = emb (u ++ [x]) gs + if g.toNat = x then emb u gs else 0
  | [], [] => rfl
  | [], a :: u => by
    show emb (a :: (u ++ [x])) [g] = emb (a :: (u ++ [x])) [] + if g.toNat = x then emb (a :: u) [] else 0
    rw [emb_cons, emb_none, emb_none]
    have : emb (u ++ [x]) [] = 0 := by cases u <;> rfl
    rw [this]; simp
  | h :: t, [] => by
    show emb (x :: []) (h :: (t ++ [g])) = emb (x :: []) (h :: t) + if g.toNat = x then emb [] (h :: t) else 0
    have ih := emb_snoc x g t []
    rw [List.nil_append] at ih
    rw [emb_cons, emb_cons, ih]; simp only [emb_nil]; omega
  | h :: t, a :: u => by
    show emb (a :: (u ++ [x])) (h :: (t ++ [g])) = emb (a :: (u ++ [x])) (h :: t) + if g.toNat = x then emb (a :: u) (h :: t) else 0
    have ih1 := emb_snoc x g t (a :: u)
    have ih2 := emb_snoc x g t u
    rw [List.cons_append] at ih1
    rw [emb_cons, emb_cons, emb_cons, ih1, ih2]
    by_cases p : g.toNat = x <;> by_cases q : h.toNat = a <;> simp only [p, q, if_true, if_false] <;> omega
theorem emb_pos : ∀ {gs : List Int} {u : List Nat}, u.Sublist (gs.map Int.toNat) → 0 < emb u gs
  | gs, [], _ => by rw [emb_nil]; exact Nat.one_pos
  | [], x :: u, h => by cases h
  | g :: gs, x :: u, h => by
    rw [emb_cons]
    cases h with
    | cons _ h => have := emb_pos h; omega
    | cons_cons _ h => have := emb_pos h; rw [if_pos rfl]; omega
/-! ### goings from another start -/
theorem sw_map {f : Int → Int} {z : List Int} {g : Nat} (h : g + 1 < z.length) : swL (z.map f) g = (swL z g).map f := by
  have d : ∀ i, i < z.length → (z.map f).getD i 0 = f (z.getD i 0) := fun i hi => by
    rw [List.getD_eq_getElem?_getD, List.getD_eq_getElem?_getD, List.getElem?_map, List.getElem?_eq_getElem hi]; rfl
  unfold swL
  rw [d g (by omega), d (g + 1) h]
  simp
theorem cg_map {m : Nat} {f : Int → Int} {rr : List Int} (hf : ∀ z, IsRow z → z.length = m → (z.map f = rr.map f ↔ z = rr)) : ∀ {gs z : List Int} (c : Nat), BookOk m gs → IsRow z → z.length = m → cg rr gs z c = cg (rr.map f) gs (z.map f) c
  | [], z, c, _, hr, hl => by
    rw [cg_nil, cg_nil]
    by_cases p : z = rr ∧ c = 0
    · rw [if_pos p, if_pos ⟨(hf z hr hl).mpr p.1, p.2⟩]
    · rw [if_neg p, if_neg fun w => p ⟨(hf z hr hl).mp w.1, w.2⟩]
  | g :: gs, z, c, hb, hr, hl => by
    have hg := hb g List.mem_cons_self
    have hb' : BookOk m gs := fun z hz => hb z (List.mem_cons_of_mem _ hz)
    rw [cg_cons, cg_cons, sw_map (by omega), cg_map hf c hb' hr hl, cg_map hf (c - 1) hb' (sw_row (by omega) hr) (by rw [sw_len (by omega)]; exact hl)]
theorem cg_inv {m : Nat} {gs : List Int} {a b : Nat → Nat} (h1 : 1 ≤ m) (h9 : m ≤ 9) (hI : IsInv m a b) (hB : BookOk m gs) (c : Nat) : cg (ofF m a) gs (row0 m) c = cg (row0 m) gs (ofF m b) c := by
  have hra := row_ofF h1 h9 hI
  have e0 : (row0 m).map (fun v => ((b v.toNat : Nat) : Int)) = ofF m b := by
    rw [row0_ofF]
    unfold ofF
    rw [List.map_map]
    exact List.map_congr_left fun i _ => by simp [Function.comp]
  have e1 : (ofF m a).map (fun v => ((b v.toNat : Nat) : Int)) = row0 m := by
    rw [row0_ofF]
    unfold ofF
    rw [List.map_map]
    refine List.map_congr_left fun i hi => ?_
    have := (hI.ab i (List.mem_range.mp hi)).2
    simp only [Function.comp, Int.toNat_natCast]
    rw [this]; rfl
  have key := cg_map (m := m) (f := fun v => ((b v.toNat : Nat) : Int)) (rr := ofF m a) (fun z hr hl => ?_) (gs := gs) (z := row0 m) c hB (row0_row h1 h9) (row0_len m)
  · rw [e0, e1] at key; exact key
  · constructor
    · intro h
      obtain ⟨za, zb, hz, ez⟩ := hr.inv
      rw [hl] at hz ez
      rw [ez] at h ⊢
      refine ofF_congr fun j hj => ?_
      have h2 : ((ofF m za).map (fun v => ((b v.toNat : Nat) : Int)))[j]? = ((ofF m a).map (fun v => ((b v.toNat : Nat) : Int)))[j]? := by rw [h]
      rw [List.getElem?_map, List.getElem?_map, ofF_get hj, ofF_get hj] at h2
      have h3 : ((b (za j) : Nat) : Int) = ((b (a j) : Nat) : Int) := by simpa using h2
      have h4 : b (za j) = b (a j) := by omega
      have h5 := (hI.ba (za j) (hz.ab j hj).1).2
      have h6 := (hI.ba (a j) (hI.ab j hj).1).2
      rw [← h5, ← h6, h4]
    · intro h; rw [h]
/-! ### goings with the fewest changes -/
theorem sum_zero {α : Type} {f : α → Nat} : ∀ {L : List α}, (∀ u ∈ L, f u = 0) → (L.map f).sum = 0
  | [], _ => rfl
  | a :: L, h => by rw [List.map_cons, List.sum_cons, h a List.mem_cons_self, sum_zero fun u hu => h u (List.mem_cons_of_mem _ hu)]
def hdE (g : Nat) (gs : List Int) : List Nat → Nat
  | [] => 0
  | x :: u => if g = x then emb u gs else 0
theorem sum_hd (g : Int) (gs : List Int) : ∀ {L : List (List Nat)}, (∀ u ∈ L, u ≠ []) → (L.map fun u => emb u (g :: gs)).sum = (L.map fun u => emb u gs).sum + (L.map (hdE g.toNat gs)).sum
  | [], _ => rfl
  | u :: L, h => by
    rw [List.map_cons, List.map_cons, List.map_cons, List.sum_cons, List.sum_cons, List.sum_cons, sum_hd g gs fun u hu => h u (List.mem_cons_of_mem _ hu)]
    cases u with
    | nil => exact absurd rfl (h [] List.mem_cons_self)
    | cons x u =>
      rw [emb_cons]
      show _ = _ + _ + ((if g.toNat = x then emb u gs else 0) + _)
      omega
theorem hd_block (g n : Nat) (gs : List Int) (L : List (List Nat)) : ((L.map (n :: ·)).map (hdE g gs)).sum = if g = n then (L.map fun u => emb u gs).sum else 0 := by
  rw [List.map_map]
  by_cases h : g = n
  · rw [if_pos h]
    congr 1
    exact List.map_congr_left fun u _ => if_pos h
  · rw [if_neg h]
    exact sum_zero fun u _ => if_neg h
theorem hd_LWto (g k : Nat) (y gs : List Int) : ∀ n, ((LWto k y n).map (hdE g gs)).sum = if g < n ∧ Fall y g then ((LW k (swL y g)).map fun u => emb u gs).sum else 0
  | 0 => by rw [if_neg (fun z => absurd z.1 (Nat.not_lt_zero _))]; rfl
  | n + 1 => by
    rw [LWto_succ, List.map_append, List.sum_append, hd_LWto g k y gs n]
    by_cases hf : Fall y n
    · rw [if_pos hf, hd_block]
      by_cases e : g = n
      · subst e
        rw [if_neg (fun z => absurd z.1 (Nat.lt_irrefl _)), if_pos rfl, if_pos ⟨Nat.lt_succ_self _, hf⟩]; omega
      · rw [if_neg e]
        by_cases c : g < n ∧ Fall y g
        · rw [if_pos c, if_pos ⟨by omega, c.2⟩]; omega
        · rw [if_neg c, if_neg fun z => c ⟨by omega, z.2⟩]
    · rw [if_neg hf]
      by_cases c : g < n ∧ Fall y g
      · rw [if_pos c, if_pos ⟨by omega, c.2⟩]; rfl
      · rw [if_neg c, if_neg fun z => c ⟨by
          have : g ≠ n := fun e => hf (e ▸ z.2)
          omega, z.2⟩]; rfl
theorem LW_ne {k : Nat} {y : List Int} : ∀ u ∈ LW (k + 1) y, u ≠ [] := fun u hu => by
  obtain ⟨g, _, h⟩ := List.mem_flatMap.mp hu
  split at h
  · obtain ⟨w, _, rfl⟩ := List.mem_map.mp h
    exact List.cons_ne_nil _ _
  · exact nomatch h
theorem cg_low {m : Nat} : ∀ {gs y : List Int}, BookOk m gs → IsRow y → y.length = m →
    (∀ c, c < pairsN y → cg (row0 m) gs y c = 0) ∧ cg (row0 m) gs y (pairsN y) = ((LW (pairsN y) y).map fun u => emb u gs).sum
  | [], y, _, hr, hl => by
    refine ⟨fun c hc => ?_, ?_⟩
    · rw [cg_nil, if_neg]
      rintro ⟨rfl, rfl⟩
      rw [pairs_row00] at hc; omega
    · rw [cg_nil]
      cases hp : pairsN y with
      | zero =>
        rw [if_pos ⟨by rw [no_pairs hr hp, hl], rfl⟩]; rfl
      | succ k =>
        rw [if_neg (fun z => by omega)]
        exact (sum_zero fun u hu => by
          cases u with
          | nil => exact absurd rfl (LW_ne _ hu)
          | cons x u => rfl).symm
  | g :: gs, y, hb, hr, hl => by
    have hg := hb g List.mem_cons_self
    have hb' : BookOk m gs := fun z hz => hb z (List.mem_cons_of_mem _ hz)
    have hgm : g.toNat + 1 < y.length := by omega
    have i1 := cg_low hb' hr hl
    have hr2 := sw_row hgm hr
    have hl2 : (swL y g.toNat).length = m := by rw [sw_len hgm]; exact hl
    have i2 := cg_low hb' hr2 hl2
    have hne := row_ne hr (g := g.toNat) hgm
    refine ⟨fun c hc => ?_, ?_⟩
    · rw [cg_cons, i1.1 c hc]
      by_cases h0 : c = 0
      · rw [if_pos h0]
      · rw [if_neg h0]
        by_cases hd : y.getD (g.toNat + 1) 0 < y.getD g.toNat 0
        · have := pairs_desc hgm hd
          rw [i2.1 _ (by omega)]
        · have := pairs_sw hgm (show y.getD g.toNat 0 < y.getD (g.toNat + 1) 0 by omega)
          rw [i2.1 _ (by omega)]
    · rw [cg_cons, i1.2]
      cases hp : pairsN y with
      | zero =>
        show [emb [] gs].sum + 0 = [emb [] (g :: gs)].sum
        rw [emb_nil, emb_nil]; rfl
      | succ k =>
        rw [if_neg (Nat.succ_ne_zero k), sum_hd g gs LW_ne, LW_succ, hd_LWto]
        congr 1
        by_cases hd : y.getD (g.toNat + 1) 0 < y.getD g.toNat 0
        · have := pairs_desc hgm hd
          have hk : pairsN (swL y g.toNat) = k := by omega
          rw [if_pos ⟨by omega, hd⟩, ← hk]
          exact (show k + 1 - 1 = pairsN (swL y g.toNat) by omega) ▸ i2.2
        · have := pairs_sw hgm (show y.getD g.toNat 0 < y.getD (g.toNat + 1) 0 by omega)
          rw [if_neg fun z => hd z.2, i2.1 _ (by omega)]
/-! ### the word that fewest tells -/
theorem runW_snoc (y : List Int) (w : List Nat) (g : Nat) : runW y (w ++ [g]) = swL (runW y w) g := by rw [runW_app]; rfl
theorem tld_run {m : Nat} {gs y : List Int} (hB : BookOk m gs) (hr : IsRow y) (hl : y.length = m) : ∀ n, n ≤ gs.length → runW y ((tld gs y n).map (gapN gs)) = dnL (gs.take n) y
  | 0, _ => by rw [List.take_zero]; rfl
  | n + 1, hn => by
    have ih := tld_run hB hr hl n (by omega)
    have et : dnL (gs.take (n + 1)) y = lowS (dnL (gs.take n) y) (gapN gs n) := by
      rw [List.take_add_one, getD_some hn, dnL_app]; rfl
    rw [tld_succ, et]
    unfold lowS
    by_cases h : asc gs y n
    · rw [if_pos h, ih]
      have h' : (dnL (gs.take n) y).getD (gapN gs n) 0 < (dnL (gs.take n) y).getD (gapN gs n + 1) 0 := h
      rw [if_pos h']
    · rw [if_neg h, List.map_append, List.map_cons, List.map_nil, runW_snoc, ih]
      have h' : ¬ (dnL (gs.take n) y).getD (gapN gs n) 0 < (dnL (gs.take n) y).getD (gapN gs n + 1) 0 := h
      rw [if_neg h']
theorem tld_sub (gs y : List Int) : ((tld gs y gs.length).map (gapN gs)).Sublist (gs.map Int.toNat) := by
  have e : gs.map Int.toNat = (List.range gs.length).map (gapN gs) := by
    refine List.ext_getElem (by simp) fun i h1 h2 => ?_
    have hi : i < gs.length := by simpa using h1
    rw [List.getElem_map, List.getElem_map, List.getElem_range]
    unfold gapN
    rw [List.getD_eq_getElem?_getD, List.getElem?_eq_getElem hi]; rfl
  rw [e]
  exact List.filter_sublist.map _
theorem tld_LW {m : Nat} {gs : List Int} {a b : Nat → Nat} (h1 : 1 ≤ m) (h9 : m ≤ 9) (hB : BookOk m gs) (hI : IsInv m a b) (h : dnL gs (ofF m b) = row0 m) : (tld gs (ofF m b) gs.length).map (gapN gs) ∈ LW (pairsN (ofF m a)) (ofF m b) := by
  have hrb := row_ofF h1 h9 hI.symm
  have e1 := few_pairs h1 h9 hB hI h
  have e2 := pairs_tld hB hrb (ofF_len m b) gs.length (Nat.le_refl _)
  rw [List.take_length, h, pairs_row00] at e2
  refine (mem_LW hrb (ofF_len m b) (by omega)).mpr ⟨by rw [List.length_map, e1], fun g hg => ?_, ?_⟩
  · obtain ⟨i, hi, rfl⟩ := List.mem_map.mp hg
    obtain ⟨gp, eg, hg'⟩ := book_at hB (mem_tld.mp hi).1
    unfold gapN
    rw [eg, Int.toNat_natCast]; exact hg'
  · have := tld_run hB hrb (ofF_len m b) gs.length (Nat.le_refl _)
    rw [List.take_length, h] at this; exact this
theorem sum_pos {α : Type} {f : α → Nat} : ∀ {L : List α} {u : α}, u ∈ L → 0 < f u → 0 < (L.map f).sum
  | a :: L, u, hu, h => by
    rw [List.map_cons, List.sum_cons]
    rcases List.mem_cons.mp hu with rfl | hu
    · omega
    · have := sum_pos hu h; omega
/-- the sum over the shortest books -/
def totE (k : Nat) (y gs : List Int) : Nat := ((LW k y).map fun u => emb u gs).sum
theorem least_cg {m : Nat} {gs : List Int} {a b : Nat → Nat} (h1 : 1 ≤ m) (h9 : m ≤ 9) (hB : BookOk m gs) (hI : IsInv m a b) (h : dnL gs (ofF m b) = row0 m) :
    (∀ c, c < pairsN (ofF m a) → cg (ofF m a) gs (row0 m) c = 0) ∧ cg (ofF m a) gs (row0 m) (pairsN (ofF m a)) = totE (pairsN (ofF m a)) (ofF m b) gs ∧ 0 < totE (pairsN (ofF m a)) (ofF m b) gs := by
  have hrb := row_ofF h1 h9 hI.symm
  have e1 := few_pairs h1 h9 hB hI h
  have e2 := pairs_tld hB hrb (ofF_len m b) gs.length (Nat.le_refl _)
  rw [List.take_length, h, pairs_row00] at e2
  have ep : pairsN (ofF m b) = pairsN (ofF m a) := by omega
  have key := cg_low hB hrb (ofF_len m b)
  rw [ep] at key
  refine ⟨fun c hc => by rw [cg_inv h1 h9 hI hB]; exact key.1 c hc, by rw [cg_inv h1 h9 hI hB]; exact key.2, ?_⟩
  exact sum_pos (tld_LW h1 h9 hB hI h) (emb_pos (tld_sub gs _))
/-- the first of the counts that are more than none -/
theorem chg_pre (l : List Int) (n : Nat) : ∀ d, ∃ t, chg l (n + d) = chg l n ++ t
  | 0 => ⟨[], (List.append_nil _).symm⟩
  | d + 1 => by
    obtain ⟨t, e⟩ := chg_pre l n d
    exact ⟨_, by rw [show n + (d + 1) = (n + d) + 1 from rfl, chg_succ, e, List.append_assoc]⟩
theorem chg_first {l : List Int} {p : Nat} (h0 : ∀ c, c < p → l.getD c 0 = 0) (hp : 0 < l.getD p 0) : ∃ t, chg l l.length = (p, l.getD p 0) :: t := by
  have hz : ∀ n, n ≤ p → chg l n = [] := fun n => by
    induction n with
    | zero => exact fun _ => rfl
    | succ n ih => exact fun h => by rw [chg_succ, ih (by omega), h0 n (by omega)]; rfl
  have hl : p < l.length := Nat.lt_of_not_le fun z => by
    rw [List.getD_eq_getElem?_getD, List.getElem?_eq_none z] at hp
    exact absurd hp (by decide)
  obtain ⟨t, e⟩ := chg_pre l (p + 1) (l.length - (p + 1))
  rw [show p + 1 + (l.length - (p + 1)) = l.length by omega, chg_succ, hz p (Nat.le_refl _), if_pos hp] at e
  exact ⟨t, e⟩
/-- a book without one meeting lets what the whole one lets, no more -/
theorem far_less {m : Nat} {gs : List Int} {k : Nat} (h1 : 1 ≤ m) (h9 : m ≤ 9) (hB : BookOk m gs) : more (farL (row0 m) (gs.take k ++ gs.drop (k + 1))) (farL (row0 m) gs) = [] := by
  have hs : (gs.take k ++ gs.drop (k + 1)).Sublist gs := by
    have h := (List.Sublist.refl (gs.take k)).append (List.drop_sublist_drop_left gs (Nat.le_succ k))
    rw [List.take_append_drop] at h; exact h
  have hB' : BookOk m (gs.take k ++ gs.drop (k + 1)) := fun z hz => hB z (hs.mem hz)
  obtain ⟨hr, hl⟩ := farL_ok hB' (row0_row h1 h9) (row0_len m)
  rw [← come_far h1 h9 hB hr hl, come_words h1 h9 hB]
  have : Come m (gs.take k ++ gs.drop (k + 1)) (gs.take k ++ gs.drop (k + 1)).length (farL (row0 m) (gs.take k ++ gs.drop (k + 1))) := (come_far h1 h9 hB' hr hl).mpr (more_self _)
  obtain ⟨l, a, b⟩ := (come_words h1 h9 hB').mp this
  exact ⟨l, a.trans (hs.map _), b⟩
end MM
namespace MM
open PySem PySem.Spec PyProof.Rows L2 GxR
/-! ### a book's fewest changes, part by part -/
theorem gapN_take {gs : List Int} {k j : Nat} (h : j < k) : gapN (gs.take k) j = gapN gs j := by
  unfold gapN
  rw [List.getD_eq_getElem?_getD, List.getD_eq_getElem?_getD, List.getElem?_take, if_pos h]
theorem gapN_drop (gs : List Int) (k j : Nat) : gapN (gs.drop k) j = gapN gs (k + j) := by
  unfold gapN
  rw [List.getD_eq_getElem?_getD, List.getD_eq_getElem?_getD, List.getElem?_drop]
theorem asc_take {gs y : List Int} {k j : Nat} (h : j < k) : asc (gs.take k) y j ↔ asc gs y j := by
  unfold asc
  rw [gapN_take h, List.take_take, Nat.min_eq_left (Nat.le_of_lt h)]
theorem tld_take {gs y : List Int} {k i : Nat} (h : i ≤ k) : tld (gs.take k) y i = tld gs y i := by
  unfold tld
  refine List.filter_congr fun j hj => ?_
  have := List.mem_range.mp hj
  rw [decide_eq_decide.mpr (asc_take (gs := gs) (y := y) (k := k) (j := j) (by omega))]
theorem dnL_drop (gs y : List Int) (k j : Nat) : dnL ((gs.drop k).take j) (dnL (gs.take k) y) = dnL (gs.take (k + j)) y := by
  rw [← dnL_app, List.take_add]
theorem asc_drop (gs y : List Int) (k j : Nat) : asc (gs.drop k) (dnL (gs.take k) y) j ↔ asc gs y (k + j) := by
  unfold asc
  rw [gapN_drop, dnL_drop]
theorem tld_drop (gs y : List Int) (k : Nat) : ∀ n, tld gs y (k + n) = tld gs y k ++ (tld (gs.drop k) (dnL (gs.take k) y) n).map (k + ·)
  | 0 => by show _ = _ ++ (tld _ _ 0).map _; rw [show tld (gs.drop k) (dnL (gs.take k) y) 0 = [] from rfl, List.map_nil, List.append_nil]; rfl
  | n + 1 => by
    have ih := tld_drop gs y k n
    rw [show k + (n + 1) = (k + n) + 1 from rfl, tld_succ, tld_succ, ih]
    by_cases c : asc gs y (k + n)
    · rw [if_pos c, if_pos ((asc_drop gs y k n).mpr c)]
    · rw [if_neg c, if_neg fun z => c ((asc_drop gs y k n).mp z), List.map_append, List.append_assoc]; rfl
theorem ltL_app : ∀ {c a b : List Nat}, ltL a b → ltL (a ++ c) (b ++ c)
  | [], a, b, h => by rw [List.append_nil, List.append_nil]; exact h
  | x :: c, a, b, h => by
    have := ltL_app (c := c) (lt_snoc (i := x) |>.mpr h)
    rw [List.append_assoc, List.append_assoc] at this
    exact this
/-- the beginning's own fewest changes are the first of the whole one's -/
theorem few_part {m : Nat} {gs : List Int} {a b : Nat → Nat} {k : Nat} (h1 : 1 ≤ m) (h9 : m ≤ 9) (hB : BookOk m gs) (hk : k ≤ gs.length) (hI : IsInv m a b) (h : dnL gs (ofF m b) = row0 m) :
    dnL (gs.take k) (ofF m (Pw (wrd gs (ofF m b) k).reverse)) = row0 m ∧ tld (gs.take k) (ofF m (Pw (wrd gs (ofF m b) k).reverse)) (gs.take k).length = tld gs (ofF m b) k := by
  have hBk : BookOk m (gs.take k) := fun x hx => hB x (List.mem_of_mem_take hx)
  have lk : (gs.take k).length = k := by rw [List.length_take]; omega
  have hw := wrd_ok (y := ofF m b) hB hk
  have hIk := word_inv hw
  have ew : wrd gs (ofF m b) k = (tld (gs.take k) (ofF m b) (gs.take k).length).map (gapN (gs.take k)) := by
    unfold wrd
    rw [lk, tld_take (Nat.le_refl k)]
    exact List.map_congr_left fun j hj => (gapN_take (mem_tld.mp hj).1).symm
  have hd : dnL (gs.take k) (ofF m (Pw (wrd gs (ofF m b) k).reverse)) = row0 m := by
    rw [few_iff h1 h9 hBk hIk]
    refine (come_word h1 h9 hBk _ (Nat.le_refl _)).mpr ⟨_, ?_, rfl⟩
    rw [List.take_length, ew]
    exact tld_sub _ _
  refine ⟨hd, ?_⟩
  have L1 := few_least h1 h9 hBk hIk hd
  refine L1.unique ⟨⟨tld_lt, fun j hj => by rw [lk]; exact (mem_tld.mp hj).1, ?_⟩, ?_⟩
  · refine congrArg (fun z => ofF m (Pw z)) ?_
    exact List.map_congr_left fun j hj => (gapN_take (mem_tld.mp hj).1).symm
  · rintro K' ⟨kp, kl, ke⟩ z
    rw [lk] at kl
    have W := few_least h1 h9 hB hI h
    obtain ⟨n, hn⟩ : ∃ n, gs.length = k + n := ⟨gs.length - k, by omega⟩
    have et := tld_drop gs (ofF m b) k n
    rw [← hn] at et
    refine W.2 (K' ++ (tld (gs.drop k) (dnL (gs.take k) (ofF m b)) n).map (k + ·)) ⟨?_, fun j hj => ?_, ?_⟩ (by rw [et]; exact ltL_app z)
    · refine List.pairwise_append.mpr ⟨kp, ?_, fun x hx j hj => ?_⟩
      · have := W.1.1
        rw [et] at this
        exact (List.pairwise_append.mp this).2.1
      · obtain ⟨j', _, rfl⟩ := List.mem_map.mp hj
        have := kl x hx
        omega
    · rcases List.mem_append.mp hj with c | c
      · have := kl j c; omega
      · exact W.1.2.1 j (by rw [et]; exact List.mem_append_right _ c)
    · rw [W.1.2.2, et, List.map_append, List.map_append]
      refine ofF_congr fun j hj => ?_
      rw [Pw_app, Pw_app]
      have hj2 : Pw (((tld (gs.drop k) (dnL (gs.take k) (ofF m b)) n).map (k + ·)).map (gapN gs)) j < m := by
        refine Pw_lt (fun g hg => ?_) hj
        obtain ⟨z, hz, rfl⟩ := List.mem_map.mp hg
        refine gap_lt hB ?_
        exact W.1.2.1 z (by rw [et]; exact List.mem_append_right _ hz)
      have e2 := ofF_eq ke hj2
      rw [show K'.map (gapN (gs.take k)) = K'.map (gapN gs) from List.map_congr_left fun z hz => gapN_take (kl z hz)] at e2
      rw [show (tld gs (ofF m b) k).map (gapN gs) = wrd gs (ofF m b) k from rfl]
      exact e2
theorem few_lt {gs y : List Int} {k n : Nat} (hn : gs.length = k + n) : (tld gs y gs.length).filter (fun z => decide (z < k)) = tld gs y k := by
  unfold tld
  exact filt_range _ _ (by omega)
theorem few_ge {gs y : List Int} {k n : Nat} (hn : gs.length = k + n) : (tld gs y gs.length).filter (fun z => decide (k ≤ z)) = (tld (gs.drop k) (dnL (gs.take k) y) n).map (k + ·) := by
  rw [hn, tld_drop, List.filter_append]
  rw [List.filter_eq_nil_iff.mpr (fun z hz => by have := (mem_tld.mp hz).1; rw [decide_eq_true_iff]; omega), List.nil_append]
  refine List.filter_eq_self.mpr fun z hz => ?_
  obtain ⟨j, _, rfl⟩ := List.mem_map.mp hz
  exact decide_eq_true (by omega)
/-! ### goings through two books, over all rows amid -/
theorem cntS_snoc (f : List Int → Nat) (B : List Int) (g : Int) (x : List Int) : cntS f (B ++ [g]) x = cntS f B x + cntS f B (swL x g.toNat) := by
  rw [cntS_app]; rfl
theorem sum_map_add {α : Type} (f h : α → Nat) : ∀ L : List α, (L.map fun x => f x + h x).sum = (L.map f).sum + (L.map h).sum
  | [] => rfl
  | a :: L => by rw [List.map_cons, List.map_cons, List.map_cons, List.sum_cons, List.sum_cons, List.sum_cons, sum_map_add f h L]; omega
theorem sum_one {α : Type} [DecidableEq α] (f : α → Nat) (l : α) : ∀ {L : List α}, L.Nodup → (L.map fun x => f x * if l = x then 1 else 0).sum = if l ∈ L then f l else 0
  | [], _ => by rw [if_neg (by intro h; cases h)]; rfl
  | a :: L, h => by
    obtain ⟨h1, h2⟩ := List.nodup_cons.mp h
    rw [List.map_cons, List.sum_cons, sum_one f l h2]
    by_cases e : l = a
    · subst e
      rw [if_pos rfl, if_neg h1, if_pos List.mem_cons_self, Nat.mul_one, Nat.add_zero]
    · rw [if_neg e, Nat.mul_zero, Nat.zero_add]
      by_cases c : l ∈ L
      · rw [if_pos c, if_pos (List.mem_cons_of_mem _ c)]
      · rw [if_neg c, if_neg fun z => (List.mem_cons.mp z).elim e c]
theorem cntS_sum {m : Nat} {f : List Int → Nat} {Rs : List (List Int)} (hn : Rs.Nodup) (hc : ∀ x, IsRow x → x.length = m → 0 < f x → x ∈ Rs) : ∀ (n : Nat) {B x : List Int}, B.length = n → BookOk m B → IsRow x → x.length = m → cntS f B x = (Rs.map fun y => f y * wN y B x).sum
  | 0, B, x, e, _, hr, hl => by
    rw [List.length_eq_zero_iff.mp e]
    show f x = (Rs.map fun y => f y * oneR y x).sum
    have : (Rs.map fun y => f y * oneR y x) = Rs.map fun y => f y * if x = y then 1 else 0 := rfl
    rw [this, sum_one f x hn]
    by_cases c : x ∈ Rs
    · rw [if_pos c]
    · rw [if_neg c]
      rcases Nat.eq_zero_or_pos (f x) with z | z
      · exact z
      · exact absurd (hc x hr hl z) c
  | n + 1, B, x, e, hB, hr, hl => by
    obtain ⟨B', g, rfl⟩ : ∃ B' g, B = B' ++ [g] := by
      have hne : B ≠ [] := by intro z; rw [z] at e; cases e
      exact ⟨B.dropLast, B.getLast hne, (List.dropLast_concat_getLast hne).symm⟩
    have hg := hB g (List.mem_append_right _ List.mem_cons_self)
    have hB' : BookOk m B' := fun z hz => hB z (List.mem_append_left _ hz)
    have e' : B'.length = n := by rw [List.length_append] at e; simpa using e
    rw [cntS_snoc, cntS_sum hn hc n e' hB' hr hl, cntS_sum hn hc n e' hB' (sw_row (g := g.toNat) (by omega) hr) (by rw [sw_len (by omega)]; exact hl), ← sum_map_add]
    congr 1
    refine List.map_congr_left fun y _ => ?_
    show _ = f y * wN y (B' ++ [g]) x
    rw [wN_snoc, Nat.mul_add]
theorem wN_map {m : Nat} {f : Int → Int} {r : List Int} (hf : ∀ z, IsRow z → z.length = m → (z.map f = r.map f ↔ z = r)) : ∀ (n : Nat) {B x : List Int}, B.length = n → BookOk m B → IsRow x → x.length = m → wN (r.map f) B (x.map f) = wN r B x
  | 0, B, x, e, _, hr, hl => by
    rw [List.length_eq_zero_iff.mp e]
    show oneR (r.map f) (x.map f) = oneR r x
    unfold oneR
    by_cases c : x = r
    · rw [if_pos c, if_pos ((hf x hr hl).mpr c)]
    · rw [if_neg c, if_neg fun z => c ((hf x hr hl).mp z)]
  | n + 1, B, x, e, hB, hr, hl => by
    obtain ⟨B', g, rfl⟩ : ∃ B' g, B = B' ++ [g] := by
      have hne : B ≠ [] := by intro z; rw [z] at e; cases e
      exact ⟨B.dropLast, B.getLast hne, (List.dropLast_concat_getLast hne).symm⟩
    have hg := hB g (List.mem_append_right _ List.mem_cons_self)
    have hB' : BookOk m B' := fun z hz => hB z (List.mem_append_left _ hz)
    have e' : B'.length = n := by rw [List.length_append] at e; simpa using e
    rw [wN_snoc, wN_snoc, sw_map (by omega), wN_map hf n e' hB' hr hl, wN_map hf n e' hB' (sw_row (g := g.toNat) (by omega) hr) (by rw [sw_len (by omega)]; exact hl)]
/-- from a row amid, its people numbered by where they stand -/
theorem wN_anew {m : Nat} {B : List Int} {fa fb c : Nat → Nat} (h1 : 1 ≤ m) (h9 : m ≤ 9) (hI : IsInv m fa fb) (hB : BookOk m B) (hr : IsRow (ofF m c)) (hc : ∀ i, i < m → c i < m) : wN (ofF m fa) B (ofF m c) = wN (row0 m) B (ofF m fun i => fb (c i)) := by
  have e1 : (ofF m fa).map (fun v => ((fb v.toNat : Nat) : Int)) = row0 m := by
    rw [row0_ofF]
    unfold ofF
    rw [List.map_map]
    refine List.map_congr_left fun i hi => ?_
    have := (hI.ab i (List.mem_range.mp hi)).2
    simp only [Function.comp, Int.toNat_natCast]
    rw [this]; rfl
  have e2 : (ofF m c).map (fun v => ((fb v.toNat : Nat) : Int)) = ofF m fun i => fb (c i) := by
    unfold ofF
    rw [List.map_map]
    exact List.map_congr_left fun i _ => by simp [Function.comp]
  have key := wN_map (m := m) (f := fun v => ((fb v.toNat : Nat) : Int)) (r := ofF m fa) (fun z hz hl => ?_) B.length (B := B) (x := ofF m c) rfl hB hr (ofF_len m c)
  · rw [e1, e2] at key; exact key.symm
  · constructor
    · intro h
      obtain ⟨za, zb, hz, ez⟩ := hz.inv
      rw [hl] at hz ez
      rw [ez] at h ⊢
      refine ofF_congr fun j hj => ?_
      have h2 : ((ofF m za).map (fun v => ((fb v.toNat : Nat) : Int)))[j]? = ((ofF m fa).map (fun v => ((fb v.toNat : Nat) : Int)))[j]? := by rw [h]
      rw [List.getElem?_map, List.getElem?_map, ofF_get hj, ofF_get hj] at h2
      have h3 : ((fb (za j) : Nat) : Int) = ((fb (fa j) : Nat) : Int) := by simpa using h2
      have h4 : fb (za j) = fb (fa j) := by omega
      have h5 := (hI.ba (za j) (hz.ab j hj).1).2
      have h6 := (hI.ba (fa j) (hI.ab j hj).1).2
      rw [← h5, ← h6, h4]
    · intro h; rw [h]
end MM
namespace MM
open PySem PySem.Spec PyProof.Rows L2 GxR
/-! ### defs that may raise -/
section
variable {X : Cx} {C : Addr} {bmB : List Value} {B newId initId : String}
/-- X() -/
theorem pmk_own0 {x : Str} {p pos : Pos} (F : ExcBaseFacts B newId initId bmB) (q : PySem.W.excIn X.K C bmB newId = true) (gC : X.mg x = some (.ref C)) (kC : PySem.W.keepIn X.K (.ref C) = true) (r : Raises X (.ref C)) (hg : Gl X x := by rfl)
    (hdb : (x == ("__debug__" : Str)) = false := by decide) : PMk X (.Call (.Name x p) [] [] pos) (fun _ H Q => Q (.ref C) none H) := by
  intro pins s σ H Q I h
  refine wpAny_Call_Name_kw (ld_glob I hg gC ?_ hdb)
  refine PySem.W.callWith_K0 I.kIn kC ?_
  obtain ⟨bm, N, nm, qn, bs, hdct, sn, sub, ab, col, dd, k0, k1, k2, k3, k5, mN, hC, hN, hni, T⟩ := exc_obj I.kIn q
  refine wpAny_call_exc_subT F T hC hN hni (fun h' e hm => ?_) (by show 0 ≤ sizeLine; omega)
  exact mk_of I hm r h (I.hok.gone hm.new)
end
/-- what a class of refusals says of itself -/
structure RefC (K : PySem.W.Frag) (mg : Str → Option Value) (x : Str) (C : Addr) : Prop where
  ex : PySem.W.excIn K C [.type "ValueError", .type "Exception", .type "BaseException", .type "object"] "ValueError.__new__" = true
  g : mg x = some (.ref C)
  k : PySem.W.keepIn K (.ref C) = true
  b : PySem.W.subIn K (.ref C) (.type "BaseException") = some true
  t : PySem.W.typeIn K (.ref C) = some (.type "type")
/-- raise X() -/
theorem ps_raise0 {X : Cx} {W : WX} {x : Str} {C : Addr} {p pos pos2 : Pos} (tk : Takes X W) (R : RefC X.K X.mg x C) (hc : X.calm = true := by rfl) (hg : Gl X x := by rfl) (hdb : (x == ("__debug__" : Str)) = false := by decide) :
    PS X (.Raise (some (.Call (.Name x p) [] [] pos)) none pos2) (fun _ σ H => W (.ref C) none σ H) :=
  ps_raise hc tk (pmk_own0 PySem.F.excBase_ValueError R.ex R.g R.k (raises_own R.b R.t) hg hdb)
def CallX (P : Program) (w : World) (K : PySem.W.Frag) (mg : Str → Option Value) (base : Heap) (k : Nat) (x : Str) (ps : List Str) (sp : Sp) : Prop :=
  ∃ f fd, FnG P w K mg base (L2.CX P w) k f fd ps sp ∧ mg x = some (.ref f) ∧ PySem.W.keepIn K (.ref f) = true ∧ Binds K fd ps []
section
variable {P : Program} {w : World} {K : PySem.W.Frag} {mg : Str → Option Value} {base : Heap} {f : Addr} {fd : FuncData} {x : Str} {st : Stmt} {ps N : List Str} {k : Nat} {sp sp' : Sp}
theorem CallX.le {j : Nat} (C : CallX P w K mg base j x ps sp) (h : j ≤ k) : CallX P w K mg base k x ps sp := let ⟨f, fd, F, r⟩ := C; ⟨f, fd, F.mono h, r⟩
theorem callX (F : FnP K x st f fd) (g : mg x = some (.ref f)) (S : FnScope N ps (defScope st))
    (hb : ∀ (kV doc pm : Value) (an : Option Addr) (cdv ct : Value) (us : List Value), us.length = ps.length → bindArgs (PySem.W.fnOf x x (defArgs st) (defBody st) (defScope st) .none kV doc pm an cdv ct) ⟨us, []⟩ = pure (ps.zip us))
    (len : ∀ vs H Q E, sp vs H Q E → vs.length = ps.length)
    (body : ∀ (cdv : Value) (A : Around) (outer : List Env) (s : Shared) (H : Hp) (vs : List V) (Q : VK) (E : XK), (∀ oc od fd osl, K.lookup f = some ⟨oc, od, .func fd, osl⟩ → fd.code = cdv) → Room k (A.deeper (envOfC x (defScope st) s.heap.objs.size f cdv)) → (A.deeper (envOfC x (defScope st) s.heap.objs.size f cdv)).guards = some [] →
      Takes (cxOf (L2.CX P w) P w K mg base N x (defScope st) f cdv A outer s H E) (fun cls d _ H' => E cls d H') → sp vs H Q E →
      ∃ t, PSs (cxOf (L2.CX P w) P w K mg base N x (defScope st) f cdv A outer s H E) (defBody st) t ∧ t { nx := fun _ H' => Q .non H', rt := Q } (start N vs) H) : CallX P w K mg base (k + 1) x ps sp := by
  have b := F.bindsN hb
  have kp := F.kp
  obtain ⟨oc, od, dV, kV, doc, pm, an, cdv, ct, osl, rfl, lk, hcd, _, _⟩ := F.ex
  refine ⟨f, _, fn_ofG lk hcd S len fun A outer s H vs Q E hr hG hsp => ?_, g, kp, b⟩
  exact body cdv A outer s H vs Q E (fun oc2 od2 fd2 osl2 e => by rw [lk] at e; cases e; rfl) hr hG (takes_of rfl rfl rfl rfl) hsp
end
section
variable {X : Cx} {k : Nat} {ps : List Str} {sp : Sp} {x : Str} {p pos : Pos} {e : Expr} {es : List Expr} {t : TA} {W : WX}
theorem run_fnGS {CX : CXT} {f : Addr} {fd : FuncData} {E : L2.St → XK} {pins : List (Addr × Obj)} {σ : L2.St} {H : Hp} {s : Shared} {Q : VK} {us : List Value} {vs : List V} (F : FnG X.prog X.w X.K X.mg X.base CX k f fd ps sp) (hr : Room k X.A) (hG : X.A.guards = some []) (hb : Binds X.K fd ps []) (hx : PassesAt CX X σ (E σ))
    (I : Inv X pins σ H s) (r : Vals vs us) (h : sp vs H Q (E σ)) : wpAny (model X.prog X.w) X.A (call (.ref f) us) (EP X pins σ Q) X.xe s := by
  have hl : us.length = ps.length := r.length ▸ F.len _ _ _ _ h
  have b := hb s us I.kIn (by rw [List.append_nil]; exact hl)
  rw [List.append_nil] at b
  refine wpAny_call (codeAny_mono (F.run X.A X.stack s H ⟨us, []⟩ us vs Q (E σ) hr hG I.env0 b r h) fun r s' hq => ?_)
  match r, hq with
  | .error e, hq => exact hx pins H s e s' I hq
  | .ok (.ret u), hq => exact I.after hq
/-- a call that may raise: what it wishes is W -/
theorem pe_cX (C : CallX X.prog X.w X.K X.mg X.base k x ps sp) (tk : Takes X W) (hr : Room k X.A) (hG : X.A.guards = some []) (ha : PA X (e :: es) t) (hg : Gl X x := by rfl) (hdb : (x == ("__debug__" : Str)) = false := by decide) (he : starEach (e :: es) X.env = (false, eval e X.env) :: starEach es X.env := by rfl) (hpl : (backTo pos (starEach es X.env)).any (·.1) = false := by rfl) :
    PE X (.Call (.Name x p) (e :: es) [] pos) (tCallS sp (WE W) t) := by
  obtain ⟨f, fd, F, g, kp, b⟩ := C
  exact ⟨fun pins s σ H Q I h => wpAny_Call_Name_kw (ld_glob I hg g (PySem.W.callWith_K (h₀ := X.base) I.ok.mod.kin kp (thn (ha.run pos pins s σ H _ I h) fun us s1 ⟨vs, H1, I1, r, q⟩ => ⟨I1.kIn, run_fnGS F hr hG b (passAt tk σ) I1 r q⟩) he hpl) hdb)⟩
/-- a def that raises nothing -/
theorem CallD.toX {P : Program} {w : World} {K : PySem.W.Frag} {mg : Str → Option Value} {base : Heap} (C : CallD P w K mg base k x ps sp) : CallX P w K mg base k x ps sp := by
  obtain ⟨f, fd, F, g, kp, b⟩ := C
  refine ⟨f, fd, ⟨F.len, fun A outer s H args us vs Q E hr hG e0 hb r h => codeAny_mono (F.run A outer s H args us vs Q E hr hG e0 hb r h) fun r s' hq => ?_⟩, g, kp, b⟩
  match r, hq with
  | .error e, hq => exact False.elim hq
  | .ok (.ret u), hq => exact hq
def orS (a b : Sp) : Sp := fun vs H Q E => a vs H Q E ∨ b vs H Q E
theorem pe_cX2 {sp' : Sp} (C : CallX X.prog X.w X.K X.mg X.base k x ps sp) (C' : CallX X.prog X.w X.K X.mg X.base k x ps sp') (tk : Takes X W) (hr : Room k X.A) (hG : X.A.guards = some []) (ha : PA X (e :: es) t) (hg : Gl X x := by rfl) (hdb : (x == ("__debug__" : Str)) = false := by decide) (he : starEach (e :: es) X.env = (false, eval e X.env) :: starEach es X.env := by rfl) (hpl : (backTo pos (starEach es X.env)).any (·.1) = false := by rfl) :
    PE X (.Call (.Name x p) (e :: es) [] pos) (tCallS (orS sp sp') (WE W) t) := by
  obtain ⟨f, fd, F, g, kp, b⟩ := C
  obtain ⟨f', fd', F', g', _, b'⟩ := C'
  obtain rfl : f = f' := by rw [g] at g'; injection g' with h; injection h
  exact ⟨fun pins s σ H Q I h => wpAny_Call_Name_kw (ld_glob I hg g (PySem.W.callWith_K (h₀ := X.base) I.ok.mod.kin kp (thn (ha.run pos pins s σ H _ I h) fun us s1 ⟨vs, H1, I1, r, q⟩ => ⟨I1.kIn, q.elim (run_fnGS F hr hG b (passAt tk σ) I1 r) (run_fnGS F' hr hG b' (passAt tk σ) I1 r)⟩) he hpl) hdb)⟩
end
/-- isinstance(e, c) of the error that the suite holds -/
def rIsE2 (K : PySem.W.Frag) (cls : Value) (d : Option Addr) (a : Addr) : List V → Hp → VK → Prop := fun xs H Q => ∃ (D : Addr) (c : V) (cv : Value) (b : Bool), cls = .ref D ∧ d = none ∧ ExcC K D ∧ xs = [.ref a, c] ∧ (∀ u, RelV c u → u = cv) ∧ PySem.W.kitOne K (.ref D) cv = some b ∧ Q (.bl b) H
theorem k_isE {X : Cx} {a : Addr} {oe : Obj} {cls : Value} {d : Option Addr} {pn : List (Addr × Obj)} (hz : Zc cls d oe) (hf : ∃ vs, oe.data = .fields vs) : CallR (X.suite a ((a, oe) :: pn)) (.builtin "isinstance") (rIsE2 X.K cls d a) := by
  intro pins s σ H xs us Q I r h
  obtain ⟨D, c, cv, b, rfl, rfl, C, h⟩ := h
  exact call_isE C hz hf pins s σ H xs us Q I r ⟨c, cv, b, h⟩
/-- what a class of refusals must say, so that its instances are asked rightly, as a truth -/
def excCB (K : PySem.W.Frag) (D : Addr) : Bool :=
  decide (PySem.W.findIn K (.ref D) "__getattribute__" = some (some (.builtin "BaseException.__getattribute__"))) && (decide (PySem.W.findIn K (.ref D) "__getattr__" = some none) && (decide (PySem.W.subIn K (.ref D) (.type "BaseException") = some true) && (PySem.W.hasDictIn K D &&
  (decide (PySem.W.findIn K (.ref D) "__class__" = some (some (.builtin "object.__class__"))) && (decide (PySem.W.specialIn K (.builtin "object.__class__") "__get__" = some (some (.builtin "getset_descriptor.__get__"))) && (decide (PySem.W.takesIn K (.builtin "object.__class__") = some true) && decide (PySem.W.mroIn K D (.type "object") = some true)))))))
theorem excCB_ok {K : PySem.W.Frag} {D : Addr} (h : excCB K D = true) : ExcC K D := by
  simp only [excCB, Bool.and_eq_true, decide_eq_true_eq] at h
  obtain ⟨a, b, c, d, e, f, g, i⟩ := h
  exact ⟨a, b, c, d, e, f, g, i⟩
end MM
namespace MM
open PySem PySem.Spec PyProof.Rows L2 GxR
/-! ### anything that may be handed in as a step -/
def stepB (gs : List Int) : PyData → Option (Nat × Str)
  | .tuple [.int i, .str z] => if 0 ≤ i ∧ wordM gs i.toNat = some z then some (i.toNat, z) else none
  | _ => none
theorem stepB_some {gs : List Int} {d : PyData} {k : Nat} {z : Str} (h : stepB gs d = some (k, z)) : d = .tuple [.int (k : Int), .str z] ∧ wordM gs k = some z := by
  unfold stepB at h
  split at h
  · rename_i i z'
    split at h
    · rename_i c
      cases h
      exact ⟨by rw [Int.toNat_of_nonneg c.1], c.2⟩
    · cases h
  · cases h
theorem stepB_of {gs : List Int} {k : Nat} {z : Str} (h : wordM gs k = some z) : stepB gs (.tuple [.int (k : Int), .str z]) = some (k, z) := by
  show (if 0 ≤ (k : Int) ∧ wordM gs (k : Int).toNat = some z then some ((k : Int).toNat, z) else none) = _
  rw [if_pos ⟨Int.natCast_nonneg k, by rw [Int.toNat_natCast]; exact h⟩, Int.toNat_natCast]
/-- a value of data: a tuple or a list of flat ones, or a flat one -/
inductive Od (K : PySem.W.Frag) (H : Hp) : V → PyData → Prop
  | tup {a : Addr} {xs : List V} {ds : List PyData} (e : H a = some (.tup xs)) (h : DpAll K H xs ds) (f : xs.all flatV = true) : Od K H (.ref a) (.tuple ds)
  | lst {a : Addr} {xs : List V} {ds : List PyData} (e : H a = some (.lst xs)) (h : DpAll K H xs ds) (f : xs.all flatV = true) : Od K H (.ref a) (.list ds)
  | flat {v : V} {d : PyData} (h : Dp K H v d) (f : flatV v = true) : Od K H v d
theorem dp_flat {K : PySem.W.Frag} {H H' : Hp} {v : V} {d : PyData} (h : Dp K H v d) (f : flatV v = true) : Dp K H' v d := by
  cases h with
  | non => exact .non
  | bl b => exact .bl b
  | int i => exact .int i
  | str z => exact .str z
  | lst => cases f
  | tup => cases f
theorem dp_flats {K : PySem.W.Frag} {H H' : Hp} : ∀ {vs : List V} {ds : List PyData}, DpAll K H vs ds → vs.all flatV = true → DpAll K H' vs ds
  | _, _, .nil, _ => .nil
  | _, _, .cons h t, f => by
    rw [List.all_cons, Bool.and_eq_true] at f
    exact .cons (dp_flat h f.1) (dp_flats t f.2)
theorem Od.kind {K : PySem.W.Frag} {H : Hp} {v : V} {d : PyData} (h : Od K H v d) : (∃ (a : Addr) (xs : List V) (ds : List PyData), v = .ref a ∧ d = .tuple ds ∧ H a = some (.tup xs) ∧ DpAll K H xs ds ∧ xs.all flatV = true) ∨ ∃ T, Kd K H v T ∧ T ≠ "tuple" ∧ ∀ ds, d ≠ .tuple ds := by
  cases h with
  | tup e h f => exact .inl ⟨_, _, _, rfl, rfl, e, h, f⟩
  | lst e h f => exact .inr ⟨_, .lst e, by decide, fun _ z => nomatch z⟩
  | flat h f => cases h with
    | non => exact .inr ⟨_, .non, by decide, fun _ z => nomatch z⟩
    | bl b => exact .inr ⟨_, .bl b, by decide, fun _ z => nomatch z⟩
    | int i => exact .inr ⟨_, .int i, by decide, fun _ z => nomatch z⟩
    | str z => exact .inr ⟨_, .str z, by decide, fun _ z => nomatch z⟩
    | lst => cases f
    | tup => cases f
theorem Od.exB {K : PySem.W.Frag} {H H' : Hp} {B : Addr → Prop} (e : ExB B H H') {v : V} {d : PyData} (h : Od K H v d) (nb : ∀ a, v = .ref a → ¬ B a) : Od K H' v d := by
  cases h with
  | tup a b c => exact .tup (e.tup a) (dp_flats b c) c
  | lst a b c => exact .lst (e.lst a (nb _ rfl)) (dp_flats b c) c
  | flat h f => exact .flat (dp_flat h f) f
theorem Kd.ex {K : PySem.W.Frag} {H H' : Hp} (e : Ex H H') : ∀ {v : V} {T : String}, Kd K H v T → Kd K H' v T
  | _, _, .non => .non
  | _, _, .bl b => .bl b
  | _, _, .int i => .int i
  | _, _, .str x => .str x
  | _, _, .lst h => .lst (Ex.lst e h)
  | _, _, .tup h => .tup (e.sqt h)
  | _, _, .dic h => .dic (e.keep _ _ h (fun _ z => nomatch z) id)
theorem Od.ex {K : PySem.W.Frag} {H H' : Hp} (e : Ex H H') {v : V} {d : PyData} (h : Od K H v d) : Od K H' v d := h.exB e fun _ _ => id
theorem Od.dp {K : PySem.W.Frag} {H : Hp} {v : V} {d : PyData} (h : Od K H v d) : Dp K H v d := by
  cases h with
  | tup a b c => exact .tup (SqT.of a) b
  | lst a b c => exact .lst (SqL.of a) b
  | flat h f => exact h
/-- flat data: what it is -/
theorem flat_kd {K : PySem.W.Frag} {H : Hp} {v : V} {d : PyData} (h : Dp K H v d) (f : flatV v = true) : ∃ T, Kd K H v T ∧ (v = .non ∧ d = .none ∨ (∃ b, v = .bl b ∧ d = .bool b) ∨ (∃ i, v = .int i ∧ d = .int i) ∨ ∃ z, v = .str z ∧ d = .str z) := by
  cases h with
  | non => exact ⟨_, .non, .inl ⟨rfl, rfl⟩⟩
  | bl b => exact ⟨_, .bl b, .inr (.inl ⟨b, rfl, rfl⟩)⟩
  | int i => exact ⟨_, .int i, .inr (.inr (.inl ⟨i, rfl, rfl⟩))⟩
  | str z => exact ⟨_, .str z, .inr (.inr (.inr ⟨z, rfl, rfl⟩))⟩
  | lst => cases f
  | tup => cases f
def isS : V → Bool
  | .str _ => true
  | _ => false
theorem kd_strB {K : PySem.W.Frag} {H : Hp} {x : V} {T : String} (k : Kd K H x T) : PySem.W.kitOne K (.type T) (.type "str") = some (isS x) := by
  cases k <;> first | exact kit_ty (r := true) (by decide +kernel) | exact kit_ty (r := false) (by decide +kernel)
inductive OdL (K : PySem.W.Frag) (H : Hp) : List V → List PyData → Prop
  | nil : OdL K H [] []
  | cons {v : V} {d : PyData} {vs : List V} {ds : List PyData} (h : Od K H v d) (s : SeqAt.shaped d = true) (t : OdL K H vs ds) : OdL K H (v :: vs) (d :: ds)
section
variable {K : PySem.W.Frag}
theorem OdL.exB {H H' : Hp} {B : Addr → Prop} (e : ExB B H H') {vs : List V} {ds : List PyData} (h : OdL K H vs ds) (nb : ∀ a, V.ref a ∈ vs → ¬ B a) : OdL K H' vs ds := by
  induction h with
  | nil => exact .nil
  | cons h s _ ih => exact .cons (h.exB e fun a z => nb a (z ▸ List.mem_cons_self)) s (ih fun a z => nb a (List.mem_cons_of_mem _ z))
theorem OdL.ex {H H' : Hp} (e : Ex H H') {vs : List V} {ds : List PyData} (h : OdL K H vs ds) : OdL K H' vs ds := h.exB e fun _ _ => id
theorem OdL.app {H : Hp} {vs ws : List V} {ds es : List PyData} (h : OdL K H vs ds) (h' : OdL K H ws es) : OdL K H (vs ++ ws) (ds ++ es) := by
  induction h with
  | nil => exact h'
  | cons h s _ ih => exact .cons h s ih
theorem OdL.get {H : Hp} {vs : List V} {ds : List PyData} (h : OdL K H vs ds) : ∀ {j : Nat} {v : V}, vs[j]? = some v → ∃ d, Od K H v d ∧ SeqAt.shaped d = true := by
  induction h with
  | nil => intro j v e; cases e
  | cons h s _ ih =>
    intro j v e
    cases j with
    | zero => cases e; exact ⟨_, h, s⟩
    | succ j => exact ih e
end
/-- flat data that can be laid -/
def flD : PyData → Bool
  | .none => true
  | .bool _ => true
  | .int _ => true
  | .str x => PyData.strOk x
  | _ => false
theorem fl_lay : ∀ {ds : List PyData}, ds.all flD = true → PyData.canLayAll0 ds = true ∧ PyData.depthAll ds = 0
  | [], _ => ⟨rfl, rfl⟩
  | d :: ds, h => by
    rw [List.all_cons, Bool.and_eq_true] at h
    obtain ⟨a, b⟩ := fl_lay h.2
    have hd : d.canLay0 = true ∧ d.depth = 0 := by
      cases d with
      | none => exact ⟨rfl, rfl⟩
      | bool _ => exact ⟨rfl, rfl⟩
      | int _ => exact ⟨rfl, rfl⟩
      | str x => exact ⟨h.1, rfl⟩
      | _ => cases h.1
    refine ⟨?_, ?_⟩
    · show (d.canLay0 && PyData.canLayAll0 ds) = true
      rw [hd.1, a]; rfl
    · show max d.depth (PyData.depthAll ds) = 0
      rw [hd.2, b]; rfl
theorem sh_tup {ds : List PyData} (h : ds.all flD = true) : SeqAt.shaped (.tuple ds) = true := by
  obtain ⟨a, b⟩ := fl_lay h
  unfold SeqAt.shaped
  rw [show (PyData.tuple ds).canLay0 = true from a, decide_eq_true (show (PyData.tuple ds).depth ≤ 64 by show PyData.depthAll ds + 1 ≤ 64; omega)]; rfl
theorem sh_lst {ds : List PyData} (h : ds.all flD = true) : SeqAt.shaped (.list ds) = true := by
  obtain ⟨a, b⟩ := fl_lay h
  unfold SeqAt.shaped
  rw [show (PyData.list ds).canLay0 = true from a, decide_eq_true (show (PyData.list ds).depth ≤ 64 by show PyData.depthAll ds + 1 ≤ 64; omega)]; rfl
theorem od_tup {K : PySem.W.Frag} {H : Hp} {t : Addr} {xs : List V} {ds : List PyData} (e : H t = some (.tup xs)) (h : DpAll K H xs ds) (f : xs.all flatV = true := by rfl) : Od K H (.ref t) (.tuple ds) := .tup e h f
theorem od_lst {K : PySem.W.Frag} {H : Hp} {t : Addr} {xs : List V} {ds : List PyData} (e : H t = some (.lst xs)) (h : DpAll K H xs ds) (f : xs.all flatV = true := by rfl) : Od K H (.ref t) (.list ds) := .lst e h f
theorem ne_bag {H : Hp} {t b : Addr} {m : Nat} (h : H t = none) (B : Bag m H b) : t ≠ b := fun z => by obtain ⟨_, _, _, e, _⟩ := B; rw [← z, h] at e; cases e
/-! ### data alike, texts too -/
inductive DaS (K : PySem.W.Frag) (H : Hp) : Nat → V → V → Prop
  | int {n : Nat} (i : Int) : DaS K H n (.int i) (.int i)
  | bl {n : Nat} (c : Bool) : DaS K H n (.bl c) (.bl c)
  | str {n : Nat} (z : Str) : DaS K H n (.str z) (.str z)
  | lst {n : Nat} {a b : Addr} {xs ys : List V} (ha : H a = some (.lst xs)) (hb : H b = some (.lst ys)) (hl : xs.length = ys.length) (h : ∀ (k : Nat) (x y : V), xs[k]? = some x → ys[k]? = some y → DaS K H n x y) (hz : xs.length ≤ 1000) : DaS K H (n + 1) (.ref a) (.ref b)
  | tup {n : Nat} {a b : Addr} {xs ys : List V} (ha : SqT K H a xs) (hb : SqT K H b ys) (hl : xs.length = ys.length) (h : ∀ (k : Nat) (x y : V), xs[k]? = some x → ys[k]? = some y → DaS K H n x y) (hz : xs.length ≤ 1000) : DaS K H (n + 1) (.ref a) (.ref b)
theorem DaS.ex {K : PySem.W.Frag} {H H' : Hp} (e : Ex H H') : ∀ {n : Nat} {x y : V}, DaS K H n x y → DaS K H' n x y := fun {n x y} h => by
  induction h with
  | int i => exact .int i
  | bl c => exact .bl c
  | str z => exact .str z
  | lst ha hb hl _ hz ih => exact .lst (Ex.lst e ha) (Ex.lst e hb) hl ih hz
  | tup ha hb hl _ hz ih => exact .tup (e.sqt ha) (e.sqt hb) hl ih hz
theorem das_row {K : PySem.W.Frag} {H : Hp} {a b : Addr} {ns : List Int} (ha : SqT K H a (ns.map V.int)) (hb : SqT K H b (ns.map V.int)) (hl : ns.length ≤ 1000) {n : Nat} : DaS K H (n + 1) (.ref a) (.ref b) := .tup ha hb rfl (fun k x y h1 h2 => by
  rw [h1] at h2; cases h2
  rw [List.getElem?_map] at h1
  cases e : ns[k]? with
  | none => rw [e] at h1; cases h1
  | some i => rw [e] at h1; cases h1; exact .int i) (by rw [List.length_map]; exact hl)
end MM
namespace MM
open PySem PySem.Spec PyProof.Rows L2 GxR
/-! ### the end of a law row whose defs show their data -/
section
variable {P : Program} {w : World} {K : PySem.W.Frag} {mg mb : Str → Option Value} {k : Nat} {fa a : Addr} {cs : List (Addr × Addr)} {x y : Str} {sp : Sp} {s1 : Shared} {vs : List Value} {ns : List Int}
/-- what is tracked at the entry: the script, where the written part does not hold it, and the tables -/
def entryH (K : PySem.W.Frag) (a : Addr) (o : Obj) (ns : List Int) (cs : List (Addr × Addr)) : Hp := fun b => if b ∈ cs.map (·.2) then some (.tbl #[]) else if b = a ∧ K.lookup a = none then some (.frz o (.lst (ns.map V.int))) else none
theorem entry_cases {o : Obj} {b : Addr} {u : HO} (h : entryH K a o ns cs b = some u) : (b ∈ cs.map (·.2) ∧ u = .tbl #[]) ∨ (b = a ∧ K.lookup a = none ∧ u = .frz o (.lst (ns.map V.int))) := by
  unfold entryH at h
  by_cases h1 : b ∈ cs.map (·.2)
  · rw [if_pos h1] at h; cases h; exact .inl ⟨h1, rfl⟩
  · rw [if_neg h1] at h
    by_cases h2 : b = a ∧ K.lookup a = none
    · rw [if_pos h2] at h; cases h; exact .inr ⟨h2.1, h2.2, rfl⟩
    · rw [if_neg h2] at h; cases h
theorem entry_none {o : Obj} {b : Addr} (h1 : b ∉ cs.map (·.2)) (h2 : b = a → K.lookup a ≠ none) : entryH K a o ns cs b = none := by
  unfold entryH; rw [if_neg h1, if_neg fun z => h2 z.1 z.2]
theorem endG (KX : K.In s1.heap) (hns : s1.heap.Ns mainGlobals mg) (hb : s1.heap.Ns builtinsNs mb) (hbb : ∀ x : Str, x ≠ "__name__" → mb x = bootBuiltins x) (hlim : s1.heap.NoLimit) (hg : s1.gens = #[]) (hT : ∀ p ∈ cs, s1.heap.get? p.2 = some { cls := .none, data := .fields #[] }) (nT : ∀ p ∈ cs, K.lookup p.2 = none) (C : ∀ p ∈ cs, PySem.W.CodeHd s1.heap p.1 p.2)
    (hbm : ∃ (bm : Addr) (ob : Obj), mg "__builtins__" = some (.ref bm) ∧ bm ≠ builtinsNs ∧ s1.heap.get? bm = some ob ∧ ob.cls = .type "module" ∧ ob.dict = some builtinsNs ∧ ob.data = .plain) (ha : s1.heap.get? a = some { cls := .type "list", data := .seq vs.toArray }) (hi : IntsAre vs ns) (hl : ns.length ≤ sizeLine) (hr : Room k callerA)
    (F : ∀ base : Heap, K.In base → base.Ns mainGlobals mg → (∀ p ∈ cs, TabB base mg p.1 p.2) → CallD P w K mg base k y [x] sp) (hy : mg y = some (.ref fa))
    (hsp : ∀ H : Hp, (∀ p ∈ cs, H p.2 = some (.tbl #[])) → Script K H a (ns.map V.int) → sp [.ref a] H (fun v _ => v = .bl true) fun _ _ _ => False) :
    codeAny (model P w) callerA (.call (.ref fa) ⟨[.ref a], []⟩) (fun r s' => r = .ok (.ret (.bool true)) ∧ OldK s1.heap s'.heap ∧ s'.os = s1.os ∧ AllBare s'.gens) s1 := by
  have rv := vals_ints hi
  have lenV := hi.length
  have isT : ∀ b : Addr, b ∈ cs.map (·.2) → s1.heap.get? b = some { cls := .none, data := .fields #[] } := fun b hb => by obtain ⟨p, hp, e⟩ := List.mem_map.mp hb; exact e ▸ hT p hp
  have aT : a ∉ cs.map (·.2) := fun z => by have q := isT a z; rw [ha] at q; cases q
  generalize hO : ({ cls := .type "list", data := .seq vs.toArray } : Obj) = oS at ha
  have dO : oS.data = .seq vs.toArray 0 := by rw [← hO]
  generalize hH : entryH K a oS ns cs = H
  have cas : ∀ {b : Addr} {u : HO}, H b = some u → (b ∈ cs.map (·.2) ∧ u = .tbl #[]) ∨ (b = a ∧ K.lookup a = none ∧ u = .frz oS (.lst (ns.map V.int))) := fun {b u} h => entry_cases (by rw [hH]; exact h)
  have non : ∀ {b : Addr}, b ∉ cs.map (·.2) → (b = a → K.lookup a ≠ none) → H b = none := fun {b} h1 h2 => by rw [← hH]; exact entry_none h1 h2
  have plain : ∀ {b : Addr} {o : Obj}, s1.heap.get? b = some o → (∀ vs n, o.data ≠ .seq vs n) → o.data ≠ .fields #[] → H b = none := fun {b o} e h1 h2 =>
    non (fun z => h2 (by have q := isT b z; rw [e] at q; cases q; rfl)) fun z => absurd dO (by rw [z, ha] at e; cases e; exact h1 _ _)
  have atT : ∀ p ∈ cs, H p.2 = some (.tbl #[]) := fun p hp => by rw [← hH]; unfold entryH; rw [if_pos (List.mem_map.mpr ⟨p, hp, rfl⟩)]
  have hScr : Script K H a (ns.map V.int) := by
    cases q : K.lookup a with
    | none => exact .inl ⟨oS, by rw [← hH]; unfold entryH; rw [if_neg aT, if_pos ⟨rfl, q⟩]⟩
    | some o =>
      have e := KX a o q; rw [ha] at e; cases e
      exact .inr ⟨_, vs.toArray, 0, q, by rw [← hO], by rw [← hO], dO, by rw [List.size_toArray, lenV]; exact hl, by simpa using rv⟩
  have ok : HOk P w H s1.heap := fun b u e => by
    rcases cas e with ⟨h1, rfl⟩ | ⟨rfl, _, rfl⟩
    · exact isT b h1
    · exact ⟨ha, by rw [List.length_map]; exact hl, vs, 0, rv, by rw [← hO] at ha; exact ha⟩
  have dic : ∀ {b : Addr} {o : Obj} {es : Array DictEntry} {ep : Nat}, s1.heap.get? b = some o → o.data = .dict es ep → H b = none := fun {b o es ep} e d => plain e (fun vs n z => by rw [d] at z; cases z) fun z => by rw [d] at z; cases z
  have nsK : ∀ {b : Addr} {m : Str → Option Value}, s1.heap.Ns b m → (hidT s1.heap H).Ns b m := fun {b m} ⟨o, es, ep, e, d, r⟩ => ⟨o, es, ep, hidT_get e (dic e d), d, r⟩
  have hKb : K.In (hidT s1.heap H) := fun b o e => hidT_get (KX b o e) (non (fun z => by obtain ⟨p, hp, ep⟩ := List.mem_map.mp z; rw [← ep, nT p hp] at e; cases e) fun z q => by rw [z, q] at e; cases e)
  have hM : L2.Mod K mg (hidT s1.heap H) := ⟨hKb, nsK hns, ⟨mb, nsK hb, hbb⟩, let ⟨mc, h1, h2⟩ := hlim; ⟨mc, nsK h1, h2⟩⟩
  have TB : ∀ p ∈ cs, TabB (hidT s1.heap H) mg p.1 p.2 := fun p hp => by
    have hTp := hT p hp
    refine ⟨?_, ?_, fun z => ?_⟩
    · obtain ⟨o, us, file, tf, flags, tg, inF, text, tt, e1, r1, r2, r3, r⟩ := C p hp
      exact ⟨o, us, file, tf, flags, tg, inF, text, tt, hidT_get e1 (plain e1 (fun vs n z => by rw [r2] at z; cases z) fun z => by rw [r2] at z; cases z; simp at r3), r1, r2, r3, r⟩
    · obtain ⟨bm, ob, b1, b2, b3, b4, b5, b6⟩ := hbm
      refine ⟨bm, ob, b1, b2, fun q => ?_, fun q => ?_, hidT_get b3 (plain b3 (fun vs n z => by rw [b6] at z; cases z) fun z => by rw [b6] at z; cases z), b4, b5, b6⟩
      · obtain ⟨o, es, ep, e, hd, _⟩ := hns; rw [q, e] at b3; cases b3; rw [hd] at b6; cases b6
      · rw [q, hTp] at b3; cases b3; cases b6
    · obtain ⟨o, es, ep, e, hd, _⟩ := hns; rw [z, hTp] at e; cases e; cases hd
  have e0 : Env0 P w K mg (hidT s1.heap H) callerA [] s1 H := ⟨rfl, hM, fun b o e => of_hidT e, Nat.le_of_eq (hidT_size _ _), trivial, (fun b hb => nomatch (show b ∈ ([] : List Addr) from hb)), ok, .of_eq hg⟩
  obtain ⟨f', fd, FG, hf', _, hbind⟩ := F _ hKb (nsK hns) TB
  rw [hy] at hf'
  cases hf'
  refine codeAny_mono (FG.run callerA [] s1 H ⟨[.ref a], []⟩ [.ref a] [.ref a] _ _ hr rfl e0 (hbind s1 [.ref a] KX rfl) (.cons rfl .nil) (hsp H atT hScr)) fun r s' h => ?_
  match r, h with
  | .error e, h => exact False.elim h
  | .ok (.ret u), ⟨v, H', os, bare, un, hok', r', q⟩ =>
    obtain rfl : v = .bl true := q
    obtain rfl : u = Value.bool true := r'
    have key : ∀ b o, b ∉ cs.map (·.2) → s1.heap.get? b = some o → s'.heap.get? b = some o := fun b o nb e => by
      cases q : H b with
      | none => exact un.keep b o e q (fun z => nomatch (show b ∈ ([] : List Addr) from z)) (by simp)
      | some u =>
        rcases cas q with ⟨z, _⟩ | ⟨rfl, _, rfl⟩
        · exact absurd z nb
        · obtain ⟨e2, _⟩ := hok' b _ (un.frzs b oS _ q)
          rw [ha] at e; cases e; exact e2
    have grown : ∀ b, b ∈ cs.map (·.2) → ∃ more : Array Value, s'.heap.get? b = some { cls := .none, data := .fields more } := fun b hb => by
      obtain ⟨p, hp, rfl⟩ := List.mem_map.mp hb
      obtain ⟨more, z⟩ := un.tbls p.2 #[] (atT p hp)
      exact ⟨_, hok' p.2 _ z⟩
    refine ⟨rfl, ⟨fun b o e => ?_, fun b o e => ?_⟩, os, bare⟩
    · by_cases hb : b ∈ cs.map (·.2)
      · obtain ⟨more, hm⟩ := grown b hb
        obtain ⟨p, hp, rfl⟩ := List.mem_map.mp hb
        rw [hT p hp] at e; cases e
        exact .inr (.inl ⟨((C p hp).tab (hT p hp)).isCodeTable, rfl, #[], more, rfl, by rw [Array.empty_append]; exact hm⟩)
      · exact .inl (key b o hb e)
    · by_cases hb : b ∈ cs.map (·.2)
      · obtain ⟨more, hm⟩ := grown b hb; exact ⟨_, hm⟩
      · exact ⟨o, key b o hb e⟩
end
/-- what is known of the law's promise at the head's heap h -/
def LawG (l : PySem.W.OpenLaw) (w : World) (K : PySem.W.Frag) (k n : Nat) (y x : Str) (mg : Str → Option Value) (h : Heap) : Prop :=
  ∃ (cs : List (Addr × Addr)) (sp : Sp), (∀ p ∈ cs, h.get? p.2 = some { cls := .none, data := .fields #[] }) ∧ (∀ p ∈ cs, K.lookup p.2 = none) ∧ (∀ p ∈ cs, PySem.W.CodeHd h p.1 p.2) ∧
    (∀ (H : Hp) (a : Addr) (ns : List Int), ns.length ≤ n → (∀ z ∈ ns, Builtin.Int.intBits z ≤ 1048576) → (∀ p ∈ cs, H p.2 = some (.tbl #[])) → Script K H a (ns.map V.int) → sp [.ref a] H (fun v _ => v = .bl true) fun _ _ _ => False) ∧
    ∀ base : Heap, K.In base → base.Ns mainGlobals mg → (∀ p ∈ cs, TabB base mg p.1 p.2) → CallD l.prog w K mg base k y [x] sp
theorem walkG {l : PySem.W.OpenLaw} {n k : Nat} {q : Program} {loose : List Str} {XP : (Str → Option Value) → Heap → Prop} {YP : World → Heap → Prop} {d : DefRec} {x : Str} (hn : l.most = some n) (hn2 : n ≤ sizeLine) (hdf : d.params.defaults = []) (hr : Room k callerA)
    (F : ∀ (w : World) (mg : Str → Option Value) (fa : Addr) (h : Heap), YP w h → h.Ns mainGlobals mg → mg d.name = some (.ref fa) → ∃ K : PySem.W.Frag, K.In h ∧ LawG l w K k n d.name x mg h) :
    PySem.W.WalkO q loose XP YP l.row.toRowW d [] (fun f vs => PySem.call f vs) := by
  refine Att.attach_callB hn hdf fun w s₀ s₁ mg mb fa o pm cd doc a vs ns G Y ho hd hcd hmg hobj hints hlen hbits hg => ?_
  obtain ⟨K, KX, cs, sp, hT, nT, C, hsp, hF⟩ := F w mg fa _ Y G.T.g hmg
  exact endG KX G.T.g G.T.b G.T.builtins G.T.nolimit hg hT nT C G.T.bmain hobj hints (Nat.le_trans hlen hn2) hr hF hmg fun H hH hS => hsp H a ns hlen hbits hH hS
end MM
namespace MM
open PySem PySem.Spec PyProof.Rows L2 GxR
/-! ### what a head says of a class of refusals -/
theorem refC_of {K : PySem.W.Frag} {h : Heap} {mg : Str → Option Value} {x : Str} (X : K.In h) (G : h.Ns mainGlobals mg) (c : (He.Fa.glo x).ok K = true) (e : (He.Fa.exc x).ok K = true) : RefC K mg x (He.ga K x) := by
  obtain ⟨e1, e⟩ := He.ba e
  obtain ⟨e2, e⟩ := He.ba e
  obtain ⟨e3, e4⟩ := He.ba e
  exact ⟨e1, He.glo_ok X G c, e2, of_decide_eq_true e3, of_decide_eq_true e4⟩
end MM
namespace MM
open PySem PySem.Spec PyProof.Rows L2 GxR
/-! ### anything that may be handed in -/
/-- a tuple of what is known by kind, or no tuple -/
inductive Thing (K : PySem.W.Frag) (H : Hp) : V → Option (List V) → Prop
  | tup {a : Addr} {xs : List V} (e : SqT K H a xs) (h : ∀ x ∈ xs, ∃ T, Kd K H x T) : Thing K H (.ref a) (some xs)
  | no {v : V} {T : String} (k : Kd K H v T) (n : T ≠ "tuple") : Thing K H v none
def RowP (o : Option (List V)) : Prop := ∃ ns : List Int, o = some (ns.map V.int) ∧ IsRow ns
def BkP (m : Nat) (o : Option (List V)) : Prop := ∃ gs : List Int, o = some (gs.map V.int) ∧ BookOk m gs
theorem all_isW : ∀ {xs : List V}, xs.all isW = true → ∃ ns : List Int, xs = ns.map V.int
  | [], _ => ⟨[], rfl⟩
  | x :: xs, h => by
    rw [List.all_cons, Bool.and_eq_true] at h
    obtain ⟨ns, e⟩ := all_isW h.2
    cases x with
    | int i => exact ⟨i :: ns, by rw [e]; rfl⟩
    | _ => cases h.1
theorem ints_inj : ∀ {ns ms : List Int}, ns.map V.int = ms.map V.int → ns = ms
  | [], [], _ => rfl
  | i :: ns, j :: ms, h => by
    rw [List.map_cons, List.map_cons] at h
    injection h with a b
    injection a with a
    rw [a, ints_inj b]
theorem intsD_inj : ∀ {ns ms : List Int}, ns.map PyData.int = ms.map PyData.int → ns = ms
  | [], [], _ => rfl
  | i :: ns, j :: ms, h => by
    rw [List.map_cons, List.map_cons] at h
    injection h with a b
    injection a with a
    rw [a, intsD_inj b]
theorem sh_ints (ns : List Int) : SeqAt.shaped (.list (ns.map PyData.int)) = true := sh_lst (by rw [List.all_eq_true]; intro d hd; obtain ⟨i, _, rfl⟩ := List.mem_map.mp hd; rfl)
theorem kd_ex {K : PySem.W.Frag} {H H' : Hp} (e : Ex H H') {xs : List V} (h : ∀ x ∈ xs, ∃ T, Kd K H x T) : ∀ x ∈ xs, ∃ T, Kd K H' x T := fun x hx => let ⟨T, k⟩ := h x hx; ⟨T, Kd.ex e k⟩
/-- data handed in: what never changes, a list, an empty dict -/
inductive Oq (K : PySem.W.Frag) (H : Hp) : V → PyData → Prop
  | fix {v : V} {d : PyData} (h : Dp K H v d) (n : noList d = true) : Oq K H v d
  | lst {a : Addr} {xs : List V} {ds : List PyData} (e : H a = some (.lst xs)) (h : DpAll K H xs ds) (n : noLists ds = true) : Oq K H (.ref a) (.list ds)
  | dct {a : Addr} (e : H a = some (.dK [])) : Oq K H (.ref a) (.dict [])
section
variable {K : PySem.W.Frag} {H H' : Hp} {v : V} {d : PyData} {B : Addr → Prop}
theorem Oq.exB (e : ExB B H H') (h : Oq K H v d) (nb : ∀ a, v = .ref a → ¬ B a) : Oq K H' v d := by
  cases h with
  | fix h n => exact .fix (Dp.exN e n h) n
  | lst a h n => exact .lst (e.lst a (nb _ rfl)) (Dp.exNAll e n h) n
  | dct a => exact .dct (e.keep _ _ a (fun _ z => (nomatch z)) (nb _ rfl))
theorem Oq.ex (e : Ex H H') (h : Oq K H v d) : Oq K H' v d := h.exB e fun _ _ => id
mutual
theorem Dp.noDict : ∀ {v : V} {d : PyData}, Dp K H v d → d.hasDict = false
  | _, _, .non => by simp only [PyData.hasDict]
  | _, _, .bl _ => by simp only [PyData.hasDict]
  | _, _, .int _ => by simp only [PyData.hasDict]
  | _, _, .str _ => by simp only [PyData.hasDict]
  | _, _, .lst _ h => by simp only [PyData.hasDict, Dp.noDicts h]
  | _, _, .tup _ h => by simp only [PyData.hasDict, Dp.noDicts h]
theorem Dp.noDicts : ∀ {vs : List V} {ds : List PyData}, DpAll K H vs ds → PyData.hasDictAll ds = false
  | _, _, .nil => by simp only [PyData.hasDictAll]
  | _, _, .cons h t => by simp only [PyData.hasDictAll, Dp.noDict h, Dp.noDicts t, Bool.or_self]
end
theorem dp_kd (h : Dp K H v d) (n : noList d = true) : ∃ T, Kd K H v T := by
  cases h with
  | non => exact ⟨_, .non⟩
  | bl b => exact ⟨_, .bl b⟩
  | int i => exact ⟨_, .int i⟩
  | str z => exact ⟨_, .str z⟩
  | lst => simp [noList] at n
  | tup e _ => exact ⟨_, .tup e⟩
theorem dpAll_kd : ∀ {xs : List V} {ds : List PyData}, DpAll K H xs ds → noLists ds = true → ∀ x ∈ xs, ∃ T, Kd K H x T
  | _, _, .nil, _ => fun _ h => nomatch h
  | _, _, .cons h t, n => fun x hx => by
    simp only [noLists, Bool.and_eq_true] at n
    rcases List.mem_cons.mp hx with rfl | hx
    · exact dp_kd h n.1
    · exact dpAll_kd t n.2 x hx
theorem dpAll_iff : ∀ {xs : List V} {ds : List PyData}, DpAll K H xs ds → ∀ ns : List Int, xs = ns.map V.int ↔ ds = ns.map PyData.int
  | _, _, .nil, [] => ⟨fun _ => rfl, fun _ => rfl⟩
  | _, _, .nil, _ :: _ => ⟨fun z => (nomatch z), fun z => (nomatch z)⟩
  | _, _, .cons h t, [] => ⟨fun z => (nomatch z), fun z => (nomatch z)⟩
  | _, _, .cons (v := v) (d := d) h t, i :: ns => by
    have ih := dpAll_iff t ns
    rw [List.map_cons, List.map_cons, List.cons.injEq, List.cons.injEq, ih]
    have e : v = .int i ↔ d = .int i := by
      cases h with
      | int j => exact ⟨fun z => by cases z; rfl, fun z => by cases z; rfl⟩
      | _ => exact ⟨fun z => (by cases z), fun z => (by cases z)⟩
    rw [e]
def RowD (d : PyData) : Prop := ∃ ns : List Int, d = .tuple (ns.map PyData.int) ∧ IsRow ns
def BkD (m : Nat) (d : PyData) : Prop := ∃ gs : List Int, d = .tuple (gs.map PyData.int) ∧ BookOk m gs
def ManyD (d : PyData) : Prop := ∃ m : Nat, d = .int (m : Int) ∧ 1 ≤ m ∧ m ≤ 9
def natD : PyData → Nat
  | .int i => i.toNat
  | _ => 0
def lenD : PyData → Nat
  | .tuple ds => ds.length
  | _ => 0
theorem dpAll_length : ∀ {xs : List V} {ds : List PyData}, DpAll K H xs ds → xs.length = ds.length
  | _, _, .nil => rfl
  | _, _, .cons _ t => congrArg (· + 1) (dpAll_length t)
theorem Oq.thing (h : Oq K H v d) : ∃ o, Thing K H v o ∧ (RowP o ↔ RowD d) ∧ (∀ m, BkP m o ↔ BkD m d) ∧ ∀ xs, o = some xs → xs.length = lenD d := by
  have tupleOf : ∀ {a : Addr} {xs : List V} {ds : List PyData}, SqT K H a xs → DpAll K H xs ds → noLists ds = true → ∃ o, Thing K H (.ref a) o ∧ (RowP o ↔ RowD (.tuple ds)) ∧ (∀ m, BkP m o ↔ BkD m (.tuple ds)) ∧ ∀ xs, o = some xs → xs.length = lenD (.tuple ds) := fun {a xs ds} e h n => by
    have hi := dpAll_iff h
    refine ⟨some xs, .tup e (dpAll_kd h n), ⟨fun ⟨ns, z, r⟩ => ⟨ns, ?_, r⟩, fun ⟨ns, z, r⟩ => ⟨ns, ?_, r⟩⟩, fun m => ⟨fun ⟨ns, z, r⟩ => ⟨ns, ?_, r⟩, fun ⟨ns, z, r⟩ => ⟨ns, ?_, r⟩⟩, fun ys e => ?_⟩
    · rw [(hi ns).mp (Option.some.inj z)]
    · injection z with z; rw [(hi ns).mpr z]
    · rw [(hi ns).mp (Option.some.inj z)]
    · injection z with z; rw [(hi ns).mpr z]
    · cases e; exact dpAll_length h
  have no : ∀ {T : String}, Kd K H v T → T ≠ "tuple" → (∀ ds, d ≠ .tuple ds) → ∃ o, Thing K H v o ∧ (RowP o ↔ RowD d) ∧ (∀ m, BkP m o ↔ BkD m d) ∧ ∀ xs, o = some xs → xs.length = lenD d := fun k nt nd =>
    ⟨none, .no k nt, ⟨fun ⟨_, z, _⟩ => (nomatch z), fun ⟨_, z, _⟩ => absurd z (nd _)⟩, fun _ => ⟨fun ⟨_, z, _⟩ => (nomatch z), fun ⟨_, z, _⟩ => absurd z (nd _)⟩, fun _ z => (nomatch z)⟩
  cases h with
  | fix h n =>
    cases h with
    | non => exact no .non (by decide) (fun _ z => (nomatch z))
    | bl b => exact no (.bl b) (by decide) (fun _ z => (nomatch z))
    | int i => exact no (.int i) (by decide) (fun _ z => (nomatch z))
    | str z => exact no (.str z) (by decide) (fun _ z => (nomatch z))
    | lst => simp [noList] at n
    | tup e h => exact tupleOf e h (by simpa [noList] using n)
  | lst e h n => exact no (.lst e) (by decide) (fun _ z => (nomatch z))
  | dct e => exact no (.dic e) (by decide) (fun _ z => (nomatch z))
/-- what a value is, by kind, as a whole number or not -/
theorem Oq.kd (h : Oq K H v d) : ∃ T, Kd K H v T := by
  cases h with
  | fix h n => exact dp_kd h n
  | lst e _ _ => exact ⟨_, .lst e⟩
  | dct e => exact ⟨_, .dic e⟩
def manyB : V → Bool
  | .int i => decide (1 ≤ i ∧ i ≤ 9)
  | _ => false
theorem Oq.many (h : Oq K H v d) : manyB v = true ↔ ManyD d := by
  have no : manyB v = false → (∀ i, d ≠ .int i) → (manyB v = true ↔ ManyD d) := fun e nd => ⟨fun z => (by rw [e] at z; cases z), fun ⟨_, z, _⟩ => absurd z (nd _)⟩
  cases h with
  | fix h n =>
    cases h with
    | int i =>
      refine ⟨fun z => ?_, fun ⟨m, z, h1, h9⟩ => ?_⟩
      · have z := of_decide_eq_true z
        exact ⟨i.toNat, by rw [Int.toNat_of_nonneg (by omega)], by omega, by omega⟩
      · cases z
        exact decide_eq_true ⟨by omega, by omega⟩
    | _ => exact no rfl (fun _ z => (nomatch z))
  | lst => exact no rfl (fun _ z => (nomatch z))
  | dct => exact no rfl (fun _ z => (nomatch z))
/-- a good row, book, number, as it stands -/
theorem Oq.row {d : PyData} (h : Oq K H v d) (r : RowD d) : ∃ (a : Addr) (ns : List Int), v = .ref a ∧ SqT K H a (ns.map V.int) ∧ IsRow ns ∧ d = .tuple (ns.map PyData.int) := by
  obtain ⟨ns, rfl, r⟩ := r
  cases h with
  | fix h n => cases h with
    | tup e h => exact ⟨_, ns, rfl, by rw [← (dpAll_iff h ns).mpr rfl]; exact e, r, rfl⟩
theorem Oq.book {d : PyData} {m : Nat} (h : Oq K H v d) (r : BkD m d) : ∃ (a : Addr) (ns : List Int), v = .ref a ∧ SqT K H a (ns.map V.int) ∧ BookOk m ns ∧ d = .tuple (ns.map PyData.int) := by
  obtain ⟨ns, rfl, r⟩ := r
  cases h with
  | fix h n => cases h with
    | tup e h => exact ⟨_, ns, rfl, by rw [← (dpAll_iff h ns).mpr rfl]; exact e, r, rfl⟩
theorem Oq.num {d : PyData} (h : Oq K H v d) (r : ManyD d) : ∃ m : Nat, v = .int (m : Int) ∧ 1 ≤ m ∧ m ≤ 9 ∧ d = .int (m : Int) := by
  obtain ⟨m, rfl, h1, h9⟩ := r
  cases h with
  | fix h n => cases h with
    | int i => exact ⟨m, rfl, h1, h9, rfl⟩
theorem noLists_ints : ∀ ns : List Int, noLists (ns.map PyData.int) = true
  | [] => rfl
  | n :: ns => by rw [List.map_cons]; simp only [noLists, noList, Bool.true_and]; exact noLists_ints ns
theorem oq_ints {a : Addr} {ns : List Int} (h : SqT K H a (ns.map V.int)) : Oq K H (.ref a) (.tuple (ns.map PyData.int)) := .fix (dp_row h) (by simp only [noList]; exact noLists_ints ns)
end
/-! ### refusals, by name -/
inductive Rf | many | row | book | gap | going | unlike | number | step | notone | table | kinds | far | place | notlet | leaving | text | toomany
deriving DecidableEq
def Rf.nm : Rf → Str
  | .many => "NoMany" | .row => "NoRow" | .book => "NoBook" | .gap => "NoGap" | .going => "NoGoing" | .unlike => "Unlike" | .number => "NoNumber" | .step => "NoStep" | .notone => "NotOne"
  | .table => "NoTable" | .kinds => "NoKinds" | .far => "NoFar" | .place => "NoPlace" | .notlet => "NotLet" | .leaving => "NoLeaving" | .text => "NoText" | .toomany => "TooMany"
/-- where the class stands -/
def cO (K : PySem.W.Frag) (r : Rf) : Addr := He.ga K r.nm
open Classical in
/-- what is due of a book and a number of people -/
noncomputable def dueBook (d md : PyData) : Option Rf := if ManyD md then (if BkD (natD md) d then none else some .book) else some .many
open Classical in
noncomputable def dueRow (d : PyData) : Option Rf := if RowD d then none else some .row
open Classical in
/-- of a book and a row -/
noncomputable def dueBR (d rd : PyData) : Option Rf := if RowD rd then (if BkD (lenD rd) d then none else some .book) else some .row
end MM
namespace K68
open PySem PySem.Spec PyProof.Rows L2 GxR MM
section
variable {P : Program} {w : World} {K : PySem.W.Frag} {mg : Str → Option Value} {base : Heap} {f : Addr} {fd : FuncData} {n : Nat}
theorem ledT_word {m : Nat} {gs : List Int} (hB : BookOk m gs) : ∀ (told u : List Nat), (∀ k ∈ told, k < gs.length) → ledT gs (ofF m (Pw u)) told = ofF m (Pw (u ++ told.map (gapN gs)))
  | [], u, _ => by rw [List.map_nil, List.append_nil]; rfl
  | k :: told, u, h => by
    have ih := ledT_word hB told (u ++ [gapN gs k]) fun z hz => h z (List.mem_cons_of_mem _ hz)
    rw [List.append_assoc] at ih
    refine Eq.trans ?_ ih
    show ledT gs (swL (ofF m (Pw u)) (gapN gs k)) told = _
    rw [sw_ofF (gap_lt hB (h k List.mem_cons_self))]
    congr 1
    exact ofF_congr fun j _ => (Pw_app u [gapN gs k] j).symm
def spListRight (K : PySem.W.Frag) (Pr Pb Pp : Addr) : Sp := fun vs H Q _ => ∃ (a l : Addr) (gs : List Int) (k m : Nat) (fa fb : Nat → Nat), vs = [.ref a, .int k, .ref l] ∧ SqT K H a (gs.map V.int) ∧ FTup H l ((ofF m fa).map V.int) ∧ IsInv m fa fb ∧ 1 ≤ m ∧ m ≤ 9 ∧ BookOk m gs ∧ gs.length ≤ 60 ∧ k ≤ gs.length ∧ dnL gs (ofF m fb) = row0 m ∧ TabG H Pr ∧ TabG H Pb ∧ TabG H Pp ∧ ∀ H', Ex H H' → Q (.bl true) H'
theorem d_law_list_right {Pr Pb Pp : Addr} (F : FnP K "_law_list_right" s_law_list_right f fd) (g : mg "_law_list_right" = some (.ref f)) (B : Bl mg) (C_fewest : CallD P w K mg base n "fewest" ["book", "row"] (spFewest K Pr Pb Pp)) (C_law_led : CallD P w K mg base n "_law_led" ["plan", "size", "told"] (spLed K)) (C_law_anew : CallD P w K mg base n "_law_anew" ["line", "amid"] (spAnew K)) : CallD P w K mg base (n + 1) "_law_list_right" ["plan", "k", "line"] (spListRight K Pr Pb Pp) := by
  refine callD F g sc_law_list_right (fun _ _ _ _ _ _ us hl => match us, hl with | [_, _, _], _ => rfl) (fun vs H Q E h => ?_) (fun cdv A outer s H vs Q E _ hr hG h => ?_)
  · obtain ⟨a, l, gs, k, m, fa, fb, rfl, _⟩ := h; rfl
  · obtain ⟨a, l, gs, k, m, fa, fb, rfl, hT, hL, hI, h1, h9, hB, h60, hk, hd, hPr, hPb, hPp, q⟩ := h
    refine ⟨_, (pss_cons (ps_set (i := 3) sc_law_list_right.nd rfl (Or.inl rfl) (pe_c C_fewest hr hG (pa_cons (pv 0) (pa_cons (pv 2) pa_nil))))
      (pss_cons (ps_if (pt_cmpR op_isN (pv 3) pe_non (nomark _))
      (pss_one (ps_ret pe_bl))
      pss_nil)
      (pss_cons (ps_setLc (i := 4) (own := [("spot", 7)]) (g := gName 7) rfl sc_law_list_right.nd rfl rfl (sw_true rfl rfl rfl (by decide +kernel)) (k_piL (K := K) rfl (pv 3)) (blkOk_by (N := N_law_list_right) (sc := defScope s_law_list_right) (by decide +kernel)) (fun _ _ _ _ _ => (pg_name (i := 7) sc_law_list_right.nd rfl (by first | exact Or.inl rfl | exact Or.inr rfl))) (fun _ _ _ _ _ => (pts_one (pt_cmpR op_lt (pv 7) (pv 1) (nomark _)))) (fun _ _ _ _ _ => (pv 7)))
      (pss_cons (ps_setLc (i := 5) (own := [("spot", 7)]) (g := gName 7) rfl sc_law_list_right.nd rfl rfl (sw_true rfl rfl rfl (by decide +kernel)) (k_piL (K := K) rfl (pv 3)) (blkOk_by (N := N_law_list_right) (sc := defScope s_law_list_right) (by decide +kernel)) (fun _ _ _ _ _ => (pg_name (i := 7) sc_law_list_right.nd rfl (by first | exact Or.inl rfl | exact Or.inr rfl))) (fun _ _ _ _ _ => (pts_one (pt_cmpR op_ge (pv 7) (pv 1) (nomark _)))) (fun _ _ _ _ _ => (pe_op op_sub (pv 7) (pv 1))))
      (pss_cons (ps_set (i := 6) sc_law_list_right.nd rfl (Or.inl rfl) (pe_c C_law_led hr hG (pa_cons (pv 0) (pa_cons (pe_callB (k_len (K := K) rfl) (by rfl) B.len PySem.boot_len (pa_cons (pv 2) pa_nil)) (pa_cons (pv 4) pa_nil)))))
      (pss_one (ps_ret (pe_and (pe_cmpR (k_eq (K := K) rfl hr.units) (pe_c C_fewest hr hG (pa_cons (pe_slice (k_slt (K := K) rfl) (pv 0) po_none (po_some (pv 1))) (pa_cons (pv 6) pa_nil))) (pv 4) (nomark _)) (pe_one (pe_cmpR (k_eq (K := K) rfl hr.units) (pe_c C_fewest hr hG (pa_cons (pe_slice (k_slt (K := K) rfl) (pv 0) (po_some (pv 1)) po_none) (pa_cons (pe_c C_law_anew hr hG (pa_cons (pv 2) (pa_cons (pv 6) pa_nil))) pa_nil))) (pv 5) (nomark _))))))))))), ?_⟩
    have sl : sizeLine = 16777216 := by decide
    obtain ⟨n2, hn2⟩ : ∃ n2, gs.length = k + n2 := ⟨gs.length - k, by omega⟩
    obtain ⟨p1, p2⟩ := few_part h1 h9 hB hk hI hd
    have tl : (tld gs (ofF m fb) gs.length).length ≤ 60 := by unfold tld; exact Nat.le_trans (List.length_filter_le _ _) (by rw [List.length_range]; omega)
    refine ⟨_, rfl, _, rfl, a, l, gs, m, fa, fb, rfl, hT, hL, hI, h1, h9, hB, h60, hPr, hPb, hPp, fun v H1 x1 hv => ?_⟩
    obtain ⟨t, rfl, nt, et⟩ := hv.1 hd
    refine ⟨_, rfl, rfl, _, rfl, iteF ?_⟩
    generalize hTl : tld gs (ofF m fb) gs.length = T at et tl
    have stp : ∀ (p : Nat → Bool) i (hi : i < T.length), (T.take (i + 1)).filter p = (T.take i).filter p ++ if p T[i] = true then [T[i]] else [] := fun p i hi => by
      rw [List.take_add_one, List.getElem?_eq_getElem hi, List.filter_append]
      congr 1
      show List.filter p [T[i]] = _
      by_cases c : p T[i] = true
      · rw [if_pos c, List.filter_cons_of_pos c, List.filter_nil]
      · rw [if_neg c, List.filter_cons_of_neg c, List.filter_nil]
    have lfl : ∀ (p : Nat → Bool) i, ((T.take i).filter p).length ≤ 60 := fun p i => Nat.le_trans (List.length_filter_le _ _) (by rw [List.length_take]; omega)
    refine ⟨_, rfl, t, rfl, ⟨_, SqL.of et⟩, fun D nD => ?_⟩
    refine lc_it (walk_list (xs := (T.map fun (z : Nat) => (z : Int)).map V.int)) (fun i H2 => Ex H1 H2 ∧ H2 D = some (.lst ((((T.take i).filter fun z => decide (z < k)).map fun (z : Nat) => (z : Int)).map V.int))) ⟨ex_new nD, upd_same⟩ (fun i H2 _ y => SqL.of (Ex.lst y.1 et)) ?_ ?_
    · rintro i x H2' H2 hi ⟨x2, e2⟩ ⟨rfl, hx⟩
      rw [List.length_map, List.length_map] at hi
      rw [List.getElem?_map, List.getElem?_map, List.getElem?_eq_getElem hi] at hx
      cases hx
      refine ⟨rfl, ⟨_, rfl, _, rfl, _, _, rfl, rfl, _, rfl, ?_⟩⟩
      rw [stp _ i hi]
      by_cases c : T[i] < k
      · rw [decide_eq_true (show ((T[i] : Nat) : Int) < (k : Int) by omega), if_pos (show decide (T[i] < k) = true from decide_eq_true c), List.map_append, List.map_append]
        refine iteT ⟨_, rfl, _, e2, by rw [List.length_map, List.length_map, sl]; have := lfl (fun z => decide (z < k)) i; omega, x2.then (ex_set e2) fun y hy => .inl (hy ▸ nD), upd_same⟩
      · rw [decide_eq_false (show ¬ ((T[i] : Nat) : Int) < (k : Int) by omega), if_neg (show ¬ decide (T[i] < k) = true by rw [decide_eq_false c]; decide), List.append_nil]
        exact iteF ⟨x2, e2⟩
    rintro H2 ⟨x2, e2⟩
    rw [List.length_map, List.length_map, List.take_length] at e2
    have y2 := x1.trans x2
    have et2 := Ex.lst x2 et
    refine ⟨_, rfl, t, rfl, ⟨_, SqL.of et2⟩, fun D2 nD2 => ?_⟩
    refine lc_it (walk_list (xs := (T.map fun (z : Nat) => (z : Int)).map V.int)) (fun i H3 => Ex H2 H3 ∧ H3 D2 = some (.lst ((((T.take i).filter fun z => decide (k ≤ z)).map fun (z : Nat) => (z : Int) - k).map V.int))) ⟨ex_new nD2, upd_same⟩ (fun i H3 _ y => SqL.of (Ex.lst y.1 et2)) ?_ ?_
    · rintro i x H3' H3 hi ⟨x3, e3⟩ ⟨rfl, hx⟩
      rw [List.length_map, List.length_map] at hi
      rw [List.getElem?_map, List.getElem?_map, List.getElem?_eq_getElem hi] at hx
      cases hx
      refine ⟨rfl, ⟨_, rfl, _, rfl, _, _, rfl, rfl, _, rfl, ?_⟩⟩
      rw [stp _ i hi]
      by_cases c : k ≤ T[i]
      · rw [decide_eq_true (show (k : Int) ≤ ((T[i] : Nat) : Int) by omega), if_pos (show decide (k ≤ T[i]) = true from decide_eq_true c), List.map_append, List.map_append]
        refine iteT ⟨_, rfl, _, rfl, _, _, rfl, rfl, _, e3, by rw [List.length_map, List.length_map, sl]; have := lfl (fun z => decide (k ≤ z)) i; omega, x3.then (ex_set e3) fun y hy => .inl (hy ▸ nD2), upd_same⟩
      · rw [decide_eq_false (show ¬ (k : Int) ≤ ((T[i] : Nat) : Int) by omega), if_neg (show ¬ decide (k ≤ T[i]) = true by rw [decide_eq_false c]; decide), List.append_nil]
        exact iteF ⟨x3, e3⟩
    rintro H3 ⟨x3, e3⟩
    rw [List.length_map, List.length_map, List.take_length] at e3
    have y3 := y2.trans x3
    have e23 := Ex.lst x3 e2
    have hlt : T.filter (fun z => decide (z < k)) = tld gs (ofF m fb) k := by rw [← hTl]; exact few_lt hn2
    have hge : T.filter (fun z => decide (k ≤ z)) = (tld (gs.drop k) (dnL (gs.take k) (ofF m fb)) n2).map (k + ·) := by rw [← hTl]; exact few_ge hn2
    rw [hlt] at e23
    have e5 : ((tld (gs.drop k) (dnL (gs.take k) (ofF m fb)) n2).map (k + ·)).map (fun (z : Nat) => (z : Int) - k) = (tld (gs.drop k) (dnL (gs.take k) (ofF m fb)) n2).map fun (z : Nat) => (z : Int) := by
      rw [List.map_map]
      refine List.map_congr_left fun z _ => ?_
      show (((k + z : Nat) : Int)) - (k : Int) = (z : Int)
      omega
    rw [hge, e5] at e3
    have hw := wrd_ok (y := ofF m fb) hB hk
    have hIk := word_inv hw
    have lk : (gs.take k).length = k := by rw [List.length_take]; omega
    have ld : (gs.drop k).length = n2 := by rw [List.length_drop]; omega
    have hBk : BookOk m (gs.take k) := fun x hx => hB x (List.mem_of_mem_take hx)
    have hBd : BookOk m (gs.drop k) := fun x hx => hB x (List.mem_of_mem_drop hx)
    have eled : ledT gs (row0 m) (tld gs (ofF m fb) k) = ofF m (Pw (wrd gs (ofF m fb) k)) := by
      have := ledT_word hB (tld gs (ofF m fb) k) [] (fun z hz => by have := (mem_tld.mp hz).1; omega)
      rw [List.nil_append] at this
      exact this
    refine ⟨_, rfl, _, rfl, l, _, rfl, .inr (y3.sqt hL.sqt), _, rfl, a, D, gs, tld gs (ofF m fb) k, m, by rw [List.length_map, ofF_len]; rfl, y3.sqt hT, by rw [List.map_map] at e23; exact SqL.of e23, hB, fun z hz => by have := (mem_tld.mp hz).1; omega, h1, h9, fun pa H4 x4 ha => ?_⟩
    rw [eled] at ha
    have y4 := y3.trans x4
    have eqI : ∀ {H : Hp} {a b : Addr} {ns : List Int} {Q : VK}, H a = some (.lst (ns.map V.int)) → H b = some (.lst (ns.map V.int)) → Q (.bl true) H → rEqD K (.ref a) (.ref b) H Q := fun {H a b ns Q} ha hb q => by
      refine ⟨_, _, dp_ints (SqL.of ha), dp_ints (SqL.of hb), sh_ints _, sh_ints _, ?_⟩
      rw [eqv_ints, decide_eq_true rfl]; exact q
    refine ⟨_, rfl, _, rfl, _, rfl, a, _, rfl, y4.sqt hT, fun p5 H5 x5 h5 => ?_⟩
    rw [cutV_to, ← List.map_take] at h5
    have y5 := y4.trans x5
    refine ⟨_, rfl, p5, pa, gs.take k, m, _, _, rfl, h5, ha.ex x5, hIk, h1, h9, hBk, by omega, y5.tab hPr, y5.tab hPb, y5.tab hPp, fun v6 H6 x6 hv6 => ?_⟩
    obtain ⟨t6, rfl, _, et6⟩ := hv6.1 p1
    rw [p2] at et6
    have y6 := y5.trans x6
    refine ⟨_, rfl, eqI et6 (Ex.lst ((x4.trans x5).trans x6) e23) ⟨_, rfl, ?_⟩⟩
    rw [if_pos rfl]
    refine ⟨_, rfl, _, rfl, _, rfl, a, _, rfl, y6.sqt hT, fun p7 H7 x7 h7 => ?_⟩
    rw [cutV_from, ← List.map_drop] at h7
    have x47 := (x5.trans x6).trans x7
    have y7 := y6.trans x7
    have hpk : ∀ i, i < m → Pw (wrd gs (ofF m fb) k).reverse i < m := fun i hi => (hIk.ba i hi).1
    have hId : IsInv m (fun i => Pw (wrd gs (ofF m fb) k).reverse (fa i)) (fun j => fb (Pw (wrd gs (ofF m fb) k) j)) := ⟨fun i hi => by
      obtain ⟨a1, a2⟩ := hI.ab i hi
      obtain ⟨b1, b2⟩ := hIk.ba _ a1
      exact ⟨b1, by rw [b2, a2]⟩, fun j hj => by
      obtain ⟨a1, a2⟩ := hIk.ab j hj
      obtain ⟨b1, b2⟩ := hI.ba _ a1
      exact ⟨b1, by rw [b2, a2]⟩⟩
    refine ⟨_, rfl, _, rfl, l, pa, m, fa, _, _, rfl, (hL.ex y7).sqt, ha.ex x47, hIk, fun i hi => (hI.ab i hi).1, h1, h9, fun p8 H8 x8 h8 => ?_⟩
    have edn := dn_word (b := fb) hB k hk
    refine ⟨p7, p8, gs.drop k, m, _, _, rfl, x8.sqt h7, h8, hId, h1, h9, hBd, by omega, (y7.trans x8).tab hPr, (y7.trans x8).tab hPb, (y7.trans x8).tab hPp, fun v9 H9 x9 hv9 => ?_⟩
    rw [← edn] at hv9
    have hd2 : dnL (gs.drop k) (dnL (gs.take k) (ofF m fb)) = row0 m := by rw [← dnL_app, List.take_append_drop]; exact hd
    obtain ⟨t9, rfl, _, et9⟩ := hv9.1 hd2
    rw [ld] at et9
    have y9 := (y7.trans x8).trans x9
    exact ⟨_, rfl, eqI et9 (Ex.lst (((x4.trans x47).trans x8).trans x9) e3) (q H9 y9)⟩
end
end K68
namespace MM
open PySem PySem.Spec PyProof.Rows L2 GxR
/-! ### weights as functions: what a meeting does, and what is the same -/
/-- times q -/
def ah (c : Nat → Int) (i : Nat) : Int := if i = 0 then 0 else c (i - 1)
/-- q times the two, less the first -/
def st (u v : Nat → Int) (i : Nat) : Int := ah u i - u i + ah v i
theorem st_at (u v : Nat → Int) (i : Nat) : st u v i = ah u i - u i + ah v i := rfl
theorem ah_st (u v : Nat → Int) : ah (st u v) = st (ah u) (ah v) := funext fun i => by
  unfold st ah
  cases i with
  | zero => rfl
  | succ i => rfl
abbrev Wt := List Int → Nat → Int
def opM (g : Nat) (F : Wt) : Wt := fun x => if x.getD g 0 < x.getD (g + 1) 0 then st (F x) (F (swL x g)) else F (swL x g)
theorem opM_eq (g : Nat) (F : Wt) (x : List Int) : opM g F x = if x.getD g 0 < x.getD (g + 1) 0 then st (F x) (F (swL x g)) else F (swL x g) := rfl
def EqR (m : Nat) (F G : Wt) : Prop := ∀ x, IsRow x → x.length = m → F x = G x
theorem EqR.rfl {m : Nat} {F : Wt} : EqR m F F := fun _ _ _ => Eq.refl _
theorem EqR.symm {m : Nat} {F G : Wt} (h : EqR m F G) : EqR m G F := fun x a b => (h x a b).symm
theorem EqR.trans {m : Nat} {F G J : Wt} (h : EqR m F G) (h' : EqR m G J) : EqR m F J := fun x a b => (h x a b).trans (h' x a b)
theorem op_congr {m g : Nat} {F G : Wt} (hg : g + 1 < m) (h : EqR m F G) : EqR m (opM g F) (opM g G) := fun x hr hl => by
  rw [opM_eq, opM_eq, h x hr hl, h (swL x g) (sw_row (by omega) hr) (by rw [sw_len (by omega)]; exact hl)]
theorem sw_getD {x : List Int} {g : Nat} (h : g + 1 < x.length) (k : Nat) : (swL x g).getD k 0 = x.getD (trs g k) 0 := by
  rw [List.getD_eq_getElem?_getD, List.getD_eq_getElem?_getD, sw_get h]
theorem trs_l (g : Nat) : trs g g = g + 1 := by unfold trs; simp
theorem trs_r (g : Nat) : trs g (g + 1) = g := by unfold trs; simp
theorem trs_o {g k : Nat} (h1 : k ≠ g) (h2 : k ≠ g + 1) : trs g k = k := by unfold trs; simp [h1, h2]
/-- twice at one gap -/
theorem op_twice {m g : Nat} {F : Wt} (hg : g + 1 < m) : EqR m (opM g (opM g F)) fun x => st (opM g F x) (F x) := fun x hr hl => by
  have h : g + 1 < x.length := by omega
  have s1 := sw_g (ns := x) (g := g) h
  have s2 := sw_sw (ns := x) (g := g) h
  have ne := row_ne hr (g := g) h
  show opM g (opM g F) x = st (opM g F x) (F x)
  rw [opM_eq g (opM g F)]
  by_cases c : x.getD g 0 < x.getD (g + 1) 0
  · have c2 : ¬ x.getD (g + 1) 0 < x.getD g 0 := by omega
    rw [if_pos c]
    congr 1
    rw [opM_eq, s1.1, s1.2, if_neg c2, s2]
  · have c2 : x.getD (g + 1) 0 < x.getD g 0 := by omega
    rw [if_neg c, opM_eq g F (swL x g), s1.1, s1.2, if_pos c2, s2, opM_eq g F x, if_neg c]
/-- far apart -/
theorem op_far {m g h : Nat} {F : Wt} (hg : g + 1 < m) (hh : h + 1 < m) (d : g + 1 < h ∨ h + 1 < g) : EqR m (opM g (opM h F)) (opM h (opM g F)) := fun x hr hl => by
  have xg : g + 1 < x.length := by omega
  have xh : h + 1 < x.length := by omega
  have a1 : (swL x g).getD h 0 = x.getD h 0 := by rw [sw_getD xg, trs_o (by omega) (by omega)]
  have a2 : (swL x g).getD (h + 1) 0 = x.getD (h + 1) 0 := by rw [sw_getD xg, trs_o (by omega) (by omega)]
  have b1 : (swL x h).getD g 0 = x.getD g 0 := by rw [sw_getD xh, trs_o (by omega) (by omega)]
  have b2 : (swL x h).getD (g + 1) 0 = x.getD (g + 1) 0 := by rw [sw_getD xh, trs_o (by omega) (by omega)]
  have cm := sw_comm (x := x) (a := g) (b := h) xg xh d
  funext i
  simp only [opM_eq, a1, a2, b1, b2, cm]
  by_cases c : x.getD g 0 < x.getD (g + 1) 0
  · by_cases e : x.getD h 0 < x.getD (h + 1) 0
    · simp only [c, e, if_true, st_at, ah_st]; omega
    · simp only [c, e, if_true, if_false, st_at, ah_st]
  · by_cases e : x.getD h 0 < x.getD (h + 1) 0
    · simp only [c, e, if_true, if_false, st_at, ah_st]
    · simp only [c, e, if_false]
/-- three in turn -/
theorem sw_three {x : List Int} {g : Nat} (h : g + 2 < x.length) : swL (swL (swL x g) (g + 1)) g = swL (swL (swL x (g + 1)) g) (g + 1) := by
  have l1 : ∀ k, k + 1 < x.length → ∀ y : List Int, y.length = x.length → (swL y k).length = x.length := fun k hk y e => by rw [sw_len (by omega), e]
  refine List.ext_getElem? fun k => ?_
  rw [sw_get (by rw [l1 _ (by omega) _ (l1 _ (by omega) _ (Eq.refl _))]; omega), sw_get (by rw [l1 _ (by omega) _ (Eq.refl _)]; omega), sw_get (by omega),
    sw_get (by rw [l1 _ (by omega) _ (l1 _ (by omega) _ (Eq.refl _))]; omega), sw_get (by rw [l1 _ (by omega) _ (Eq.refl _)]; omega), sw_get (by omega)]
  congr 1
  unfold trs
  repeat' split
  all_goals omega
theorem op_three {m g : Nat} {F : Wt} (hg : g + 2 < m) : EqR m (opM g (opM (g + 1) (opM g F))) (opM (g + 1) (opM g (opM (g + 1) F))) := fun x hr hl => by
  have xg : g + 1 < x.length := by omega
  have xh : g + 1 + 1 < x.length := by omega
  have n1 := row_ne hr (g := g) xg
  have n2 := row_ne hr (g := g + 1) xh
  have ls : (swL x g).length = x.length := sw_len xg
  have lt : (swL x (g + 1)).length = x.length := sw_len xh
  have lst : (swL (swL x g) (g + 1)).length = x.length := by rw [sw_len (by omega), ls]
  have lts : (swL (swL x (g + 1)) g).length = x.length := by rw [sw_len (by omega), lt]
  have n3 := row_ne (x := swL x g) (sw_row xg hr) (g := g + 1) (by omega)
  have s0 : (swL x g).getD g 0 = x.getD (g + 1) 0 := by rw [sw_getD xg, trs_l]
  have s1 : (swL x g).getD (g + 1) 0 = x.getD g 0 := by rw [sw_getD xg, trs_r]
  have s2 : (swL x g).getD (g + 1 + 1) 0 = x.getD (g + 1 + 1) 0 := by rw [sw_getD xg, trs_o (by omega) (by omega)]
  have t0 : (swL x (g + 1)).getD g 0 = x.getD g 0 := by rw [sw_getD xh, trs_o (by omega) (by omega)]
  have t1 : (swL x (g + 1)).getD (g + 1) 0 = x.getD (g + 1 + 1) 0 := by rw [sw_getD xh, trs_l]
  have t2 : (swL x (g + 1)).getD (g + 1 + 1) 0 = x.getD (g + 1) 0 := by rw [sw_getD xh, trs_r]
  have st0 : (swL (swL x g) (g + 1)).getD g 0 = x.getD (g + 1) 0 := by rw [sw_getD (by omega), trs_o (by omega) (by omega), s0]
  have st1 : (swL (swL x g) (g + 1)).getD (g + 1) 0 = x.getD (g + 1 + 1) 0 := by rw [sw_getD (by omega), trs_l, s2]
  have st2 : (swL (swL x g) (g + 1)).getD (g + 1 + 1) 0 = x.getD g 0 := by rw [sw_getD (by omega), trs_r, s1]
  have ts0 : (swL (swL x (g + 1)) g).getD g 0 = x.getD (g + 1 + 1) 0 := by rw [sw_getD (by omega), trs_l, t1]
  have ts1 : (swL (swL x (g + 1)) g).getD (g + 1) 0 = x.getD g 0 := by rw [sw_getD (by omega), trs_r, t0]
  have ts2 : (swL (swL x (g + 1)) g).getD (g + 1 + 1) 0 = x.getD (g + 1) 0 := by rw [sw_getD (by omega), trs_o (by omega) (by omega), t2]
  have ss := sw_sw (ns := x) (g := g) xg
  have tt := sw_sw (ns := x) (g := g + 1) xh
  have three := sw_three (x := x) (g := g) (by omega)
  rw [s1, s2] at n3
  funext i
  simp only [opM_eq, s0, s1, s2, t0, t1, t2, st0, st1, st2, ts0, ts1, ts2, ss, tt, three]
  generalize x.getD g 0 = a at *
  generalize x.getD (g + 1) 0 = b at *
  generalize x.getD (g + 1 + 1) 0 = c at *
  by_cases c1 : a < b
  · have d1 : ¬ b < a := by omega
    by_cases c2 : b < c
    · have d2 : ¬ c < b := by omega
      have c3 : a < c := by omega
      have d3 : ¬ c < a := by omega
      simp only [c1, c2, c3, d1, d2, d3, if_true, if_false, st_at, ah_st]; omega
    · have d2 : c < b := by omega
      by_cases c3 : a < c
      · have d3 : ¬ c < a := by omega
        simp only [c1, c2, c3, d1, d2, d3, if_true, if_false, st_at, ah_st] <;> omega
      · have d3 : c < a := by omega
        simp only [c1, c2, c3, d1, d2, d3, if_true, if_false, st_at, ah_st] <;> omega
  · have d1 : b < a := by omega
    by_cases c2 : b < c
    · have d2 : ¬ c < b := by omega
      by_cases c3 : a < c
      · have d3 : ¬ c < a := by omega
        simp only [c1, c2, c3, d1, d2, d3, if_true, if_false, st_at, ah_st] <;> omega
      · have d3 : c < a := by omega
        simp only [c1, c2, c3, d1, d2, d3, if_true, if_false, st_at, ah_st] <;> omega
    · have d2 : c < b := by omega
      have c3 : ¬ a < c := by omega
      have d3 : c < a := by omega
      simp only [c1, c2, c3, d1, d2, d3, if_true, if_false, st_at, ah_st]
end MM
namespace MM
open PySem PySem.Spec PyProof.Rows L2 GxR
/-! ### weights of whole books -/
def wgO (gs : List Nat) (F : Wt) : Wt := gs.foldl (fun F g => opM g F) F
theorem wgO_app (A B : List Nat) (F : Wt) : wgO (A ++ B) F = wgO B (wgO A F) := List.foldl_append
theorem wgO_cons (g : Nat) (B : List Nat) (F : Wt) : wgO (g :: B) F = wgO B (opM g F) := rfl
theorem wgO_congr {m : Nat} : ∀ {gs : List Nat} {F G : Wt}, (∀ g ∈ gs, g + 1 < m) → EqR m F G → EqR m (wgO gs F) (wgO gs G)
  | [], _, _, _, h => h
  | g :: gs, _, _, hg, h => wgO_congr (gs := gs) (fun x hx => hg x (List.mem_cons_of_mem _ hx)) (op_congr (hg g List.mem_cons_self) h)
theorem op_st (g : Nat) (F G : Wt) : opM g (fun x => st (F x) (G x)) = fun x => st (opM g F x) (opM g G x) := funext fun x => by
  show (if _ then st (st (F x) (G x)) (st (F (swL x g)) (G (swL x g))) else st (F (swL x g)) (G (swL x g))) = st (opM g F x) (opM g G x)
  rw [opM_eq, opM_eq]
  split
  · funext i
    simp only [st_at, ah_st]; omega
  · rfl
theorem wgO_st : ∀ (gs : List Nat) (F G : Wt), wgO gs (fun x => st (F x) (G x)) = fun x => st (wgO gs F x) (wgO gs G x)
  | [], _, _ => rfl
  | g :: gs, F, G => by rw [wgO_cons, op_st, wgO_st gs]; rfl
/-- the table of no meeting -/
def del (m : Nat) : Wt := fun x i => if x = row0 m ∧ i = 0 then 1 else 0
theorem wgS_at {m : Nat} {gs : List Int} : ∀ i, i ≤ gs.length → ∀ x j, (wgS m gs i x).getD j 0 = wgO ((nat gs).take i) (del m) x j
  | 0, _, x, j => by
    show (if x = row0 m then [1] else [] : List Int).getD j 0 = if x = row0 m ∧ j = 0 then 1 else 0
    by_cases h : x = row0 m
    · rw [if_pos h]
      cases j with
      | zero => rw [if_pos ⟨h, rfl⟩]; rfl
      | succ j => rw [if_neg fun z => nomatch z.2]; rfl
    · rw [if_neg h, if_neg fun z => h z.1]; rfl
  | i + 1, h, x, j => by
    have ih := wgS_at (m := m) (gs := gs) i (by omega)
    have e : (nat gs).take (i + 1) = (nat gs).take i ++ [gapN gs i] := by
      have hl : i < gs.length := h
      rw [List.take_add_one]
      congr 1
      show ((gs.map Int.toNat)[i]?).toList = _
      rw [List.getElem?_map, List.getElem?_eq_getElem hl]
      show [gs[i].toNat] = [(gs.getD i 0).toNat]
      rw [List.getD_eq_getElem?_getD, List.getElem?_eq_getElem hl]; rfl
    rw [e, wgO_app]
    show (metF (gapN gs i) (wgS m gs i) x).getD j 0 = opM (gapN gs i) (wgO ((nat gs).take i) (del m)) x j
    rw [opM_eq]
    unfold metF
    split
    · rw [comeD_getD, st_at]
      unfold ahd ah
      cases j with
      | zero => rw [if_pos rfl, if_pos rfl, if_pos rfl, if_pos rfl, ih]; omega
      | succ j => rw [if_neg (Nat.succ_ne_zero j), if_neg (Nat.succ_ne_zero j), if_neg (Nat.succ_ne_zero j), if_neg (Nat.succ_ne_zero j), ih, ih, ih]; omega
    · exact ih _ _
theorem wgS_full {m : Nat} {gs : List Int} (x : List Int) (j : Nat) : (wgS m gs gs.length x).getD j 0 = wgO (nat gs) (del m) x j := by
  rw [wgS_at gs.length (Nat.le_refl _), List.take_of_length_le (by unfold nat; rw [List.length_map]; exact Nat.le_refl _)]
/-- two books of one table -/
theorem wgS_same {m : Nat} {gs hs : List Int} (h : EqR m (wgO (nat gs) (del m)) (wgO (nat hs) (del m))) {x : List Int} (hr : IsRow x) (hl : x.length = m) : wgS m gs gs.length x = wgS m hs hs.length x :=
  tr_eq (wgS_tr m gs _ x) (wgS_tr m hs _ x) fun i => by rw [wgS_full, wgS_full, h x hr hl]
theorem wg_far {m : Nat} {A C : List Nat} {g h : Nat} (hb : ∀ k ∈ A ++ g :: h :: C, k + 1 < m) (d : g + 1 < h ∨ h + 1 < g) (F : Wt) : EqR m (wgO (A ++ g :: h :: C) F) (wgO (A ++ h :: g :: C) F) := by
  rw [wgO_app, wgO_app]
  exact wgO_congr (gs := C) (fun k hk => hb k (by simp [hk])) (op_far (hb h (by simp)) (hb g (by simp)) (by omega))
theorem wg_three {m : Nat} {A C : List Nat} {g h : Nat} (hb : ∀ k ∈ A ++ g :: h :: g :: C, k + 1 < m) (d : g + 1 = h ∨ h + 1 = g) (F : Wt) : EqR m (wgO (A ++ g :: h :: g :: C) F) (wgO (A ++ h :: g :: h :: C) F) := by
  rw [wgO_app, wgO_app]
  refine wgO_congr (gs := C) (fun k hk => hb k (by simp [hk])) ?_
  have hg := hb g (by simp)
  have hh := hb h (by simp)
  rcases d with d | d
  · subst d
    exact op_three (by omega)
  · subst d
    exact (op_three (by omega)).symm
theorem wg_twice {m : Nat} {A C : List Nat} {g : Nat} (hb : ∀ k ∈ A ++ g :: C, k + 1 < m) (F : Wt) : EqR m (wgO (A ++ g :: g :: C) F) (fun x => st (wgO (A ++ g :: C) F x) (wgO (A ++ C) F x)) := by
  rw [wgO_app, wgO_app, wgO_app]
  have := wgO_congr (m := m) (gs := C) (fun k hk => hb k (by simp [hk])) (op_twice (m := m) (g := g) (F := wgO A F) (hb g (by simp)))
  rw [wgO_st] at this
  exact this
/-! #### read from its end -/
theorem trs_mono {g u v : Nat} (hn : u ≠ v) (h1 : ¬ (u = g ∧ v = g + 1)) (h2 : ¬ (u = g + 1 ∧ v = g)) : trs g u < trs g v ↔ u < v := by
  unfold trs
  repeat' split
  all_goals omega
/-- where each one stands -/
def bk (x : List Int) : List Int := (List.range x.length).map fun (j : Nat) => ((x.idxOf (j : Int) : Nat) : Int)
theorem bk_inv {m : Nat} {a b : Nat → Nat} (h1 : 1 ≤ m) (h9 : m ≤ 9) (h : IsInv m a b) : bk (ofF m a) = ofF m b := by
  unfold bk
  rw [ofF_len]
  show _ = (List.range m).map fun i => (b i : Int)
  refine List.map_congr_left fun j hj => ?_
  have hj' := List.mem_range.mp hj
  obtain ⟨p, q⟩ := h.ba j hj'
  have nd := (row_ofF h1 h9 h).nodup
  have hlt : b j < (ofF m a).length := by rw [ofF_len]; exact p
  have e : (ofF m a)[b j] = (j : Int) := by
    have := ofF_get (n := m) (a := a) p
    rw [List.getElem?_eq_getElem hlt, q] at this
    exact Option.some.inj this
  have := nd.idxOf_getElem (b j) hlt
  rw [e] at this
  rw [this]
def Lop (h : Nat) (F : Wt) : Wt := fun x => opM h (fun y => F (bk y)) (bk x)
section
variable {m : Nat} (h1 : 1 ≤ m) (h9 : m ≤ 9)
include h1 h9
theorem op_at {g : Nat} {F : Wt} {a : Nat → Nat} (hg : g + 1 < m) : opM g F (ofF m a) = if a g < a (g + 1) then st (F (ofF m a)) (F (ofF m fun i => a (trs g i))) else F (ofF m fun i => a (trs g i)) := by
  rw [opM_eq, ofF_getD (by omega), ofF_getD hg, sw_ofF hg]
  by_cases c : a g < a (g + 1)
  · rw [if_pos c, if_pos (by omega)]
  · rw [if_neg c, if_neg (by omega)]
theorem lop_at {g : Nat} {F : Wt} {a b : Nat → Nat} (hI : IsInv m a b) (hg : g + 1 < m) : Lop g F (ofF m a) = if b g < b (g + 1) then st (F (ofF m a)) (F (ofF m fun i => trs g (a i))) else F (ofF m fun i => trs g (a i)) := by
  unfold Lop
  rw [bk_inv h1 h9 hI, op_at h1 h9 hg, bk_inv h1 h9 hI.symm, bk_inv h1 h9 (hI.symm.tr hg)]
theorem ops_comm {g h : Nat} {F : Wt} (hg : g + 1 < m) (hh : h + 1 < m) : EqR m (opM g (Lop h F)) (Lop h (opM g F)) := fun x hr hl => by
  obtain ⟨a, b, hI, e⟩ := hr.inv
  rw [hl] at hI e
  subst e
  have hT := hI.tr hg
  have hL := inv_left hI hh
  rw [op_at h1 h9 hg, lop_at h1 h9 hI hh, lop_at h1 h9 hT hh, lop_at h1 h9 hI hh, op_at h1 h9 hg, op_at h1 h9 hg]
  have ia := hI.ab g (by omega)
  have ia' := hI.ab (g + 1) hg
  have ib := hI.ba h (by omega)
  have ib' := hI.ba (h + 1) hh
  have na : a g ≠ a (g + 1) := fun z => by have := ia.2; rw [z, ia'.2] at this; omega
  have nb : b h ≠ b (h + 1) := fun z => by have := ib.2; rw [z, ib'.2] at this; omega
  by_cases cA : b h = g ∧ b (h + 1) = g + 1
  · obtain ⟨c1, c2⟩ := cA
    have d1 : a g = h := by rw [← c1]; exact ib.2
    have d2 : a (g + 1) = h + 1 := by rw [← c2]; exact ib'.2
    have ey : (ofF m fun i => a (trs g i)) = ofF m fun i => trs h (a i) := ofF_congr fun i hi => by
      by_cases u : i = g
      · rw [u, trs_l, d1, d2, trs_l]
      · by_cases v : i = g + 1
        · rw [v, trs_r, d1, d2, trs_r]
        · have := (hI.ab i hi).2
          rw [trs_o u v, trs_o (fun z => u (by rw [z, c1] at this; exact this.symm)) (fun z => v (by rw [z, c2] at this; exact this.symm))]
    have ex : (ofF m fun i => trs h (a (trs g i))) = ofF m a := ofF_congr fun i hi => by
      have := ofF_eq ey (trs_lt hg hi)
      rw [← this, trs_trs]
    simp only [c1, c2, d1, d2, trs_l, trs_r, ex, ey, Nat.lt_succ_self, Nat.not_succ_lt_self, if_true, if_false]
  · by_cases cB : b h = g + 1 ∧ b (h + 1) = g
    · obtain ⟨c1, c2⟩ := cB
      have d1 : a (g + 1) = h := by rw [← c1]; exact ib.2
      have d2 : a g = h + 1 := by rw [← c2]; exact ib'.2
      have ey : (ofF m fun i => a (trs g i)) = ofF m fun i => trs h (a i) := ofF_congr fun i hi => by
        by_cases u : i = g
        · rw [u, trs_l, d1, d2, trs_r]
        · by_cases v : i = g + 1
          · rw [v, trs_r, d1, d2, trs_l]
          · have := (hI.ab i hi).2
            rw [trs_o u v, trs_o (fun z => v (by rw [z, c1] at this; exact this.symm)) (fun z => u (by rw [z, c2] at this; exact this.symm))]
      have ex : (ofF m fun i => trs h (a (trs g i))) = ofF m a := ofF_congr fun i hi => by
        have := ofF_eq ey (trs_lt hg hi)
        rw [← this, trs_trs]
      simp only [c1, c2, d1, d2, trs_l, trs_r, ex, ey, Nat.lt_succ_self, Nat.not_succ_lt_self, if_true, if_false]
    · have t1 := trs_mono (g := g) nb cA cB
      have t2 : trs h (a g) < trs h (a (g + 1)) ↔ a g < a (g + 1) := trs_mono na (fun z => cA ⟨by rw [← z.1]; exact ia.2, by rw [← z.2]; exact ia'.2⟩) (fun z => cB ⟨by rw [← z.2]; exact ia'.2, by rw [← z.1]; exact ia.2⟩)
      simp only [t1, t2]
      by_cases p : a g < a (g + 1)
      · by_cases q : b h < b (h + 1)
        · simp only [if_pos p, if_pos q]
          funext i
          simp only [st_at, ah_st]; omega
        · simp only [if_pos p, if_neg q]
      · by_cases q : b h < b (h + 1)
        · simp only [if_neg p, if_pos q]
        · simp only [if_neg p, if_neg q]
theorem lop_congr {g : Nat} {F G : Wt} (hg : g + 1 < m) (h : EqR m F G) : EqR m (Lop g F) (Lop g G) := fun x hr hl => by
  obtain ⟨a, b, hI, e⟩ := hr.inv
  rw [hl] at hI e
  subst e
  rw [lop_at h1 h9 hI hg, lop_at h1 h9 hI hg, h _ hr hl, h _ (row_ofF h1 h9 (inv_left hI hg)) (ofF_len _ _)]
theorem bk_ok {x : List Int} (hr : IsRow x) (hl : x.length = m) : IsRow (bk x) ∧ (bk x).length = m ∧ bk (bk x) = x := by
  obtain ⟨a, b, hI, e⟩ := hr.inv
  rw [hl] at hI e
  subst e
  rw [bk_inv h1 h9 hI]
  exact ⟨row_ofF h1 h9 hI.symm, ofF_len _ _, bk_inv h1 h9 hI.symm⟩
theorem del_at (a : Nat → Nat) (i : Nat) : del m (ofF m a) i = if (∀ j, j < m → a j = j) ∧ i = 0 then 1 else 0 := by
  have : ofF m a = row0 m ↔ ∀ j, j < m → a j = j := by
    rw [row0_ofF]
    exact ⟨fun e j hj => ofF_eq e hj, fun e => ofF_congr e⟩
  unfold del
  by_cases c : ∀ j, j < m → a j = j
  · by_cases d : i = 0
    · rw [if_pos ⟨this.mpr c, d⟩, if_pos ⟨c, d⟩]
    · rw [if_neg fun z => d z.2, if_neg fun z => d z.2]
  · rw [if_neg fun z => c (this.mp z.1), if_neg fun z => c z.1]
theorem del_bk : EqR m (fun x => del m (bk x)) (del m) := fun x hr hl => by
  obtain ⟨a, b, hI, e⟩ := hr.inv
  rw [hl] at hI e
  subst e
  funext i
  show del m (bk (ofF m a)) i = _
  rw [bk_inv h1 h9 hI, del_at h1 h9, del_at h1 h9]
  have : (∀ j, j < m → b j = j) ↔ ∀ j, j < m → a j = j :=
    ⟨fun h j hj => by have := (hI.ba j hj).2; rw [h j hj] at this; exact this, fun h j hj => by have := (hI.ab j hj).2; rw [h j hj] at this; exact this⟩
  simp only [this]
theorem del_comm {g : Nat} (hg : g + 1 < m) : EqR m (Lop g (del m)) (opM g (del m)) := fun x hr hl => by
  obtain ⟨a, b, hI, e⟩ := hr.inv
  rw [hl] at hI e
  subst e
  rw [lop_at h1 h9 hI hg, op_at h1 h9 hg]
  have tt : (∀ j, j < m → trs g (a j) = j) ↔ ∀ j, j < m → a (trs g j) = j := by
    constructor
    · intro h j hj
      have := h _ (trs_lt hg hj)
      have e2 := congrArg (trs g) this
      rw [trs_trs, trs_trs] at e2; exact e2
    · intro h j hj
      have := h _ (trs_lt hg hj)
      rw [trs_trs] at this
      rw [this, trs_trs]
  have same : del m (ofF m fun i => trs g (a i)) = del m (ofF m fun i => a (trs g i)) := funext fun i => by
    rw [del_at h1 h9, del_at h1 h9]
    simp only [tt]
  rw [same]
  by_cases c1 : ∀ j, j < m → a j = j
  · have c2 : ∀ j, j < m → b j = j := fun j hj => by have := (hI.ab j hj).2; rw [c1 j hj] at this; exact this
    rw [c1 g (by omega), c1 _ hg, c2 g (by omega), c2 _ hg]
  · by_cases c3 : ∀ j, j < m → a (trs g j) = j
    · have a1 : a g = g + 1 := by have := c3 _ hg; rw [trs_r] at this; exact this
      have a2 : a (g + 1) = g := by have := c3 g (by omega); rw [trs_l] at this; exact this
      have b1 : b (g + 1) = g := by have := (hI.ab g (by omega)).2; rw [a1] at this; exact this
      have b2 : b g = g + 1 := by have := (hI.ab _ hg).2; rw [a2] at this; exact this
      rw [a1, a2, b1, b2]
    · have z1 : del m (ofF m a) = fun _ => 0 := funext fun i => by rw [del_at h1 h9, if_neg fun z => c1 z.1]
      have z2 : del m (ofF m fun i => a (trs g i)) = fun _ => 0 := funext fun i => by rw [del_at h1 h9, if_neg fun z => c3 z.1]
      have z3 : st (fun _ => 0) (fun _ => 0) = fun _ => 0 := funext fun i => by rw [st_at]; unfold ah; split <;> rfl
      rw [z1, z2, z3]
      split <;> split <;> rfl
def wgL (gs : List Nat) (F : Wt) : Wt := gs.foldl (fun F g => Lop g F) F
theorem wgL_congr : ∀ {gs : List Nat} {F G : Wt}, (∀ g ∈ gs, g + 1 < m) → EqR m F G → EqR m (wgL gs F) (wgL gs G)
  | [], _, _, _, h => h
  | g :: gs, _, _, hg, h => wgL_congr (gs := gs) (fun x hx => hg x (List.mem_cons_of_mem _ hx)) (lop_congr h1 h9 (hg g List.mem_cons_self) h)
theorem wgL_op {g : Nat} (hg : g + 1 < m) : ∀ {gs : List Nat} {F : Wt}, (∀ k ∈ gs, k + 1 < m) → EqR m (wgL gs (opM g F)) (opM g (wgL gs F))
  | [], _, _ => EqR.rfl
  | h :: gs, F, hb => (wgL_congr h1 h9 (fun k hk => hb k (List.mem_cons_of_mem _ hk)) (ops_comm h1 h9 hg (hb h List.mem_cons_self)).symm).trans (wgL_op hg (gs := gs) (F := Lop h F) fun k hk => hb k (List.mem_cons_of_mem _ hk))
theorem wgO_bk : ∀ {gs : List Nat} {F : Wt}, (∀ k ∈ gs, k + 1 < m) → EqR m (fun x => wgO gs F (bk x)) (wgL gs fun x => F (bk x))
  | [], _, _ => EqR.rfl
  | g :: gs, F, hb => by
    refine (wgO_bk (gs := gs) (F := opM g F) fun k hk => hb k (List.mem_cons_of_mem _ hk)).trans (wgL_congr h1 h9 (fun k hk => hb k (List.mem_cons_of_mem _ hk)) fun x hr hl => ?_)
    obtain ⟨b1, b2, b3⟩ := bk_ok h1 h9 hr hl
    show opM g F (bk x) = opM g (fun y => F (bk (bk y))) (bk x)
    exact op_congr (hb g List.mem_cons_self) (fun y hr' hl' => by rw [(bk_ok h1 h9 hr' hl').2.2]) _ b1 b2
theorem wgL_rev : ∀ {gs : List Nat}, (∀ k ∈ gs, k + 1 < m) → EqR m (wgL gs (del m)) (wgO gs.reverse (del m))
  | [], _ => EqR.rfl
  | g :: gs, hb => by
    have hb' : ∀ k ∈ gs, k + 1 < m := fun k hk => hb k (List.mem_cons_of_mem _ hk)
    have hg := hb g List.mem_cons_self
    rw [List.reverse_cons, wgO_app]
    exact ((wgL_congr h1 h9 hb' (del_comm h1 h9 hg)).trans (wgL_op h1 h9 hg hb')).trans (op_congr hg (wgL_rev hb'))
/-- the table of a book read from its end -/
theorem wgO_rev {gs : List Nat} (hb : ∀ k ∈ gs, k + 1 < m) : EqR m (wgO gs.reverse (del m)) (fun x => wgO gs (del m) (bk x)) :=
  ((wgO_bk h1 h9 (F := del m) hb).trans ((wgL_congr h1 h9 hb (del_bk h1 h9)).trans (wgL_rev h1 h9 hb))).symm
theorem wgS_rev {gs : List Int} (hB : BookOk m gs) {a b : Nat → Nat} (hI : IsInv m a b) : wgS m gs.reverse gs.length (ofF m a) = wgS m gs gs.length (ofF m b) := by
  have hr := row_ofF h1 h9 hI
  have := wgO_rev h1 h9 (nat_ok hB) _ hr (ofF_len m a)
  have e : nat gs.reverse = (nat gs).reverse := List.map_reverse
  refine tr_eq (wgS_tr m _ _ _) (wgS_tr m _ _ _) fun i => ?_
  have l : gs.length = gs.reverse.length := List.length_reverse.symm
  rw [wgS_full (gs := gs)]
  rw [l, wgS_full, e, this]
  show wgO (nat gs) (del m) (bk (ofF m a)) i = _
  rw [bk_inv h1 h9 hI]
end
/-- steps far and three leave the table as it was -/
theorem wg_step {m : Nat} {gs hs : List Int} {k : Nat} {z : Str} (h : IsStep gs k z hs) (hb : BookOk m gs) (hz : z ≠ "once") {x : List Int} (hr : IsRow x) (hl : x.length = m) : wgS m gs gs.length x = wgS m hs hs.length x := by
  refine wgS_same ?_ hr hl
  have hn := nat_ok hb
  cases h with
  | far A C a b d =>
    have ha := hb a (by simp)
    have hb2 := hb b (by simp)
    have e1 : nat (A ++ ([a, b] ++ C)) = nat A ++ a.toNat :: b.toNat :: nat C := by unfold nat; simp
    have e2 : nat (A ++ ([b, a] ++ C)) = nat A ++ b.toNat :: a.toNat :: nat C := by unfold nat; simp
    rw [e1] at hn ⊢
    rw [e2]
    exact wg_far hn (by omega) _
  | three A C a b d =>
    have ha := hb a (by simp)
    have hb2 := hb b (by simp)
    have e1 : nat (A ++ ([a, b, a] ++ C)) = nat A ++ a.toNat :: b.toNat :: a.toNat :: nat C := by unfold nat; simp
    have e2 : nat (A ++ ([b, a, b] ++ C)) = nat A ++ b.toNat :: a.toNat :: b.toNat :: nat C := by unfold nat; simp
    rw [e1] at hn ⊢
    rw [e2]
    exact wg_three hn (by omega) _
  | once => exact absurd rfl hz
/-- two alike meetings side by side -/
theorem wg_double {m : Nat} {A C : List Int} {a : Int} (hb : BookOk m (A ++ a :: C)) {x : List Int} (hr : IsRow x) (hl : x.length = m) (i : Nat) :
    (wgS m (A ++ a :: a :: C) (A ++ a :: a :: C).length x).getD i 0 = ahd (wgS m (A ++ a :: C) (A ++ a :: C).length x) i - (wgS m (A ++ a :: C) (A ++ a :: C).length x).getD i 0 + ahd (wgS m (A ++ C) (A ++ C).length x) i := by
  have hn := nat_ok hb
  have e1 : nat (A ++ a :: a :: C) = nat A ++ a.toNat :: a.toNat :: nat C := by unfold nat; simp
  have e2 : nat (A ++ a :: C) = nat A ++ a.toNat :: nat C := by unfold nat; simp
  have e3 : nat (A ++ C) = nat A ++ nat C := by unfold nat; simp
  rw [e2] at hn
  have := wg_twice hn (del m) x hr hl
  rw [wgS_full, wgS_full, e1, e2, this]
  show st (wgO (nat A ++ a.toNat :: nat C) (del m) x) (wgO (nat A ++ nat C) (del m) x) i = _
  rw [st_at]
  unfold ahd ah
  by_cases h : i = 0
  · rw [if_pos h, if_pos h, if_pos h, if_pos h]
  · rw [if_neg h, if_neg h, if_neg h, if_neg h, wgS_full, wgS_full, e2, e3]
end MM
namespace MM
open PySem PySem.Spec PyProof.Rows L2 GxR
/-! ### tables put in order: one row's weight put, told besides; how great the weights are -/
theorem DWt.exD {H0 H H' : Hp} {m : Nat} {W : List Int → List Int} {kvs kv0 : List (List Key × V)} {D : Addr} (h : DWt H0 H m W kvs) (e : ExB (At1 D) H H') (hD : H D = some (.dT kv0)) : DWt H0 H' m W kvs := let ⟨S, a, b⟩ := h; ⟨S, a.exD e hD, b⟩
/-- one row's weight put in -/
theorem DWt.put {H0 H : Hp} {m : Nat} {W W' : List Int → List Int} {kvs : List (List Key × V)} (h : DWt H0 H m W kvs) {ns : List Int} {p : Addr} (hR : IsRow ns) (hl : ns.length = m) (hp : H p = some (.lst ((W' ns).map V.int))) (h0 : H0 p = none) (hn : ∀ x v, IsRow x → x.length = m → valV kvs (rk x) = some v → v ≠ .ref p) (hW : ∀ x, x ≠ ns → W' x = W x) : DWt H0 H m W' (putK kvs (rk ns) (.ref p)) := by
  obtain ⟨S, a, b⟩ := h
  refine ⟨fun x => x = ns ∨ S x, ⟨a.rows.put hR hl _, fun x hr hx => ?_, fun x v hr hx hv => ?_, fun x y v hr hx hr' hx' hv hv' => ?_⟩, fun x hr hx hS => ?_⟩
  · rw [valV_put]
    by_cases e : rk x = rk ns
    · rw [if_pos e]
      exact ⟨fun _ => .inl (rk_inj e), fun _ => rfl⟩
    · rw [if_neg e, a.mem x hr hx]
      exact ⟨fun z => .inr z, fun z => z.elim (fun c => absurd (by rw [c]) e) id⟩
  · rw [valV_put] at hv
    by_cases e : rk x = rk ns
    · rw [if_pos e] at hv
      cases hv
      exact ⟨p, rfl, h0, by rw [rk_inj e]; exact hp⟩
    · rw [if_neg e] at hv
      rw [hW x fun z => e (by rw [z])]
      exact a.val x v hr hx hv
  · rw [valV_put] at hv hv'
    by_cases e : rk x = rk ns
    · by_cases e' : rk y = rk ns
      · rw [rk_inj e, rk_inj e']
      · rw [if_pos e] at hv
        rw [if_neg e'] at hv'
        cases hv
        exact absurd rfl (hn y _ hr' hx' hv')
    · by_cases e' : rk y = rk ns
      · rw [if_neg e] at hv
        rw [if_pos e'] at hv'
        cases hv'
        exact absurd rfl (hn x _ hr hx hv)
      · rw [if_neg e] at hv
        rw [if_neg e'] at hv'
        exact a.inj x y v hr hx hr' hx' hv hv'
  · rw [hW x fun z => hS (.inl z)]
    exact b x hr hx fun z => hS (.inr z)
theorem DWt.congr {H0 H : Hp} {m : Nat} {W W' : List Int → List Int} {kvs : List (List Key × V)} (h : DWt H0 H m W kvs) (e : ∀ x, IsRow x → x.length = m → W x = W' x) : DWt H0 H m W' kvs := let ⟨S, a, b⟩ := h; ⟨S, ⟨a.rows, a.mem, fun x v hr hl hv => by rw [← e x hr hl]; exact a.val x v hr hl hv, a.inj⟩, fun x hr hl hS => by rw [← e x hr hl]; exact b x hr hl hS⟩
theorem DWt.nil {H0 H : Hp} {m : Nat} : DWt H0 H m (fun _ => []) [] := ⟨_, DWp.nil, fun _ _ _ _ => rfl⟩
theorem DWt.val {H0 H : Hp} {m : Nat} {W : List Int → List Int} {kvs : List (List Key × V)} (h : DWt H0 H m W kvs) {x : List Int} {v : V} (hr : IsRow x) (hl : x.length = m) (hv : valV kvs (rk x) = some v) : ∃ p, v = .ref p ∧ H0 p = none ∧ H p = some (.lst ((W x).map V.int)) := let ⟨_, a, _⟩ := h; a.val x v hr hl hv
theorem DWt.le {H0 H : Hp} {m : Nat} {W : List Int → List Int} {kvs : List (List Key × V)} (h : DWt H0 H m W kvs) (h6 : m ≤ 6) : kvs.length ≤ 531441 := let ⟨_, a, _⟩ := h; a.le h6
theorem DWt.exX {H0 H H' : Hp} {m : Nat} {W : List Int → List Int} {kvs : List (List Key × V)} {D : Addr} {φ : Heap → Prop} (h : DWt H0 H m W kvs) (e : ExB (At1 D) H H') (hD : H D = some (.ext φ)) : DWt H0 H' m W kvs := let ⟨S, a, b⟩ := h; ⟨S, a.exX e hD, b⟩
theorem wgS_abs (m : Nat) (gs : List Int) : ∀ i x k, ((wgS m gs i x).getD k 0).natAbs ≤ 3 ^ i
  | 0, x, k => by
    show ((if x = row0 m then [1] else [] : List Int).getD k 0).natAbs ≤ 1
    split
    · cases k with
      | zero => decide
      | succ k => show (0 : Int).natAbs ≤ 1; decide
    · show (0 : Int).natAbs ≤ 1; decide
  | i + 1, x, k => by
    have ih := wgS_abs m gs i
    show ((metF (gapN gs i) (wgS m gs i) x).getD k 0).natAbs ≤ _
    have hp : 3 ^ (i + 1) = 3 ^ i * 3 := Nat.pow_succ ..
    unfold metF
    split
    · rw [comeD_getD]
      have h1 := ih x k
      have h2 : (ahd (wgS m gs i x) k).natAbs ≤ 3 ^ i := by
        unfold ahd
        split
        · exact Nat.zero_le _
        · exact ih _ _
      have h3 : (ahd (wgS m gs i (swL x (gapN gs i))) k).natAbs ≤ 3 ^ i := by
        unfold ahd
        split
        · exact Nat.zero_le _
        · exact ih _ _
      omega
    · have := ih (swL x (gapN gs i)) k
      omega
theorem wgS_mem {m : Nat} {gs : List Int} {i : Nat} (hi : i ≤ 100) {x : List Int} : ∀ c ∈ wgS m gs i x, c.natAbs < 2 ^ 200 := fun c hc => by
  obtain ⟨k, hk⟩ := List.getElem?_of_mem hc
  have h := wgS_abs m gs i x k
  rw [List.getD_eq_getElem?_getD, hk] at h
  have h2 : c.natAbs ≤ 3 ^ i := h
  have h3 : 3 ^ i ≤ 3 ^ 100 := Nat.pow_le_pow_right (by decide) hi
  have h4 : (3 : Nat) ^ 100 < 2 ^ 200 := by decide
  omega
end MM
namespace MM
open PySem PySem.Spec PyProof.Rows L2 GxR
/-! ### how many rows there are of up to five people -/
def allL (m : Nat) : Nat → List (List Nat)
  | 0 => [[]]
  | n + 1 => (List.range m).flatMap fun k => (allL m n).map (k :: ·)
theorem mem_allL {m : Nat} : ∀ {n : Nat} {x : List Nat}, x.length = n → (∀ k ∈ x, k < m) → x ∈ allL m n
  | 0, x, h, _ => by rw [List.length_eq_zero_iff.mp h]; exact List.mem_singleton.mpr rfl
  | n + 1, k :: x, h, hk => List.mem_flatMap.mpr ⟨k, List.mem_range.mpr (hk k List.mem_cons_self), List.mem_map.mpr ⟨x, mem_allL (by simpa using h) fun z hz => hk z (List.mem_cons_of_mem _ hz), rfl⟩⟩
def nodupB : List Nat → Bool
  | [] => true
  | k :: x => !x.contains k && nodupB x
theorem nodupB_of : ∀ {x : List Nat}, x.Nodup → nodupB x = true
  | [], _ => rfl
  | k :: x, h => by
    obtain ⟨a, b⟩ := List.nodup_cons.mp h
    unfold nodupB
    rw [nodupB_of b, Bool.and_true, Bool.not_eq_true']
    exact Bool.eq_false_iff.mpr fun z => a (List.contains_iff_mem.mp z)
theorem rows_few {m : Nat} (h5 : m ≤ 5) {Ks : List (List Int)} (hn : Ks.Nodup) (hK : ∀ x ∈ Ks, IsRow x ∧ x.length = m) : Ks.length ≤ 120 := by
  have cnt : ((allL m m).filter nodupB).length ≤ 120 := by
    match m, h5 with
    | 0, _ => decide +kernel
    | 1, _ => decide +kernel
    | 2, _ => decide +kernel
    | 3, _ => decide +kernel
    | 4, _ => decide +kernel
    | 5, _ => decide +kernel
    | m + 6, h => exact absurd h (by omega)
  have hs : Ks.length ≤ (((allL m m).filter nodupB).map fun x => x.map Int.ofNat).length := List.Nodup.length_le_of_subset hn fun x hx => by
    obtain ⟨hr, hl⟩ := hK x hx
    have back : (x.map Int.toNat).map Int.ofNat = x := by
      rw [List.map_map]
      conv => rhs; rw [← List.map_id x]
      refine List.map_congr_left fun z hz => ?_
      have := (hr.mem hz).1
      show Int.ofNat z.toNat = z
      exact Int.toNat_of_nonneg this
    refine List.mem_map.mpr ⟨x.map Int.toNat, List.mem_filter.mpr ⟨mem_allL (by rw [List.length_map, hl]) fun k hk => ?_, nodupB_of ?_⟩, back⟩
    · obtain ⟨z, hz, rfl⟩ := List.mem_map.mp hk
      have := hr.mem hz
      omega
    · have h2 := hr.nodup
      rw [← back] at h2
      unfold List.Nodup at h2 ⊢
      rw [List.pairwise_map] at h2
      exact h2.imp fun h e => h (by rw [e])
  rw [List.length_map] at hs
  omega
end MM
namespace K68
open PySem PySem.Spec PyProof.Rows L2 GxR MM
section
variable {P : Program} {w : World} {K : PySem.W.Frag} {mg : Str → Option Value} {base : Heap} {f : Addr} {fd : FuncData} {n : Nat}
theorem wN_le (r : List Int) : ∀ (n : Nat) {gs x : List Int}, gs.length = n → wN r gs x ≤ 2 ^ n
  | 0, gs, x, e => by
    rw [List.length_eq_zero_iff.mp e]
    show oneR r x ≤ 1
    unfold oneR
    split <;> omega
  | n + 1, gs, x, e => by
    obtain ⟨B', g, rfl⟩ : ∃ B' g, gs = B' ++ [g] := by
      have hne : gs ≠ [] := by intro z; rw [z] at e; cases e
      exact ⟨gs.dropLast, gs.getLast hne, (List.dropLast_concat_getLast hne).symm⟩
    have e' : B'.length = n := by rw [List.length_append] at e; simpa using e
    have a := wN_le r n (x := x) e'
    have b := wN_le r n (x := swL x g.toNat) e'
    rw [wN_snoc, Nat.pow_succ]; omega
theorem wN_small {r gs x : List Int} (h : gs.length ≤ 60) : ((wN r gs x : Nat) : Int).natAbs < 2 ^ 61 := by
  rw [Int.natAbs_natCast]
  refine Nat.lt_of_le_of_lt (wN_le r _ rfl) ?_
  exact Nat.pow_lt_pow_right (by decide) (by omega)
theorem RefE.at {fw : List Int → Nat} {H : Hp} : ∀ {vs : List V} {es : List (List Int)} {i : Nat} {v : V}, RefE fw H vs es → vs[i]? = some v → ∃ x t q, es[i]? = some x ∧ v = V.ref t ∧ H t = some (.tup [.ref q, .int (fw x : Nat)]) ∧ FTup H q (x.map V.int)
  | _, _, _, _, .nil, h => nomatch h
  | _, e :: _, 0, _, .cons ⟨t, q, a, b, c⟩ _, h => by cases h; exact ⟨e, t, q, rfl, a, b, c⟩
  | _, _, i + 1, _, .cons _ r, h => RefE.at r (i := i) h
def spCountsRight (K : PySem.W.Frag) (Pr Pb : Addr) : Sp := fun vs H Q _ => ∃ (a l : Addr) (gs : List Int) (k m : Nat) (fa fb : Nat → Nat), vs = [.ref a, .int k, .ref l] ∧ SqT K H a (gs.map V.int) ∧ FTup H l ((ofF m fa).map V.int) ∧ IsInv m fa fb ∧ 1 ≤ m ∧ m ≤ 4 ∧ BookOk m gs ∧ gs.length ≤ 60 ∧ k ≤ gs.length ∧ TabG H Pr ∧ TabG H Pb ∧ ∀ H', Ex H H' → Q (.bl true) H'
theorem d_law_counts_right {Pr Pb : Addr} (F : FnP K "_law_counts_right" s_law_counts_right f fd) (g : mg "_law_counts_right" = some (.ref f)) (B : Bl mg) (C_ends : CallD P w K mg base n "ends" ["book", "many"] (spEnds K Pb)) (C_goings : CallD P w K mg base n "goings" ["book", "row"] (spGoings K Pr Pb)) (C_law_anew : CallD P w K mg base n "_law_anew" ["line", "amid"] (spAnew K)) : CallD P w K mg base (n + 1) "_law_counts_right" ["plan", "k", "line"] (spCountsRight K Pr Pb) := by
  refine callD F g sc_law_counts_right (fun _ _ _ _ _ _ us hl => match us, hl with | [_, _, _], _ => rfl) (fun vs H Q E h => ?_) (fun cdv A outer s H vs Q E _ hr hG h => ?_)
  · obtain ⟨a, l, gs, k, m, fa, fb, rfl, _⟩ := h; rfl
  · obtain ⟨a, l, gs, k, m, fa, fb, rfl, hT, hL, hI, h1, h4, hB, h60, hk, hPr, hPb, q⟩ := h
    refine ⟨_, (pss_cons (ps_set (i := 3) sc_law_counts_right.nd rfl (Or.inl rfl) (pe_callB (k_sum (K := K) rfl rfl) (by rfl) B.sum (by decide +kernel) (pa_cons (pe_lc (own := [("amid", 4), ("often", 5)]) (g := gTup K 2 (gCons (gName 4) (gCons (gName 5) (gNil)))) rfl sc_law_counts_right.nd (k_piL (K := K) rfl (pe_c C_ends hr hG (pa_cons (pe_slice (k_slt (K := K) rfl) (pv 0) po_none (po_some (pv 1))) (pa_cons (pe_callB (k_len (K := K) rfl) (by rfl) B.len PySem.boot_len (pa_cons (pv 2) pa_nil)) pa_nil)))) (blkOk_by (N := N_law_counts_right) (sc := defScope s_law_counts_right) (by decide +kernel)) (fun _ _ _ _ _ => (k_tup (K := K) rfl (pg_tup rfl (pgs_cons (pg_name (i := 4) sc_law_counts_right.nd rfl (by first | exact Or.inl rfl | exact Or.inr rfl)) (pgs_cons (pg_name (i := 5) sc_law_counts_right.nd rfl (by first | exact Or.inl rfl | exact Or.inr rfl)) pgs_nil))))) (fun _ _ _ _ _ => pts_nil) (fun _ _ _ _ _ => (pe_op op_mulW (pv 5) (pe_c C_goings hr hG (pa_cons (pe_slice (k_slt (K := K) rfl) (pv 0) (po_some (pv 1)) po_none) (pa_cons (pe_c C_law_anew hr hG (pa_cons (pv 2) (pa_cons (pv 4) pa_nil))) pa_nil)))))) pa_nil)))
      (pss_one (ps_ret (pe_cmpR op_eq (pe_c C_goings hr hG (pa_cons (pv 0) (pa_cons (pv 2) pa_nil))) (pv 3) (nomark _))))), ?_⟩
    have sl : sizeLine = 16777216 := by decide
    have lk : (gs.take k).length = k := by rw [List.length_take]; omega
    have hBk : BookOk m (gs.take k) := fun x hx => hB x (List.mem_of_mem_take hx)
    have hBd : BookOk m (gs.drop k) := fun x hx => hB x (List.mem_of_mem_drop hx)
    refine ⟨_, rfl, _, rfl, _, rfl, a, _, rfl, hT, fun p1 H1 x1 h1' => ?_⟩
    rw [cutV_to, ← List.map_take] at h1'
    refine ⟨_, rfl, l, _, rfl, .inr (x1.sqt hL.sqt), p1, gs.take k, m, by rw [List.length_map, ofF_len]; rfl, h1', x1.tab hPb, h1, by omega, hBk, by omega, fun pe vs Rs H2 x2 ep rE hp hRs => ?_⟩
    refine ⟨pe, rfl, ⟨_, SqL.of ep⟩, fun D nD => ?_⟩
    have hlR : vs.length = Rs.length := rE.length
    refine lc_it (walk_list (xs := vs)) (fun i H3 => Ex H2 H3 ∧ H3 D = some (.lst (((Rs.take i).map fun x => ((wN (row0 m) (gs.take k) x * wN x (gs.drop k) (ofF m fa) : Nat) : Int)).map V.int))) ⟨ex_new nD, upd_same⟩ (fun i H3 _ y => SqL.of (Ex.lst y.1 ep)) ?_ ?_
    · rintro i v H3' H3 hi ⟨x3, e3⟩ ⟨rfl, hx⟩
      obtain ⟨x, t, qx, ex, rfl, et, hq⟩ := RefE.at (rE.exB x3) hx
      have y3 := (x1.trans x2).trans x3
      obtain ⟨rx, lx, px⟩ := (hRs x).mp (List.mem_of_getElem? ex)
      obtain ⟨ga, gb, hG, eG⟩ := rx.inv
      rw [lx] at hG eG
      subst eG
      refine ⟨t, _, rfl, SqT.of et, rfl, _, _, rfl, _, _, rfl, rfl, rfl, yes_go ⟨_, rfl, _, rfl, _, rfl, _, rfl, a, _, rfl, y3.sqt hT, fun p4 H4 x4 h4 => ?_⟩⟩
      rw [cutV_from, ← List.map_drop] at h4
      refine ⟨_, rfl, _, rfl, l, qx, m, fa, ga, gb, rfl, (hL.ex (y3.trans x4)).sqt, hq.ex x4, hG, fun i hi => (hI.ab i hi).1, h1, by omega, fun p5 H5 x5 h5 => ?_⟩
      have y5 := (y3.trans x4).trans x5
      have hA : IsInv m (fun i => gb (fa i)) (fun j => fb (ga j)) := ⟨fun i hi => by
        obtain ⟨a1, a2⟩ := hI.ab i hi
        obtain ⟨b1, b2⟩ := hG.ba _ a1
        exact ⟨b1, by rw [b2, a2]⟩, fun j hj => by
        obtain ⟨a1, a2⟩ := hG.ab j hj
        obtain ⟨b1, b2⟩ := hI.ba _ a1
        exact ⟨b1, by rw [b2, a2]⟩⟩
      refine ⟨p4, p5, gs.drop k, _, rfl, x5.sqt h4, h5.sqt, y5.tab hPr, y5.tab hPb, row_ofF h1 (by omega) hA, by rw [ofF_len]; omega, by rw [ofF_len]; exact hBd, by rw [List.length_drop]; omega, fun H6 x6 => ?_⟩
      rw [ofF_len, ← wN_anew h1 (by omega) hG hBd (row_ofF h1 (by omega) hI) (fun i hi => (hI.ab i hi).1)]
      have x36 := (x4.trans x5).trans x6
      refine ⟨_, _, rfl, rfl, wide_mul (a := 61) (b := 61) (wN_small (by omega)) (wN_small (by rw [List.length_drop]; omega)) (by decide) (by decide) (by decide), ?_⟩
      have e6 := Ex.lst x36 e3
      have hl24 : Rs.length ≤ 120 := rows_few (m := m) (by omega) (hp.imp fun {u v} h e => by rw [e] at h; exact absurd h (by apply List.lt_irrefl)) fun x hx => let ⟨a, b, _⟩ := (hRs x).mp hx; ⟨a, b⟩
      refine ⟨_, e6, by rw [List.length_map, List.length_map, List.length_take, sl]; omega, (x3.trans x36).then (ex_set e6) fun y hy => .inl (hy ▸ nD), ?_⟩
      rw [upd_same, List.take_add_one, ex, List.map_append, List.map_append]
      rfl
    rintro H3 ⟨x3, e3⟩
    rw [hlR, List.take_length] at e3
    have y3 := (x1.trans x2).trans x3
    have hsum : (((Rs.map fun x => ((wN (row0 m) (gs.take k) x * wN x (gs.drop k) (ofF m fa) : Nat) : Int)).sum : Int)) = ((wN (row0 m) gs (ofF m fa) : Nat) : Int) := by
      have hr' := row_ofF h1 (by omega) hI
      have key := cntS_sum (m := m) (f := wN (row0 m) (gs.take k)) (Rs := Rs) (hp.imp fun {u v} h e => by rw [e] at h; exact absurd h (by apply List.lt_irrefl)) (fun x a b c => (hRs x).mpr ⟨a, b, c⟩) _ (B := gs.drop k) rfl hBd hr' (ofF_len m fa)
      have e2 : cntS (wN (row0 m) (gs.take k)) (gs.drop k) (ofF m fa) = wN (row0 m) gs (ofF m fa) := by
        show cntS (cntS _ _) _ _ = cntS _ _ _
        rw [← cntS_app, List.take_append_drop]
      rw [e2] at key
      rw [key]
      generalize Rs = L
      induction L with
      | nil => rfl
      | cons a L ih => rw [List.map_cons, List.map_cons, List.sum_cons, List.sum_cons, ih]; push_cast; rfl
    refine ⟨D, _, rfl, SqL.of e3, ?_⟩
    rw [hsum]
    refine ⟨_, rfl, _, rfl, a, l, gs, _, rfl, y3.sqt hT, (hL.ex y3).sqt, y3.tab hPr, y3.tab hPb, row_ofF h1 (by omega) hI, by rw [ofF_len]; omega, by rw [ofF_len]; exact hB, by omega, fun H4 x4 => ?_⟩
    rw [ofF_len]
    refine ⟨_, rfl, ?_⟩
    refine ⟨rfl, ?_⟩
    rw [decide_eq_true rfl]
    exact q H4 (y3.trans x4)
end
end K68
namespace K68
open PySem PySem.Spec PyProof.Rows L2 GxR MM
section
variable {P : Program} {w : World} {K : PySem.W.Frag} {mg : Str → Option Value} {base : Heap} {f : Addr} {fd : FuncData} {n : Nat}
def spRight (K : PySem.W.Frag) (Pr Pb Pp : Addr) : Sp := fun vs H Q _ => ∃ b : Addr, vs = [.ref b] ∧ Bag 0 H b ∧ TabG H Pr ∧ TabG H Pb ∧ TabG H Pp ∧ ∀ H', ExB (At1 b) H H' → Q (.bl true) H'
theorem d_law_right {Pr Pb Pp : Addr} (F : FnP K "_law_right" s_law_right f fd) (g : mg "_law_right" = some (.ref f)) (B : Bl mg) (C_law_take : CallD P w K mg base n "_law_take" ["bag", "size"] spTake) (C_law_plan : CallD P w K mg base n "_law_plan" ["bag", "size", "long"] (spPlan K)) (C_law_drawn_end : CallD P w K mg base n "_law_drawn_end" ["bag", "plan", "size"] (spDrawnC K)) (C_law_list_right : CallD P w K mg base n "_law_list_right" ["plan", "k", "line"] (spListRight K Pr Pb Pp)) (C_law_counts_right : CallD P w K mg base n "_law_counts_right" ["plan", "k", "line"] (spCountsRight K Pr Pb)) : CallD P w K mg base (n + 1) "_law_right" ["bag"] (spRight K Pr Pb Pp) := by
  refine callD F g sc_law_right (fun _ _ _ _ _ _ us hl => match us, hl with | [_], _ => rfl) (fun vs H Q E h => ?_) (fun cdv A outer s H vs Q E _ hr hG h => ?_)
  · obtain ⟨b, rfl, _⟩ := h; rfl
  · obtain ⟨b, rfl, B0, hPr, hPb, hPp, q⟩ := h
    refine ⟨_, (pss_cons (ps_set (i := 1) sc_law_right.nd rfl (Or.inl rfl) (pe_ix (k_ixl (K := K) rfl) (pe_lst (pa_cons (pe_op op_add pe_int (pe_c C_law_take hr hG (pa_cons (pv 0) (pa_cons pe_int pa_nil)))) (pa_cons pe_int (pa_cons pe_int (pa_cons pe_int pa_nil))))) (pe_c C_law_take hr hG (pa_cons (pv 0) (pa_cons pe_int pa_nil))) (fun _ _ => rfl)))
      (pss_cons (ps_set (i := 2) sc_law_right.nd rfl (Or.inl rfl) (pe_c C_law_plan hr hG (pa_cons (pv 0) (pa_cons (pv 1) (pa_cons (pe_c C_law_take hr hG (pa_cons (pv 0) (pa_cons (pe_ix (k_ixl (K := K) rfl) (pe_lst (pa_cons pe_int (pa_cons pe_int pa_nil))) (pe_c C_law_take hr hG (pa_cons (pv 0) (pa_cons pe_int pa_nil))) (fun _ _ => rfl)) pa_nil))) pa_nil)))))
      (pss_cons (ps_set (i := 3) sc_law_right.nd rfl (Or.inl rfl) (pe_c C_law_take hr hG (pa_cons (pv 0) (pa_cons (pe_op op_add (pe_callB (k_len (K := K) rfl) (by rfl) B.len PySem.boot_len (pa_cons (pv 2) pa_nil)) pe_int) pa_nil))))
      (pss_cons (ps_for PassesOwn.never rfl (pi_range1 rfl B.range (pa_cons pe_int pa_nil)) (pg_name (i := 4) sc_law_right.nd rfl (Or.inl rfl))
      (pss_cons (ps_set (i := 5) sc_law_right.nd rfl (Or.inl rfl) (pe_c C_law_drawn_end hr hG (pa_cons (pv 0) (pa_cons (pv 2) (pa_cons (pv 1) pa_nil)))))
      (pss_cons (ps_if (pt_not (pt_val (pe_c C_law_list_right hr hG (pa_cons (pv 2) (pa_cons (pv 3) (pa_cons (pv 5) pa_nil))))))
      (pss_one (ps_ret pe_bl))
      pss_nil)
      (pss_one (ps_if (PW.pt (pw_and (pt_cmpR op_lt (pv 1) pe_int (nomark _)) (pw_and1 (pt_not (pt_val (pe_c C_law_counts_right hr hG (pa_cons (pv 2) (pa_cons (pv 3) (pa_cons (pv 5) pa_nil)))))))))
      (pss_one (ps_ret pe_bl))
      pss_nil)))))
      (pss_one (ps_ret pe_bl)))))), ?_⟩
    have sl : sizeLine = 16777216 := by decide
    -- size
    refine ⟨_, rfl, b, 9, 0, rfl, B0, by decide, by decide, by decide, fun u1 H1 u10 u11 x1 B1 => ?_⟩
    refine ⟨_, _, rfl, rfl, by show 4 ≤ sizeLine; decide, fun l nl => ?_⟩
    have x4 : Ex H1 (upd H1 l (.lst [V.int (1 + u1), .int 3, .int 4, .int 4])) := ex_new nl
    have e4 : (upd H1 l (.lst [V.int (1 + u1), .int 3, .int 4, .int 4])) l = some (.lst [V.int (1 + u1), .int 3, .int 4, .int 4]) := upd_same
    have B4 := B1.ex x4
    have bl : b ≠ l := fun z => by obtain ⟨_, _, _, e, _⟩ := B1; rw [z, nl] at e; cases e
    have y4 : ExB (At1 b) H (upd H1 l (.lst [V.int (1 + u1), .int 3, .int 4, .int 4])) := x1.trans x4.of
    show ∃ v, _
    generalize upd H1 l (.lst [V.int (1 + u1), .int 3, .int 4, .int 4]) = H4 at e4 B4 y4 ⊢
    refine ⟨_, rfl, b, 4, 1, rfl, B4, by decide, by decide, by decide, fun u4 H5 u40 u41 x5 B5 => ?_⟩
    have e5 := x5.lst e4 (fun z => bl z.symm)
    have y5 := y4.trans x5
    have hsz : ∃ sz : Nat, atI [V.int (1 + u1), .int 3, .int 4, .int 4] u4 = some (.int (sz : Int)) ∧ 1 ≤ sz ∧ sz ≤ 9 := by
      rcases (by omega : u4 = 0 ∨ u4 = 1 ∨ u4 = 2 ∨ u4 = 3) with h | h | h | h <;> subst h
      · exact ⟨(1 + u1).toNat, by rw [show ((1 + u1).toNat : Int) = 1 + u1 by omega]; rfl, by omega, by omega⟩
      · exact ⟨3, rfl, by omega, by omega⟩
      · exact ⟨4, rfl, by omega, by omega⟩
      · exact ⟨4, rfl, by omega, by omega⟩
    obtain ⟨sz, hat, sz1, sz9⟩ := hsz
    refine ⟨l, _, _, _, rfl, rfl, SqL.of e5, hat, ?_⟩
    -- plan
    refine ⟨_, rfl, _, rfl, _, rfl, by show 2 ≤ sizeLine; decide, fun l2 nl2 => ?_⟩
    have x6 : Ex H5 (upd H5 l2 (.lst [V.int 41, .int 9])) := ex_new nl2
    have e6 : (upd H5 l2 (.lst [V.int 41, .int 9])) l2 = some (.lst [V.int 41, .int 9]) := upd_same
    have B6 := B5.ex x6
    have bl2 : b ≠ l2 := fun z => by obtain ⟨_, _, _, e, _⟩ := B5; rw [z, nl2] at e; cases e
    have y6 : ExB (At1 b) H (upd H5 l2 (.lst [V.int 41, .int 9])) := y5.trans x6.of
    show ∃ v, _
    generalize upd H5 l2 (.lst [V.int 41, .int 9]) = H6 at e6 B6 y6 ⊢
    refine ⟨_, rfl, b, 2, 2, rfl, B6, by decide, by decide, by decide, fun u7 H7 u70 u71 x7 B7 => ?_⟩
    have e7 := x7.lst e6 (fun z => bl2 z.symm)
    have y7 := y6.trans x7
    have hlo : ∃ L : Nat, atI [V.int 41, .int 9] u7 = some (.int (L : Int)) ∧ 1 ≤ L ∧ L ≤ 41 := by
      rcases (by omega : u7 = 0 ∨ u7 = 1) with h | h <;> subst h
      · exact ⟨41, rfl, by omega, by omega⟩
      · exact ⟨9, rfl, by omega, by omega⟩
    obtain ⟨LL, hat7, L1, L41⟩ := hlo
    refine ⟨l2, _, _, _, rfl, rfl, SqL.of e7, hat7, ?_⟩
    refine ⟨b, LL, 3, rfl, B7, by decide, by omega, by omega, fun lo H8 lo0 lo1 x8 B8 => ?_⟩
    have y8 := y7.trans x8
    obtain ⟨loN, rfl⟩ : ∃ k : Nat, lo = (k : Int) := ⟨lo.toNat, by omega⟩
    refine ⟨b, sz, loN, 4, rfl, B8, by decide, sz1, sz9, by omega, fun pl gs H9 hgs hlen x9 epl B9 => ?_⟩
    have y9 := y8.trans x9
    have hpl := SqT.of (K := K) epl
    -- k
    refine ⟨_, rfl, _, rfl, pl, _, rfl, .inr hpl, ?_⟩
    refine ⟨_, _, rfl, rfl, b, ((gs.map V.int).length : Int) + 1, 104, rfl, B9, by decide, by omega, by rw [List.length_map]; omega, fun k H10 k0 k1 x10 B10 => ?_⟩
    rw [List.length_map] at k1
    obtain ⟨kN, rfl⟩ : ∃ z : Nat, k = (z : Int) := ⟨k.toNat, by omega⟩
    have hkN : kN ≤ gs.length := by omega
    have y10 := y9.trans x10
    have hpl10 := x10.sqt hpl
    -- for turn in range(3)
    refine ⟨_, rfl, by decide, by decide, ?_⟩
    refine for_it walk_range (fun t σ H11 => ∃ v4 v5, σ = [some (.ref b), some (.int sz), some (.ref pl), some (.int kN), v4, v5] ∧ ExB (At1 b) H H11 ∧ SqT K H11 pl (gs.map V.int) ∧ Bag (105 + 42 * t) H11 b) ⟨_, _, rfl, y10, hpl10, B10⟩ (fun _ _ _ _ _ => trivial) ?_ ?_
    · rintro t x σ H8' H11 ht ⟨v4, v5, rfl, y11, hpl, B11⟩ ⟨rfl, rfl⟩
      have ht4 : t < 3 := ht
      refine ⟨_, rfl, _, rfl, _, rfl, b, pl, gs, sz, 105 + 42 * t, rfl, B11, by omega, hpl, sz1, sz9, hgs, by omega, fun p ns H12 hR hl hC x12 hp B12 => ?_⟩
      have y12 := y11.trans x12
      have hpl12 := x12.sqt hpl
      obtain ⟨fa, fb, hI, ens⟩ := hR.inv
      rw [hl] at hI ens
      subst ens
      have hd := (few_iff sz1 sz9 hgs hI).mpr hC
      refine ⟨_, rfl, _, rfl, _, rfl, pl, p, gs, kN, sz, fa, fb, rfl, hpl12, hp, hI, sz1, sz9, hgs, by omega, hkN, hd, y12.tab hPr, y12.tab hPb, y12.tab hPp, fun H13 x13 => ?_⟩
      have y13 := y12.trans x13.of
      refine ⟨_, rfl, iteF ?_⟩
      refine ⟨_, rfl, _, _, rfl, rfl, _, rfl, ?_⟩
      by_cases h4 : (sz : Int) < 5
      · rw [decide_eq_true h4]
        refine iteT ⟨_, rfl, _, rfl, _, rfl, pl, p, gs, kN, sz, fa, fb, rfl, x13.sqt hpl12, hp.ex x13, hI, sz1, by omega, hgs, by omega, hkN, y13.tab hPr, y13.tab hPb, fun H14 x14 => ?_⟩
        refine ⟨_, rfl, iteF ?_⟩
        exact ⟨_, _, rfl, y13.trans x14.of, x14.sqt (x13.sqt hpl12), ((B12.ex x13).ex x14).mono (by omega)⟩
      · rw [decide_eq_false h4]
        refine iteF ?_
        exact ⟨_, _, rfl, y13, x13.sqt hpl12, (B12.ex x13).mono (by omega)⟩
    · rintro σ H11 ⟨v4, v5, rfl, y11, hpl, B11⟩
      exact q H11 y11
def spLaw (K : PySem.W.Frag) (Pr Pb Pp : Addr) : Sp := fun vs H Q _ => ∃ (a : Addr) (ns : List Int), vs = [.ref a] ∧ Script K H a (ns.map V.int) ∧ ns.length ≤ 63 ∧ TabG H Pr ∧ TabG H Pb ∧ TabG H Pp ∧ ∀ H', Q (.bl true) H'
theorem d_law {Pr Pb Pp : Addr} (F : FnP K "law" s_law f fd) (g : mg "law" = some (.ref f)) (B : Bl mg) (C_law_cell_at : CallD P w K mg base n "_law_cell_at" ["script", "k"] (spCellAt K)) (C_law_bag : CallD P w K mg base n "_law_bag" ["cell", "k"] spBag) (C_law_right : CallD P w K mg base n "_law_right" ["bag"] (spRight K Pr Pb Pp)) : CallD P w K mg base (n + 1) "law" ["script"] (spLaw K Pr Pb Pp) := by
  refine callD F g sc_law (fun _ _ _ _ _ _ us hl => match us, hl with | [_], _ => rfl) (fun vs H Q E h => ?_) (fun cdv A outer s H vs Q E _ hr hG h => ?_)
  · obtain ⟨a, ns, rfl, _⟩ := h; rfl
  · obtain ⟨a, ns, rfl, hS, hl, hPr, hPb, hPp, q⟩ := h
    refine ⟨_, (pss_one (ps_ret (pe_callB (k_all (K := K) rfl rfl) (by rfl) B.all (by decide +kernel) (pa_cons (pe_lc (own := [("k", 1)]) (g := gName 1) rfl sc_law.nd (pi_range1 rfl B.range (pa_cons pe_int pa_nil)) (blkOk_by (N := N_law) (sc := defScope s_law) (by decide +kernel)) (fun _ _ _ _ _ => (pg_name (i := 1) sc_law.nd rfl (by first | exact Or.inl rfl | exact Or.inr rfl))) (fun _ _ _ _ _ => pts_nil) (fun _ _ _ _ _ => (pe_c C_law_right hr hG (pa_cons (pe_c C_law_bag hr hG (pa_cons (pe_c C_law_cell_at hr hG (pa_cons (pv 0) (pa_cons (pv 1) pa_nil))) (pa_cons (pv 1) pa_nil))) pa_nil)))) pa_nil)))), ?_⟩
    refine ⟨_, rfl, by decide, by decide, fun D nD => ?_⟩
    refine lc_it walk_range (fun i H2 => Ex H H2 ∧ H2 D = some (.lst ((List.replicate i true).map V.bl))) ⟨ex_new nD, upd_same⟩ (fun _ _ _ _ => trivial) ?_ ?_
    · rintro i x H2 H2' hi ⟨x2, e2⟩ ⟨rfl, rfl⟩
      have hi4 : i < 3 := hi
      refine ⟨rfl, yes_go ⟨_, rfl, _, rfl, a, ns, i, by simp only [Int.zero_add, List.append_nil], (hS.ex x2).sql, fun c => ?_⟩⟩
      refine ⟨_, rfl, c, 0 + (i : Int), rfl, by omega, by omega, fun b H3 x3 nb B3 => ?_⟩
      refine ⟨b, rfl, B3, (x2.trans x3).tab hPr, (x2.trans x3).tab hPb, (x2.trans x3).tab hPp, fun H4 x4 => ?_⟩
      have bD : D ≠ b := fun z => by rw [← z, e2] at nb; cases nb
      have e4 := x4.lst (Ex.lst x3 e2) bD
      refine ⟨_, e4, small1000 (by rw [List.length_map, List.length_replicate]; omega), (x2.trans (x3.then x4 fun z hz => .inl (by rw [show z = b from hz]; exact nb))).then (ex_set e4) fun z hz => .inl (hz ▸ nD), ?_⟩
      rw [upd_same, List.replicate_succ', List.map_append]; rfl
    · rintro H2 ⟨x2, e2⟩
      exact ⟨D, _, rfl, SqL.of e2, q H2⟩
end
end K68
namespace K68
open PySem PySem.Spec PyProof.Rows L2 GxR MM
/-! ### the head: facts by names, the run -/
def dd (x : Str) (st : Stmt) : He.DefD := ⟨(x, none), x, x, defArgs st, defBody st, defScope st, [], []⟩
def fns : List He.DefD := [dd "is_whole" s_is_whole, dd "is_many" s_is_many, dd "is_gap" s_is_gap, dd "is_row" s_is_row, dd "check_many" s_check_many, dd "is_book" s_is_book, dd "check_row" s_check_row, dd "check_book" s_check_book, dd "check_book_and_row" s_check_book_and_row, dd "check_few" s_check_few, dd "row_of" s_row_of, dd "swapped" s_swapped, dd "lesser_ahead" s_lesser_ahead, dd "places_of" s_places_of, dd "fewest" s_fewest, dd "led_on" s_led_on, dd "ways_from" s_ways_from, dd "ways_ahead" s_ways_ahead, dd "check_asked" s_check_asked, dd "goings" s_goings, dd "ends" s_ends, dd "_law_cell_at" s_law_cell_at, dd "_law_bag" s_law_bag, dd "_law_take" s_law_take, dd "_law_plan" s_law_plan, dd "_law_line" s_law_line, dd "_law_changed" s_law_changed, dd "_law_far" s_law_far, dd "_law_drawn_end" s_law_drawn_end, dd "_law_led" s_law_led, dd "_law_anew" s_law_anew, dd "_law_list_right" s_law_list_right, dd "_law_counts_right" s_law_counts_right, dd "_law_right" s_law_right, dd "law" s_law]
def fas : List He.Fa := [.int "MOST_PEOPLE" 9, .int "MOST_GONE_THROUGH" 6, .glo "is_whole", .glo "is_many", .glo "is_gap", .glo "is_row", .glo "check_many", .glo "is_book",
  .glo "check_row", .glo "check_book", .glo "check_book_and_row", .glo "check_few", .glo "row_of", .glo "swapped", .glo "lesser_ahead", .glo "places_of",
  .glo "fewest", .glo "led_on", .glo "ways_from", .glo "ways_ahead", .glo "check_asked", .glo "goings", .glo "ends", .glo "_law_cell_at",
  .glo "_law_bag", .glo "_law_take", .glo "_law_plan", .glo "_law_line", .glo "_law_changed", .glo "_law_far", .glo "_law_drawn_end", .glo "_law_led",
  .glo "_law_anew", .glo "_law_list_right", .glo "_law_counts_right", .glo "_law_right", .glo "law", .free "isinstance", .free "int", .free "bool",
  .free "tuple", .free "len", .free "all", .free "sorted", .free "list", .free "range", .free "max", .free "min",
  .free "abs", .free "repr", .free "enumerate", .free "any", .free "sum", .free "zip"]
def tfs : List He.Defn := [("is_row", none), ("is_book", none), ("places_of", none)]
abbrev Rw : PySem.W.OpenRow := PySem.W.OpenLaw.row PySem.Challenge.rw_maymeet_k68_whole_long_books_by_parts
abbrev hk : PySem.W.Hook := He.hookX 4 fas fns [] tfs (fun _ => true)
def ob (s : PySem.W.SharedT) : He.AlX := He.obsX 4 fas fns [] tfs (fun _ => true) (HandSHeadRun.getT s)
theorem ob_eq (s : PySem.W.SharedT) : ob s = hk.obs s.abs := He.obsX_eq (HandSHeadRun.getT_eq s)
def others : List Str := (["MeetError", "NoMany", "NoRow", "NoBook", "TooMany", "MOST_PEOPLE", "MOST_GONE_THROUGH", "is_whole", "is_many", "is_gap", "is_row", "check_many", "is_book", "check_row", "check_book", "check_book_and_row", "check_few", "row_of", "swapped", "lesser_ahead"] : List Str) ++ (["places_of", "fewest", "led_on", "ways_from", "ways_ahead", "check_asked", "goings", "ends", "_law_cell_at", "_law_bag", "_law_take", "_law_plan", "_law_line", "_law_changed", "_law_far", "_law_drawn_end", "_law_led", "_law_anew", "_law_list_right", "_law_counts_right"] : List Str) ++ (["_law_right"] : List Str)
theorem run (w : World) : HandSHeadRun.RunEq Rw (PySem.W.view Rw.prog [46]) hk ob 6000 others w := by
  intro os
  kernel_rfl
section
variable {P : Program} {w : World} {K : PySem.W.Frag} {h base : Heap} {mg : Str → Option Value} {f : Addr}
theorem bl_of (X : K.In h) (G : h.Ns mainGlobals mg) (c : He.SaysD fas fns K) : Bl mg :=
  ⟨He.free_ok X G (c.fact 37), He.free_ok X G (c.fact 38), He.free_ok X G (c.fact 39), He.free_ok X G (c.fact 40), He.free_ok X G (c.fact 41), He.free_ok X G (c.fact 42), He.free_ok X G (c.fact 43), He.free_ok X G (c.fact 44), He.free_ok X G (c.fact 45), He.free_ok X G (c.fact 46), He.free_ok X G (c.fact 47), He.free_ok X G (c.fact 48), He.free_ok X G (c.fact 49), He.free_ok X G (c.fact 50), He.free_ok X G (c.fact 51), He.free_ok X G (c.fact 52), He.free_ok X G (c.fact 53)⟩
theorem code_is_row {f : Addr} {fd : FuncData} (F : FnP K "is_row" s_is_row f fd) (e : f = He.fAd K ("is_row", none)) : ∀ oc od fd osl, K.lookup f = some ⟨oc, od, .func fd, osl⟩ → fd.code = .ref (He.cT K ("is_row", none)).1 := fun oc od fd osl lk => by
  obtain ⟨oc', od', dV, kV, doc, pm, an, cdv', ct, osl', e1, lk', hcd, _⟩ := F.ex
  subst e1
  rw [lk'] at lk
  cases lk
  obtain ⟨c, rfl⟩ := He.codeIn_ref hcd
  rw [e] at lk'
  show Value.ref c = Value.ref (He.codeOf K ("is_row", none))
  rw [He.codeOf_eq lk' rfl]
theorem code_is_book {f : Addr} {fd : FuncData} (F : FnP K "is_book" s_is_book f fd) (e : f = He.fAd K ("is_book", none)) : ∀ oc od fd osl, K.lookup f = some ⟨oc, od, .func fd, osl⟩ → fd.code = .ref (He.cT K ("is_book", none)).1 := fun oc od fd osl lk => by
  obtain ⟨oc', od', dV, kV, doc, pm, an, cdv', ct, osl', e1, lk', hcd, _⟩ := F.ex
  subst e1
  rw [lk'] at lk
  cases lk
  obtain ⟨c, rfl⟩ := He.codeIn_ref hcd
  rw [e] at lk'
  show Value.ref c = Value.ref (He.codeOf K ("is_book", none))
  rw [He.codeOf_eq lk' rfl]
theorem code_places_of {f : Addr} {fd : FuncData} (F : FnP K "places_of" s_places_of f fd) (e : f = He.fAd K ("places_of", none)) : ∀ oc od fd osl, K.lookup f = some ⟨oc, od, .func fd, osl⟩ → fd.code = .ref (He.cT K ("places_of", none)).1 := fun oc od fd osl lk => by
  obtain ⟨oc', od', dV, kV, doc, pm, an, cdv', ct, osl', e1, lk', hcd, _⟩ := F.ex
  subst e1
  rw [lk'] at lk
  cases lk
  obtain ⟨c, rfl⟩ := He.codeIn_ref hcd
  rw [e] at lk'
  show Value.ref c = Value.ref (He.codeOf K ("places_of", none))
  rw [He.codeOf_eq lk' rfl]
theorem facts (X : K.In h) (G : h.Ns mainGlobals mg) (c : He.SaysD fas fns K) (TB0 : TabB h mg (He.cT K ("is_row", none)).1 (He.cT K ("is_row", none)).2) (TB1 : TabB h mg (He.cT K ("is_book", none)).1 (He.cT K ("is_book", none)).2) (TB2 : TabB h mg (He.cT K ("places_of", none)).1 (He.cT K ("places_of", none)).2) : CallD P w K mg h 11 "law" ["script"] (spLaw K (He.cT K ("is_row", none)).2 (He.cT K ("is_book", none)).2 (He.cT K ("places_of", none)).2) := by
  have B := bl_of X G c
  obtain ⟨tk0, m_MOST_PEOPLE⟩ := He.int_ok X G (c.fact 0 (f := .int "MOST_PEOPLE" 9) rfl)
  obtain ⟨tk1, m_MOST_GONE_THROUGH⟩ := He.int_ok X G (c.fact 1 (f := .int "MOST_GONE_THROUGH" 6) rfl)
  obtain ⟨_, F_is_whole⟩ := c.def_ 0 (d := dd "is_whole" s_is_whole) rfl
  obtain ⟨_, F_is_many⟩ := c.def_ 1 (d := dd "is_many" s_is_many) rfl
  obtain ⟨_, F_is_gap⟩ := c.def_ 2 (d := dd "is_gap" s_is_gap) rfl
  obtain ⟨_, F_is_row⟩ := c.def_ 3 (d := dd "is_row" s_is_row) rfl
  obtain ⟨_, F_check_many⟩ := c.def_ 4 (d := dd "check_many" s_check_many) rfl
  obtain ⟨_, F_is_book⟩ := c.def_ 5 (d := dd "is_book" s_is_book) rfl
  obtain ⟨_, F_check_row⟩ := c.def_ 6 (d := dd "check_row" s_check_row) rfl
  obtain ⟨_, F_check_book⟩ := c.def_ 7 (d := dd "check_book" s_check_book) rfl
  obtain ⟨_, F_check_book_and_row⟩ := c.def_ 8 (d := dd "check_book_and_row" s_check_book_and_row) rfl
  obtain ⟨_, F_check_few⟩ := c.def_ 9 (d := dd "check_few" s_check_few) rfl
  obtain ⟨_, F_row_of⟩ := c.def_ 10 (d := dd "row_of" s_row_of) rfl
  obtain ⟨_, F_swapped⟩ := c.def_ 11 (d := dd "swapped" s_swapped) rfl
  obtain ⟨_, F_lesser_ahead⟩ := c.def_ 12 (d := dd "lesser_ahead" s_lesser_ahead) rfl
  obtain ⟨_, F_places_of⟩ := c.def_ 13 (d := dd "places_of" s_places_of) rfl
  obtain ⟨_, F_fewest⟩ := c.def_ 14 (d := dd "fewest" s_fewest) rfl
  obtain ⟨_, F_led_on⟩ := c.def_ 15 (d := dd "led_on" s_led_on) rfl
  obtain ⟨_, F_ways_from⟩ := c.def_ 16 (d := dd "ways_from" s_ways_from) rfl
  obtain ⟨_, F_ways_ahead⟩ := c.def_ 17 (d := dd "ways_ahead" s_ways_ahead) rfl
  obtain ⟨_, F_check_asked⟩ := c.def_ 18 (d := dd "check_asked" s_check_asked) rfl
  obtain ⟨_, F_goings⟩ := c.def_ 19 (d := dd "goings" s_goings) rfl
  obtain ⟨_, F_ends⟩ := c.def_ 20 (d := dd "ends" s_ends) rfl
  obtain ⟨_, F__law_cell_at⟩ := c.def_ 21 (d := dd "_law_cell_at" s_law_cell_at) rfl
  obtain ⟨_, F__law_bag⟩ := c.def_ 22 (d := dd "_law_bag" s_law_bag) rfl
  obtain ⟨_, F__law_take⟩ := c.def_ 23 (d := dd "_law_take" s_law_take) rfl
  obtain ⟨_, F__law_plan⟩ := c.def_ 24 (d := dd "_law_plan" s_law_plan) rfl
  obtain ⟨_, F__law_line⟩ := c.def_ 25 (d := dd "_law_line" s_law_line) rfl
  obtain ⟨_, F__law_changed⟩ := c.def_ 26 (d := dd "_law_changed" s_law_changed) rfl
  obtain ⟨_, F__law_far⟩ := c.def_ 27 (d := dd "_law_far" s_law_far) rfl
  obtain ⟨_, F__law_drawn_end⟩ := c.def_ 28 (d := dd "_law_drawn_end" s_law_drawn_end) rfl
  obtain ⟨_, F__law_led⟩ := c.def_ 29 (d := dd "_law_led" s_law_led) rfl
  obtain ⟨_, F__law_anew⟩ := c.def_ 30 (d := dd "_law_anew" s_law_anew) rfl
  obtain ⟨_, F__law_list_right⟩ := c.def_ 31 (d := dd "_law_list_right" s_law_list_right) rfl
  obtain ⟨_, F__law_counts_right⟩ := c.def_ 32 (d := dd "_law_counts_right" s_law_counts_right) rfl
  obtain ⟨_, F__law_right⟩ := c.def_ 33 (d := dd "_law_right" s_law_right) rfl
  obtain ⟨_, F_law⟩ := c.def_ 34 (d := dd "law" s_law) rfl
  have g_is_whole := He.glo_ok X G (c.fact 2 (f := .glo "is_whole") rfl)
  have g_is_many := He.glo_ok X G (c.fact 3 (f := .glo "is_many") rfl)
  have g_is_gap := He.glo_ok X G (c.fact 4 (f := .glo "is_gap") rfl)
  have g_is_row := He.glo_ok X G (c.fact 5 (f := .glo "is_row") rfl)
  have g_check_many := He.glo_ok X G (c.fact 6 (f := .glo "check_many") rfl)
  have g_is_book := He.glo_ok X G (c.fact 7 (f := .glo "is_book") rfl)
  have g_check_row := He.glo_ok X G (c.fact 8 (f := .glo "check_row") rfl)
  have g_check_book := He.glo_ok X G (c.fact 9 (f := .glo "check_book") rfl)
  have g_check_book_and_row := He.glo_ok X G (c.fact 10 (f := .glo "check_book_and_row") rfl)
  have g_check_few := He.glo_ok X G (c.fact 11 (f := .glo "check_few") rfl)
  have g_row_of := He.glo_ok X G (c.fact 12 (f := .glo "row_of") rfl)
  have g_swapped := He.glo_ok X G (c.fact 13 (f := .glo "swapped") rfl)
  have g_lesser_ahead := He.glo_ok X G (c.fact 14 (f := .glo "lesser_ahead") rfl)
  have g_places_of := He.glo_ok X G (c.fact 15 (f := .glo "places_of") rfl)
  have g_fewest := He.glo_ok X G (c.fact 16 (f := .glo "fewest") rfl)
  have g_led_on := He.glo_ok X G (c.fact 17 (f := .glo "led_on") rfl)
  have g_ways_from := He.glo_ok X G (c.fact 18 (f := .glo "ways_from") rfl)
  have g_ways_ahead := He.glo_ok X G (c.fact 19 (f := .glo "ways_ahead") rfl)
  have g_check_asked := He.glo_ok X G (c.fact 20 (f := .glo "check_asked") rfl)
  have g_goings := He.glo_ok X G (c.fact 21 (f := .glo "goings") rfl)
  have g_ends := He.glo_ok X G (c.fact 22 (f := .glo "ends") rfl)
  have g__law_cell_at := He.glo_ok X G (c.fact 23 (f := .glo "_law_cell_at") rfl)
  have g__law_bag := He.glo_ok X G (c.fact 24 (f := .glo "_law_bag") rfl)
  have g__law_take := He.glo_ok X G (c.fact 25 (f := .glo "_law_take") rfl)
  have g__law_plan := He.glo_ok X G (c.fact 26 (f := .glo "_law_plan") rfl)
  have g__law_line := He.glo_ok X G (c.fact 27 (f := .glo "_law_line") rfl)
  have g__law_changed := He.glo_ok X G (c.fact 28 (f := .glo "_law_changed") rfl)
  have g__law_far := He.glo_ok X G (c.fact 29 (f := .glo "_law_far") rfl)
  have g__law_drawn_end := He.glo_ok X G (c.fact 30 (f := .glo "_law_drawn_end") rfl)
  have g__law_led := He.glo_ok X G (c.fact 31 (f := .glo "_law_led") rfl)
  have g__law_anew := He.glo_ok X G (c.fact 32 (f := .glo "_law_anew") rfl)
  have g__law_list_right := He.glo_ok X G (c.fact 33 (f := .glo "_law_list_right") rfl)
  have g__law_counts_right := He.glo_ok X G (c.fact 34 (f := .glo "_law_counts_right") rfl)
  have g__law_right := He.glo_ok X G (c.fact 35 (f := .glo "_law_right") rfl)
  have g_law := He.glo_ok X G (c.fact 36 (f := .glo "law") rfl)
  have C_is_whole := d_is_whole (P := P) (w := w) (base := h) (n := 0) F_is_whole g_is_whole B
  have C_is_many := d_is_many (P := P) (w := w) (base := h) (n := 1) F_is_many g_is_many (C_is_whole.le (by decide)) m_MOST_PEOPLE
  have C_is_gap := d_is_gap (P := P) (w := w) (base := h) (n := 1) F_is_gap g_is_gap (C_is_whole.le (by decide))
  have C_is_row := d_is_row (P := P) (w := w) (base := h) (n := 2) F_is_row g_is_row B (C_is_many.le (by decide)) F_is_whole g_is_whole TB0 (code_is_row F_is_row rfl)
  have C_check_many := d_check_many (P := P) (w := w) (base := h) (n := 2) F_check_many g_check_many (C_is_many.le (by decide))
  have C_is_book := d_is_book (P := P) (w := w) (base := h) (n := 3) F_is_book g_is_book B (C_check_many.le (by decide)) F_is_gap g_is_gap F_is_whole g_is_whole TB1 (code_is_book F_is_book rfl)
  have C_check_row := d_check_row (P := P) (w := w) (base := h) (n := 3) F_check_row g_check_row (C_is_row.le (by decide))
  have C_check_book := d_check_book (P := P) (w := w) (base := h) (n := 4) F_check_book g_check_book (C_is_book.le (by decide))
  have C_check_book_and_row := d_check_book_and_row (P := P) (w := w) (base := h) (n := 5) F_check_book_and_row g_check_book_and_row B (C_check_row.le (by decide)) (C_check_book.le (by decide))
  have C_check_few := d_check_few (P := P) (w := w) (base := h) (n := 0) F_check_few g_check_few m_MOST_GONE_THROUGH
  have C_row_of := d_row_of (P := P) (w := w) (base := h) (n := 3) F_row_of g_row_of B (C_check_many.le (by decide))
  have C_swapped := d_swapped (P := P) (w := w) (base := h) (n := 0) F_swapped g_swapped 
  have C_lesser_ahead := d_lesser_ahead (P := P) (w := w) (base := h) (n := 0) F_lesser_ahead g_lesser_ahead 
  have C_places_of := d_places_of (P := P) (w := w) (base := h) (n := 0) F_places_of g_places_of B TB2 (code_places_of F_places_of rfl)
  have C_fewest := d_fewest (P := P) (w := w) (base := h) (n := 6) F_fewest g_fewest B (C_check_book_and_row.le (by decide)) (C_places_of.le (by decide)) (C_lesser_ahead.le (by decide)) (C_swapped.le (by decide)) (C_row_of.le (by decide))
  have C_led_on := d_led_on (P := P) (w := w) (base := h) (n := 1) F_led_on g_led_on (C_swapped.le (by decide))
  have C_ways_from := d_ways_from (P := P) (w := w) (base := h) (n := 2) F_ways_from g_ways_from (C_led_on.le (by decide))
  have C_ways_ahead := d_ways_ahead (P := P) (w := w) (base := h) (n := 4) F_ways_ahead g_ways_ahead (C_row_of.le (by decide)) (C_ways_from.le (by decide))
  have C_check_asked := d_check_asked (P := P) (w := w) (base := h) (n := 6) F_check_asked g_check_asked B (C_check_book_and_row.le (by decide)) (C_check_few.le (by decide))
  have C_goings := d_goings (P := P) (w := w) (base := h) (n := 7) F_goings g_goings B (C_check_asked.le (by decide)) (C_ways_ahead.le (by decide))
  have C_ends := d_ends (P := P) (w := w) (base := h) (n := 5) F_ends g_ends B (C_check_book.le (by decide)) (C_check_few.le (by decide)) (C_ways_ahead.le (by decide))
  have C__law_cell_at := d_law_cell_at (P := P) (w := w) (base := h) (n := 0) F__law_cell_at g__law_cell_at B
  have C__law_bag := d_law_bag (P := P) (w := w) (base := h) (n := 0) F__law_bag g__law_bag B
  have C__law_take := d_law_take (P := P) (w := w) (base := h) (n := 0) F__law_take g__law_take 
  have C__law_plan := d_law_plan (P := P) (w := w) (base := h) (n := 1) F__law_plan g__law_plan B (C__law_take.le (by decide))
  have C__law_changed := d_law_changed (P := P) (w := w) (base := h) (n := 0) F__law_changed g__law_changed 
  have C__law_drawn_end := d_law_drawn_end (P := P) (w := w) (base := h) (n := 1) F__law_drawn_end g__law_drawn_end B (C__law_take.le (by decide)) (C__law_changed.le (by decide))
  have C__law_led := d_law_led (P := P) (w := w) (base := h) (n := 1) F__law_led g__law_led B (C__law_changed.le (by decide))
  have C__law_anew := d_law_anew (P := P) (w := w) (base := h) (n := 0) F__law_anew g__law_anew B
  have C__law_list_right := d_law_list_right (P := P) (w := w) (base := h) (n := 7) F__law_list_right g__law_list_right B (C_fewest.le (by decide)) (C__law_led.le (by decide)) (C__law_anew.le (by decide))
  have C__law_counts_right := d_law_counts_right (P := P) (w := w) (base := h) (n := 8) F__law_counts_right g__law_counts_right B (C_ends.le (by decide)) (C_goings.le (by decide)) (C__law_anew.le (by decide))
  have C__law_right := d_law_right (P := P) (w := w) (base := h) (n := 9) F__law_right g__law_right B (C__law_take.le (by decide)) (C__law_plan.le (by decide)) (C__law_drawn_end.le (by decide)) (C__law_list_right.le (by decide)) (C__law_counts_right.le (by decide))
  have C_law := d_law (P := P) (w := w) (base := h) (n := 10) F_law g_law B (C__law_cell_at.le (by decide)) (C__law_bag.le (by decide)) (C__law_right.le (by decide))
  exact C_law
end
end K68
open PySem PySem.W PySem.Calls PyProof.Rows
theorem PySem.Challenge.cw_maymeet_k68_whole_long_books_by_parts_holds : PySem.Challenge.rw_maymeet_k68_whole_long_books_by_parts.Holds := by
  w_on; o_law
  refine HandSHeadRun.head_any (r := K68.Rw) (q := view K68.Rw.prog [46]) (H := K68.hk) (ob := K68.ob) (M := 6000) (loose := K68.others) (d := HandSHeadRun.topDef K68.Rw.prog 46) (kwd := []) K68.ob_eq
    (by kernel_rfl) (fun s => by kernel_rfl) K68.run (by kernel_rfl) (by kernel_rfl) (by kernel_rfl) (by rfl) (by first | assumption | decide +kernel) (by decide +kernel) ⟨rfl, rfl, rfl, rfl, rfl, by decide +kernel⟩ ?hw ?hc
  case hw => w_witness2
  case hc =>
    refine MM.walkG (l := PySem.Challenge.rw_maymeet_k68_whole_long_books_by_parts) (n := 63) (k := 11) (x := "script") rfl (by decide) (by kernel_rfl) ⟨rfl, by decide, by decide⟩ ?F
    intro w mg fa h Y G hmg0
    obtain ⟨K, KX, c⟩ := Y
    have e : (HandSHeadRun.topDef K68.Rw.prog 46).name = ("law" : PySem.Str) := by kernel_rfl
    rw [e]
    refine ⟨K, KX, [He.cT K ("is_row", none), He.cT K ("is_book", none), He.cT K ("places_of", none)], K68.spLaw K (He.cT K ("is_row", none)).2 (He.cT K ("is_book", none)).2 (He.cT K ("places_of", none)).2, List.forall_mem_cons.mpr ⟨c.empty _ List.mem_cons_self, List.forall_mem_cons.mpr ⟨c.empty _ (List.mem_cons_of_mem _ List.mem_cons_self), List.forall_mem_singleton.mpr (c.empty _ (List.mem_cons_of_mem _ (List.mem_cons_of_mem _ List.mem_cons_self)))⟩⟩, List.forall_mem_cons.mpr ⟨c.out _ List.mem_cons_self, List.forall_mem_cons.mpr ⟨c.out _ (List.mem_cons_of_mem _ List.mem_cons_self), List.forall_mem_singleton.mpr (c.out _ (List.mem_cons_of_mem _ (List.mem_cons_of_mem _ List.mem_cons_self)))⟩⟩, List.forall_mem_cons.mpr ⟨PySem.W.codeHd_of_K KX (c.hd _ List.mem_cons_self), List.forall_mem_cons.mpr ⟨PySem.W.codeHd_of_K KX (c.hd _ (List.mem_cons_of_mem _ List.mem_cons_self)), List.forall_mem_singleton.mpr (PySem.W.codeHd_of_K KX (c.hd _ (List.mem_cons_of_mem _ (List.mem_cons_of_mem _ List.mem_cons_self))))⟩⟩, fun H a ns hl hb hT hS => ⟨a, ns, rfl, hS, hl, ⟨#[], hT _ List.mem_cons_self, trivial⟩, ⟨#[], hT _ (List.mem_cons_of_mem _ List.mem_cons_self), trivial⟩, ⟨#[], hT _ (List.mem_cons_of_mem _ (List.mem_cons_of_mem _ List.mem_cons_self)), trivial⟩, fun _ => rfl⟩, fun base KB GB TB => K68.facts KB GB c.t.d (TB _ List.mem_cons_self) (TB _ (List.mem_cons_of_mem _ List.mem_cons_self)) (TB _ (List.mem_cons_of_mem _ (List.mem_cons_of_mem _ List.mem_cons_self)))⟩
