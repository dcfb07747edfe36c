import PyProof.Rows.All
import HandS.ForMost
import HandS.ForExc
import HandS.SortInts
import HandS.IsInst
import HandS.TupAny
import HandS.Wide
import HandS.Sort
import HandS.AnyAll
import PyProof.ReprRoads
import PyProof.GenCompD
import HandS.Style
import HandS.Conv
import HandS.SortOrd
import HandS.Defaults
import HandS.Zip
import HandS.TupMul
import HandS.Strs
import HandS.Walk
import HandS.NoneIn
import HandS.EndBits
import HandS.EndTab
import HandS.HeadWalk
import HandS.HeadHook4
import HandS.Head2
import PySem.Challenge.RW_maymeet_k02_goings_gone
set_option Elab.async false
set_option linter.all false
set_option maxRecDepth 100000
set_option maxHeartbeats 8000000
set_option exponentiation.threshold 5000
namespace MM
open PySem PySem.Spec PyProof.Rows L2
/-! ### great powers -/
def CPowW (i j : Int) : Prop := 0 ≤ j ∧ (Builtin.Int.intBits i : Int) * j ≤ 2 ^ 27
section
variable {X : Cx}
theorem op_powW : OpR X (binaryOp .Pow) (rI CPowW fun i j => .int (i ^ j.toNat)) := by
  intro pins s σ H x y v u Q I rx ry h; obtain ⟨i, j, rfl, rfl, hc, q⟩ := h; obtain ⟨t, rfl⟩ := rx; obtain ⟨t', rfl⟩ := ry
  exact pow_int hc.1 hc.2 ⟨.int _, H, I.tok _, ⟨_, rfl⟩, q⟩
end
theorem bits_le {i : Int} {k : Nat} (h : i.natAbs < 2 ^ k) : Builtin.Int.intBits i ≤ k := by
  unfold Builtin.Int.intBits
  split
  · omega
  · rename_i hne; have h0 : i.natAbs ≠ 0 := by intro e; apply hne; have := Int.natAbs_eq_zero.mp e; subst this; simp
    have := (Nat.log2_lt h0).mpr h; omega
end MM
namespace MM
open PySem PySem.Spec PyProof.Rows L2 GxR
/-! ### defs that show their data: nothing is being shown around them -/
structure FnG (P : Program) (w : World) (K : PySem.W.Frag) (mg : Str → Option Value) (base : Heap) (CX : CXT) (k : Nat) (f : Addr) (fd : FuncData) (ps : List Str) (sp : Sp) : Prop where
  len : ∀ vs H Q E, sp vs H Q E → vs.length = ps.length
  run : ∀ (A : Around) (outer : List Env) (s : Shared) (H : Hp) (args : Args) (us : List Value) (vs : List V) (Q : VK) (E : XK), Room k A → A.guards = some [] → Env0 P w K mg base A outer s H → BindsTo s fd args (ps.zip us) → Vals vs us → sp vs H Q E → codeAny (model P w) A (.call (.ref f) args) (CR CX outer P w H s Q E) s
section
variable {P : Program} {w : World} {K : PySem.W.Frag} {mg : Str → Option Value} {base : Heap} {CX : CXT} {j k : Nat} {f : Addr} {fd : FuncData} {ps : List Str} {sp : Sp}
theorem FnG.of (F : FnOk P w K mg base CX k f fd ps sp) : FnG P w K mg base CX k f fd ps sp := ⟨F.len, fun A outer s H args us vs Q E hr _ => F.run A outer s H args us vs Q E hr⟩
theorem FnG.mono (F : FnG P w K mg base CX j f fd ps sp) (h : j ≤ k) : FnG P w K mg base CX k f fd ps sp := ⟨F.len, fun A outer s H args us vs Q E hr => F.run A outer s H args us vs Q E (hr.mono h)⟩
theorem guards_deeper {A : Around} {env : Env} (h : A.guards = some []) : (A.deeper env).guards = some [] := by
  obtain ⟨a, b, c, d, e⟩ := A; subst h; first | rfl | simp [Around.deeper]
end
section
variable {X : Cx} {CX : CXT} {k : Nat} {f : Addr} {fd : FuncData} {ps ks : List Str} {sp : Sp} {dvs : List V} {ds : List Value} {E : XK} {x : Str} {p pos : Pos} {e : Expr} {es : List Expr} {t tk : TA} {kws : List Keyword} {g : List Value → List Value → List Value} {gV : List V → List V → List V}
theorem run_fnG {pins : List (Addr × Obj)} {σ : L2.St} {H : Hp} {s : Shared} {Q : VK} {us : List Value} {vs : List V} (F : FnG X.prog X.w X.K X.mg X.base CX k f fd ps sp) (hr : Room k X.A) (hG : X.A.guards = some []) (hb : Binds X.K fd ps ds) (hd : Vals dvs ds) (hx : Passes CX X E)
    (I : Inv X pins σ H s) (r : Vals vs us) (h : sp (vs ++ dvs) H Q E) : wpAny (model X.prog X.w) X.A (call (.ref f) us) (EP X pins σ Q) X.xe s := by
  have r2 : Vals (vs ++ dvs) (us ++ ds) := r.append hd
  have hl : (us ++ ds).length = ps.length := r2.length ▸ F.len _ _ _ _ h
  refine wpAny_call (codeAny_mono (F.run X.A X.stack s H ⟨us, []⟩ (us ++ ds) (vs ++ dvs) Q E hr hG I.env0 (hb s us I.kIn hl) r2 h) fun r s' hq => ?_)
  match r, hq with
  | .error e, hq => exact hx pins σ H s e s' I hq
  | .ok (.ret u), hq => exact I.after hq
theorem pe_callG (F : FnG X.prog X.w X.K X.mg X.base CX k f fd ps sp) (hr : Room k X.A) (hG : X.A.guards = some []) (hg : Gl X x) (hm : X.mg x = some (.ref f)) (hk : PySem.W.keepIn X.K (.ref f) = true) (hb : Binds X.K fd ps ds) (hd : Vals dvs ds) (hx : Passes CX X E)
    (ha : PA X (e :: es) t) (hdb : (x == ("__debug__" : Str)) = false := by decide) (he : starEach (e :: es) X.env = (false, eval e X.env) :: starEach es X.env := by rfl) (hpl : (backTo pos (starEach es X.env)).any (·.1) = false := by rfl) :
    PE X (.Call (.Name x p) (e :: es) [] pos) (tCall sp dvs E t) :=
  ⟨fun pins s σ H Q I h => wpAny_Call_Name_kw (ld_glob I hg hm (PySem.W.callWith_K (h₀ := X.base) I.ok.mod.kin hk (thn (ha.run pos pins s σ H _ I h) fun us s1 ⟨vs, H1, I1, r, q⟩ => ⟨I1.kIn, run_fnG F hr hG hb hd hx I1 r q⟩) he hpl) hdb)⟩
end
/-! ### a def's body -/
theorem fn_ofG {CX : CXT} {P : Program} {w : World} {K : PySem.W.Frag} {mg : Str → Option Value} {base : Heap} {k : Nat} {f : Addr} {name qual : Str} {params : Arguments} {body : List Stmt} {scope : Scope} {dV kV doc pm cdv ct oc : Value} {an od : Option Addr}
    {osl : Array (Option Value)} {N ps : List Str} {sp : Sp} (lk : K.lookup f = some ⟨oc, od, .func (PySem.W.fnOf name qual params body scope dV kV doc pm an cdv ct), osl⟩) (hcd : PySem.W.codeIn K cdv qual = true) (S : FnScope N ps scope)
    (len : ∀ vs H Q E, sp vs H Q E → vs.length = ps.length)
    (hbody : ∀ (A : Around) (outer : List Env) (s : Shared) (H : Hp) (vs : List V) (Q : VK) (E : XK), Room k (A.deeper (envOfC qual scope s.heap.objs.size f cdv)) → (A.deeper (envOfC qual scope s.heap.objs.size f cdv)).guards = some [] → sp vs H Q E →
      ∃ t, PSs (cxOf CX P w K mg base N qual scope f cdv A outer s H E) body t ∧ t { nx := fun _ H' => Q .non H', rt := Q } (start N vs) H) :
    FnG P w K mg base CX (k + 1) f (PySem.W.fnOf name qual params body scope dV kV doc pm an cdv ct) ps sp := by
  refine ⟨len, fun A outer s H args us vs Q E hr hG e0 hb r hsp => ?_⟩
  have KX : K.In s.heap := e0.mod.kin.keeps fun b o e => (e0.bs b o e).1
  refine codeAny_call_function hr.depth (KX _ _ lk) rfl S.co S.gen rfl (PySem.W.codeRec_of KX hcd) (hb _ _ _ _ ?_)
  refine wpAny_newFunctionEnv_cells S.kind (fun ⟨n, v⟩ hy => (S.par n (List.of_mem_zip hy).1).imp id fun q => ⟨q, PySem.W.cellsFrom_some _ _ _ (.inl q)⟩) fun env he s1 x => ?_
  subst he
  refine ⟨(e0.mod.nolimit.keeps fun b o e => (e0.bs b o e).1).keeps x.toInCall.keep, codeAny_func ?_⟩
  obtain ⟨t, ht, hq⟩ := hbody A outer s H vs Q E (hr.deeper _) (guards_deeper hG) hsp
  refine wpAny_mono (ht.run [] s1 (start N vs) H _ (inv_start S hr.hd e0 (len _ _ _ _ hsp) r x) hq) (fun fl s' hs => ?_) fun e s' hs => hs
  match fl, hs with
  | .ret u, ⟨v, σ', H', J, rv, q⟩ => exact ⟨v, H', J.os, J.bare, J.base, J.hok, rv, q⟩
  | .next, ⟨σ', H', J, q⟩ => exact ⟨V.non, H', J.os, J.bare, J.base, J.hok, rfl, q⟩
  | .brk, ⟨_, _, _, q⟩ => exact False.elim q
  | .cont, ⟨_, _, _, q⟩ => exact False.elim q
end MM
namespace MM
open PySem PySem.Spec PyProof.Rows L2 GxR
/-! ### all(test for x in t), t a tuple of anything -/
/-- a generator's frame over the def's: what it reads -/
structure GenIn (X : Cx) (P : Addr) (scope : Scope) (s1 : Shared) (cenv : Env) (s2 : Shared) : Prop where
  sco : cenv.scope = scope
  glob : cenv.globals = X.env.globals
  blt : cenv.builtins = builtinsNs
  cells : cenv.cells = cloFrom X.env.cells scope.names []
  keep : ∀ b o, b ≠ P → s1.heap.get? b = some o → s2.heap.get? b = some o
  lim : s2.heap.NoLimit
/-- the element is a test of the item: pb tells it of what the item is -/
def EltT (X : Cx) (P : Addr) (scope : Scope) (x : Str) (elt : Expr) (ok : L2.St → Hp → V → Prop) (pb : L2.St → V → Bool) : Prop :=
  ∀ (pins : List (Addr × Obj)) (σ : L2.St) (H1 : Hp) (s1 : Shared), Inv X pins σ H1 s1 → ∀ (cenv : Env) (A' : Around) (E' : Value → Shared → Prop) (v : V) (u : Value) (s2 : Shared) (m2 : Str → Option Value), GenIn X P scope s1 cenv s2 → TabG H1 P → A'.handled = none → A'.depth ≤ X.A.depth + 1 → A'.units ≤ X.A.units + 8 →
    RelV v u → ok σ H1 v → s2.heap.Ns cenv.locals m2 → m2 x = some u → wpAny (model X.prog X.w) A' (eval elt cenv) (fun y s3 => y = .bool (pb σ v) ∧ Keeps s2 s3) E' s2
section
variable {X : Cx} {pins : List (Addr × Obj)} {σ : L2.St} {H : Hp} {s : Shared}
/-- the generator g over the items us, ready to be walked -/
def ReadyT (X : Cx) (pins : List (Addr × Obj)) (σ : L2.St) (H1 : Hp) (P : Addr) (xs : List V) (q : V → Bool) (g : Addr) (s5 : Shared) : Prop :=
  ∃ (fp wr : List Addr) (G : Array GenState → Array GenState → Prop) (F : Nat → Value → Prop) (St : Nat → Shared → Prop) (tr : Nat → Bool),
    WalksS X.prog X.w X.A.in1 g fp wr G xs.length F St ∧ St 0 s5 ∧ TruthOf X.prog X.w X.A.in1 F tr ∧ (∀ j x, xs[j]? = some x → tr j = q x) ∧ ∀ s', Moved wr G s5 s' → ∃ H2, Tabbed P H1 H2 ∧ Inv X pins σ H2 s'
theorem all_at {xs : List V} {q : V → Bool} {tr : Nat → Bool} (h : ∀ j x, xs[j]? = some x → tr j = q x) : (List.range xs.length).all tr = xs.all q := by
  rw [Bool.eq_iff_iff, List.all_eq_true, List.all_eq_true]
  refine ⟨fun hh b hb => ?_, fun hh j hj => ?_⟩
  · obtain ⟨j, hj, e⟩ := List.getElem_of_mem hb
    rw [← e, ← h j _ (List.getElem?_eq_getElem hj)]; exact hh j (List.mem_range.mpr hj)
  · have hj' := List.mem_range.mp hj
    rw [h j _ (List.getElem?_eq_getElem hj')]; exact hh _ (List.getElem_mem hj')
theorem gen_tup {c P : Addr} {elt iter : Expr} {x : Str} {px gpos : Pos} {scope : Scope} {ok : L2.St → Hp → V → Prop} {pb : L2.St → V → Bool} {te : TE} {k : Nat} {Q' : Value → Shared → Prop} {R : List V → Hp → Prop}
    (hr : Room k X.A) (TB : TabB X.base X.mg c P) (hcode : X.env.code = .ref c) (S : GenS X.env scope x) (hi : PE X iter te) (hel : EltT X P scope x elt ok pb)
    (hs : ∀ v, genFold iter X.env v = pure v) (I : Inv X pins σ H s) (h : te σ H fun v H1 => ∃ (a : Addr) (xs : List V), v = .ref a ∧ SqT X.K H1 a xs ∧ TabG H1 P ∧ (∀ x ∈ xs, ok σ H1 x) ∧ R xs H1)
    (hQ : ∀ xs H1 g s5, R xs H1 → ReadyT X pins σ H1 P xs (pb σ) g s5 → Q' (.ref g) s5) :
    wpAny (model X.prog X.w) X.A (eval (.GeneratorExp elt [⟨.Name x px, iter, [], 0⟩] scope gpos) X.env) Q' X.xe s := by
  refine wpAny_GeneratorExp_walksQD hr.hd S.co (closure_ok S.free) S.cell S.dot S.loc S.kind (by have := hr.dp; omega) ?_ hs
  refine thn (hi.run pins s σ H _ I h) fun xv s1 ⟨v, H1, I1, r1, a, xs, ev, hT, ⟨ps, hP, ht⟩, hok, q1⟩ => ?_
  subst ev; obtain rfl : xv = Value.ref a := r1
  obtain ⟨its, rv, htup, hsz⟩ := I1.tuple hT
  have htl : s1.heap.IsTuple a its.toArray := by first | exact htup | (obtain ⟨o, e1, e2, e3⟩ := htup; exact ⟨o, e1, e2, e3⟩)
  refine wpAny_pyIter_tuple htl ?_
  have hPs : s1.heap.get? P = some { cls := .none, data := .fields ps } := I1.hok P _ hP
  generalize ho : ({ cls := .type "tuple_iterator", data := .fields #[.ref a, .int 0 0] } : Obj) = o
  have sz2 : (s1.heap.push o).objs.size = s1.heap.objs.size + 1 := Heap.size_push ..
  have hPlt := Heap.lt_size hPs
  have alt : a < s1.heap.objs.size := by obtain ⟨_, e1, _⟩ := htl; exact Heap.lt_size e1
  have aneP : a ≠ P := by
    intro z; obtain ⟨oo, e1, e2, _⟩ := htl; rw [z, hPs] at e1; cases e1; cases e2
  have old : ∀ b u, s1.heap.get? b = some u → (s1.heap.push o).get? b = some u := fun b u e => Heap.get?_push_of_some _ e
  have cd : PySem.W.CodeHd (s1.heap.push o) c P := TB.code.keeps fun b u e => old b u (I1.bk b u e)
  have lim2 : (s1.heap.push o).NoLimit := I1.nolimit.push o
  have itAt : (s1.heap.push o).IsTupleIter s1.heap.objs.size a 0 ∧ (s1.heap.push o).IsTuple a its.toArray := by
    refine ⟨?_, htl.at fun u e => old _ u e⟩
    subst ho; exact ⟨_, Heap.get?_push_size _ rfl, rfl, rfl⟩
  have cont : ∀ (code : Value) (h3 : Heap) (tk : Nat) (ps' : Array Value), Heap.ExtBut P (s1.heap.push o) h3 → (s1.heap.push o).objs.size ≤ h3.objs.size → h3.get? P = some { cls := .none, data := .fields ps' } → (∃ more, ps' = ps ++ more) → TriplesOk ps'.toList → wpAny (model X.prog X.w) X.A (builtinsFor X.env.globals X.env.builtins) (fun bi s₄ =>
        ∃ Ia fp wr n₀ Pf St₀ pz F, Value.ref s1.heap.objs.size = .ref Ia ∧ (∀ A' : Around, A'.handled = none → Walks X.prog X.w A' Ia fp wr n₀ Pf St₀) ∧ St₀ 0 s₄.heap ∧ (∀ b ∈ fp, b < s₄.heap.objs.size) ∧ s₄.heap.NoLimit ∧ cStatics ∉ wr ∧
          (∀ href : Heap, (∀ b o, s₄.heap.get? b = some o → href.get? b = some o) → QuietGenD X.prog X.w (genEnv scope (cloFrom X.env.cells scope.names []) s₄.heap.objs.size code bi X.env) x [] elt (List.range s₄.heap.objs.size) wr Pf pz F href (X.A.depth + 1) (X.A.units + 8)) ∧
          (∀ a h₅ tk gs, gs.bare = true → s₄.heap.objs.size < a → h₅.objs.size = a + 1 → (∀ b o, s₄.heap.get? b = some o → h₅.get? b = some o) →
            WalksS X.prog X.w X.A.in4 a (a :: s₄.heap.objs.size :: List.range s₄.heap.objs.size) (s₄.heap.objs.size :: wr) (GenOnlyQ s₄.gens.size) (passing pz n₀ 0).length (fun j y => ∃ i, (passing pz n₀ 0)[j]? = some i ∧ F i y) (GenAt X.prog X.w X.A.in4 a s₄.gens.size s₄.heap.objs.size (List.range s₄.heap.objs.size) wr pz n₀ F) →
            GenAt X.prog X.w X.A.in4 a s₄.gens.size s₄.heap.objs.size (List.range s₄.heap.objs.size) wr pz n₀ F 0 { s₄ with gens := s₄.gens.push gs, toks := tk, heap := h₅ } → Q' (.ref a) { s₄ with gens := s₄.gens.push gs, toks := tk, heap := h₅ })) X.xe { s1 with heap := h3, toks := tk } := by
    intro code h3 tk ps' hx hsz3 hP3 hmore ht3
    obtain ⟨bm, ob, e1, e2, e3, e4, e5, e6, e7, e8⟩ := TB.bm
    have hcP : cStatics ≠ P := by
      intro e; obtain ⟨_, ⟨o', es, ep, ho', hd', _⟩, _⟩ := I1.nolimit; rw [e, hPs] at ho'; cases ho'; cases hd'
    have hsz4 : s1.heap.objs.size + 1 ≤ h3.objs.size := by rw [← sz2]; exact hsz3
    have hcl : cStatics < s1.heap.objs.size := let ⟨_, hns, _⟩ := I1.nolimit; hns.lt
    have keep3 : ∀ b u, b ≠ P → s1.heap.get? b = some u → h3.get? b = some u := fun b u hb e => hx b u hb (old b u e)
    have lim3 : h3.NoLimit := lim2.extBut hx hcP
    refine wpAny_builtinsFor (m := X.mg) (by rw [I1.ok.glob]; exact ((I1.mod.glob.keeps I1.bk).push o).extBut hx TB.gP) e1 e2 (keep3 _ _ e4 (I1.bk _ _ e5)) e6 e7 e8 ?_
    refine ⟨s1.heap.objs.size, [s1.heap.objs.size, a], [s1.heap.objs.size], its.length, (fun i u => its.toArray[i]? = some u), (fun i h => h.IsTupleIter s1.heap.objs.size a i ∧ h.IsTuple a its.toArray), (fun _ => true), (fun i y => ∃ v, xs[i]? = some v ∧ y = .bool (pb σ v)), rfl, fun A' hA => ?_, ?_, ?_, lim3, ?_, ?_, ?_⟩
    · exact Walks.tuple hA _ a (Nat.ne_of_lt alt) its.toArray
    · refine ⟨itAt.1.at fun u e => hx _ u (Nat.ne_of_gt hPlt) e, itAt.2.at fun u e => hx _ u aneP e⟩
    · intro b hb
      show b < h3.objs.size
      rcases List.mem_cons.mp hb with z | z
      · rw [z]; exact hsz4
      · rw [List.mem_singleton.mp z]; exact Nat.lt_of_lt_of_le alt (Nat.le_trans (Nat.le_succ _) hsz4)
    · intro z; exact Nat.ne_of_lt hcl (List.mem_singleton.mp z)
    · intro href hhref
      refine ⟨fun A' E' i v s₂ m₂ hA _ _ hPv hn hm hk => by simp only [List.forIn_nil]; exact wpAny_pure ⟨rfl, keeps_refl _⟩, fun A' E' i u s₂ m₂ hA hD hU hPv _ hn hm hk => ?_⟩
      have hi2 : i < its.length := by
        have := (Array.getElem?_eq_some_iff.mp hPv).1; simpa using this
      have hix : i < xs.length := by rw [rv.length]; exact hi2
      obtain ⟨u', hu', ru⟩ := rv.get (List.getElem?_eq_getElem hix)
      have eu : u' = u := by
        have q := hPv; rw [List.getElem?_toArray, hu'] at q; exact Option.some.inj q
      subst eu
      have kp : ∀ b ob, b ≠ P → s1.heap.get? b = some ob → s₂.heap.get? b = some ob := fun b ob hb e => by
        have hlt := Heap.lt_size e
        exact hk b (List.mem_range.mpr (Nat.lt_of_lt_of_le hlt (Nat.le_trans (Nat.le_succ _) hsz4))) (fun z => Nat.ne_of_lt hlt (List.mem_singleton.mp z)) ob (hhref b ob (keep3 b ob hb e))
      have hlimS : s₂.heap.NoLimit := by
        exact I1.nolimit.at fun ob e => kp _ ob hcP e
      exact wpAny_mono (hel pins σ H1 s1 I1 _ A' E' _ u' s₂ m₂ ⟨rfl, rfl, rfl, rfl, kp, hlimS⟩ ⟨ps, hP, ht⟩ hA hD hU ru (hok _ (List.getElem_mem hix)) hn hm) (fun y s3 r => ⟨⟨_, List.getElem?_eq_getElem hix, r.1⟩, r.2⟩) fun _ _ e => e
    · intro g h5 tk5 gs hgb hag hsz5 hk5 W5 hat
      simp only [GxR.passing_true, List.length_range] at W5
      rw [← rv.length] at W5 hat
      have W6 := W5.in4_1
      refine hQ xs H1 g _ q1 ⟨_, _, _, _, _, (fun j => match xs[j]? with | some b => pb σ b | none => true), W6, hat, fun j y sj Qj Ej hy hQj => ?_, fun j b e => by simp only [e], fun s' hm => ?_⟩
      · obtain ⟨i, hij, cc, hcc, rfl⟩ := hy
        obtain ⟨hj, ej⟩ := List.getElem?_eq_some_iff.mp hij
        rw [List.getElem_range] at ej; subst ej
        simp only [hcc] at hQj
        exact wpAny_truthy_bool hQj
      · obtain ⟨more, em⟩ := hmore
        have nwr : ∀ b u, s1.heap.get? b = some u → b ∉ h3.objs.size :: [s1.heap.objs.size] := fun b u e hb => by
          have hl := Heap.lt_size e
          rcases List.mem_cons.mp hb with z | z
          · exact absurd (Nat.lt_of_lt_of_le hl (Nat.le_trans (Nat.le_succ _) hsz4)) (by rw [z]; exact Nat.lt_irrefl _)
          · exact Nat.ne_of_lt hl (List.mem_singleton.mp z)
        have J := inv_tab (more := more) (h' := s'.heap) (g' := s'.gens) (d' := s'.drawn) (t' := s'.toks) I1 hP (fun b u hb e => hm.heap b u (nwr b u e) (hk5 b u (keep3 b u hb e))) (by rw [← em]; exact hm.heap P _ (nwr P _ hPs) (hk5 P _ hP3)) (AllBare.movedS (I1.bare.push hgb) hm)
        rw [sh_eta s1 s' hm.os] at J
        exact ⟨upd H1 P (.tbl (ps ++ more)), ⟨⟨ps ++ more, upd_same, by rw [← em]; exact ht3⟩, fun b hb => upd_ne hb⟩, J⟩
  refine ⟨lim2, ?_⟩
  have hP2 := old P _ hPs
  cases hf : codeAmong gpos ps.toList with
  | none =>
    refine wpAny_genexprCodeX hcode (cd.code hP2 ht) (cd.tab hP2) hf fun c' h' tk hx hge hlt hco' _ htab' _ => ?_
    obtain ⟨_, _, _, _, _, _, _, _, _, _, _, _, _, _, _, _, _, _, _, htr, _⟩ := hco'
    exact cont _ h' tk _ hx (Nat.le_trans hge (Nat.le_of_lt hlt)) htab'.2 ⟨_, rfl⟩ htr
  | some cv => exact wpAny_genexprCode_hit hcode (cd.code hP2 ht) hf (cont cv (s1.heap.push o) s1.toks ps (Heap.ExtBut.refl _ _) (Nat.le_refl _) hP2 ⟨#[], by simp⟩ ht)
/-- all(test for x in e), e a tuple; behind it the def's table may have grown -/
def tAllT (K : PySem.W.Frag) (P : Addr) (ok : L2.St → Hp → V → Prop) (pb : L2.St → V → Bool) (te : TE) : TE := fun σ H Q => te σ H fun v H1 => ∃ (a : Addr) (xs : List V), v = .ref a ∧ SqT K H1 a xs ∧ TabG H1 P ∧ (∀ x ∈ xs, ok σ H1 x) ∧ ∀ H2, Tabbed P H1 H2 → Q (.bl (xs.all (pb σ))) H2
theorem pe_allT {c P : Addr} {elt iter : Expr} {x : Str} {px p pos gpos : Pos} {scope : Scope} {ok : L2.St → Hp → V → Prop} {pb : L2.St → V → Bool} {te : TE} {k : Nat}
    (hr : Room k X.A) (hg : Gl X "all") (hm : X.mg "all" = none) (hb : bootBuiltins "all" = some (.builtin "all")) (TB : TabB X.base X.mg c P) (hcode : X.env.code = .ref c) (S : GenS X.env scope x) (hi : PE X iter te) (hel : EltT X P scope x elt ok pb)
    (hs : ∀ v, genFold iter X.env v = pure v) (he : starEach [.GeneratorExp elt [⟨.Name x px, iter, [], 0⟩] scope gpos] X.env = (false, eval (.GeneratorExp elt [⟨.Name x px, iter, [], 0⟩] scope gpos) X.env) :: starEach [] X.env := by rfl) :
    PE X (.Call (.Name "all" p) [.GeneratorExp elt [⟨.Name x px, iter, [], 0⟩] scope gpos] [] pos) (tAllT X.K P ok pb te) := by
  refine ⟨fun pins s σ H Q I h => wpAny_Call_Name_kw (ld_blt I hg hm hb (PyProof.Rows.callWith_builtin1 ?_ he (by rfl)))⟩
  rw [he]
  show wpAny _ _ (spliced ((false, eval (.GeneratorExp elt [⟨.Name x px, iter, [], 0⟩] scope gpos) X.env) :: backTo pos (starEach [] X.env))) _ _ s
  refine Calls.spliced_cons (gen_tup (R := fun xs H1 => ∀ H2, Tabbed P H1 H2 → Q (.bl (xs.all (pb σ))) H2) hr TB hcode S hi hel hs I h fun xs H1 g s5 hR hG => Calls.spliced_nil ?_)
  obtain ⟨fp, wr, G, F, St, tr, W, hst, htr, htq, hI⟩ := hG
  refine call_all_walkS (W.self 0 _ _ _ hst ⟨g, fp, wr, G, _, F, St, tr, rfl, W, hst, htr, fun s' hmv => ?_⟩)
  obtain ⟨H2, hT, J⟩ := hI s' hmv
  exact ⟨.bl _, H2, J, rfl, by rw [all_at htq]; exact hR H2 hT⟩
end
end MM
namespace MM
open PySem PySem.Spec PyProof.Rows L2 GxR
/-! ### t[::-1], t a tuple -/
theorem rev_lo (n : Nat) : Builtin.Slice.sliceAdjust none none (-1) (n : Int) = ((n : Int) - 1, -1) := rfl
theorem rev_n (n : Nat) : Builtin.Slice.slicePlaces ((n : Int) - 1) (-1) (-1) = n := by
  unfold Builtin.Slice.slicePlaces
  rw [if_neg (by decide)]
  split
  · show ((((n : Int) - 1 - (-1) - 1) / 1) + 1).toNat = n
    rw [Int.ediv_one]; omega
  · show (0 : Int).toNat = n; omega
theorem range_pick {α : Type} {g : Nat → Option α} {ys : List α} (h : ∀ k, k < ys.length → g k = ys[k]?) : (List.range ys.length).filterMap g = ys := by
  have e : (List.range ys.length).map g = ys.map some := by
    apply List.ext_getElem?
    intro i
    by_cases hi : i < ys.length
    · simp [hi, h i hi]
    · simp [hi, List.getElem?_eq_none (Nat.le_of_not_lt hi)]
  have e2 : (List.range ys.length).filterMap g = ((List.range ys.length).map g).filterMap id := by rw [List.filterMap_map]; rfl
  rw [e2, e, List.filterMap_map]
  have e3 : (id ∘ (some : α → Option α)) = some := rfl
  rw [e3, List.filterMap_some]
theorem rev_pick (xs : Array Value) : ((List.range xs.size).filterMap fun (k : Nat) => xs[(((xs.size : Int) - 1) + (k : Int) * (-1)).toNat]?) = xs.toList.reverse := by
  have l : xs.size = xs.toList.reverse.length := by simp
  have q := range_pick (g := fun (k : Nat) => xs[(((xs.size : Int) - 1) + (k : Int) * (-1)).toNat]?) (ys := xs.toList.reverse) fun k hk => ?_
  · rw [← l] at q; exact q
  · have hk' : k < xs.toList.length := by simpa using hk
    rw [List.getElem?_reverse hk']
    have e2 : (((xs.size : Int) - 1) + (k : Int) * (-1)).toNat = xs.toList.length - 1 - k := by simp only [Array.length_toList] at hk' ⊢; omega
    show xs[(((xs.size : Int) - 1) + (k : Int) * (-1)).toNat]? = _
    rw [e2, Array.getElem?_toList]
section
variable {prog : Program} {w : World} {A : Around} {E : Value → Shared → Prop} {s : Shared}
theorem getItem_tuple_rev {t sl : Addr} {items : Array Value} {u : Tok} {Q : Value → Shared → Prop} (ht : IsTup s.heap t items) (hs : s.heap.IsSliceOf sl .none .none (.int (-1) u)) (hsz : items.size ≤ sizeLine)
    (h : Q (.ref s.heap.objs.size) { s with heap := s.heap.push { cls := .type "tuple", data := .seq items.toList.reverse.toArray } }) : wpAny (model prog w) A (getItem (.ref t) (.ref sl)) Q E s := by
  have hz2 : sizeOk (.seq items.toList.reverse.toArray) := by show items.toList.reverse.toArray.size ≤ sizeLine; simpa using hsz
  obtain ⟨os, hos, hcs, hds⟩ := id hs
  unfold getItem
  try with_reducible refine wpAny_holding ?_
  first | refine wpAny_bind (wpAny_pure ?_) | skip
  refine wpAny_bind (wpAny_sequenceKey ht.typeIs (by decide) (wpAny_bind (wpAny_callSpecial?_slot (name := Str.ofString "__getitem__") ht.typeIs PyProof.Rows.slot_tuple_getitem (wpAny_call_entry PyProof.Rows.slot_tuple_getitem ht.typeIs entry_tuple_getitem ?_ (args_tuple_getitem _ _)))))
  show wpAny _ _ (Builtin.Tuple.tupleItemsOf (.ref t) >>= _) _ _ s
  refine wpAny_bind (tupleItemsOf_ ht (wpAny_bind (wpAny_typeOf (show s.TypeIs (.ref sl) "slice" from ⟨os, hos, hcs⟩) ?_)))
  rw [if_pos (by decide)]
  refine wpAny_bind (m := Builtin.Slice.sliceApplied (.ref sl) (pure (items.size : Int))) ?_
  unfold Builtin.Slice.sliceApplied Builtin.Slice.sliceFields
  refine wpAny_bind (wpAny_bind (wpAny_field hos hds (x := .none) rfl (wpAny_bind (wpAny_field hos hds (x := .none) rfl (wpAny_bind (wpAny_field hos hds (x := .int (-1) u) rfl (wpAny_pure ?_)))))))
  refine wpAny_bind (slicePart_int ?_)
  show wpAny _ _ (if ((-1 : Int) == 0) = true then _ else _) _ _ s
  rw [if_neg (by decide)]
  refine wpAny_bind (slicePart_none (wpAny_bind (slicePart_none (wpAny_bind (wpAny_pure ?_)))))
  show wpAny _ _ (pure (((items.size : Nat) : Int) - 1, (-1 : Int), Builtin.Slice.slicePlaces (((items.size : Nat) : Int) - 1) (-1) (-1))) _ _ s
  rw [rev_n]
  refine wpAny_pure ?_
  have hno : ¬ ((((items.size : Nat) : Int) - 1 == 0 && (-1 : Int) == 1 && items.size == items.size) = true) := by simp
  show wpAny _ _ (if (((items.size : Nat) : Int) - 1 == 0 && (-1 : Int) == 1 && items.size == items.size) = true then _ else _) _ _ s
  rw [if_neg hno, rev_pick]
  first
    | exact wpAny_bind (m := Builtin.Tuple.tupleExact _) (wpAny_newObj_type (wpAny_pure ⟨_, rfl, wpAny_pure h⟩) hz2)
    | exact wpAny_bind (m := Builtin.Tuple.tupleExact _) (wpAny_newObj_type (wpAny_bind (wpAny_pure (wpAny_pure ⟨_, rfl, wpAny_pure h⟩))) hz2)
    | exact wpAny_bind (wpAny_bind (m := Builtin.Tuple.tupleExact _) (wpAny_newObj_type (wpAny_pure (wpAny_pure ⟨_, rfl, wpAny_pure h⟩)) hz2))
    | exact wpAny_bind (wpAny_bind (m := Builtin.Tuple.tupleExact _) (wpAny_newObj_type (wpAny_pure ⟨_, rfl, wpAny_pure h⟩) hz2))
end
section
variable {X : Cx}
def tRevT (K : PySem.W.Frag) (te : TE) : TE := fun σ H Q => te σ H fun x H1 => ∃ a xs, x = .ref a ∧ SqT K H1 a xs ∧ ∀ p, H1 p = none → Q (.ref p) (upd H1 p (.tup xs.reverse))
theorem pe_revT {e : Expr} {te : TE} {k : Nat} {p1 p2 p3 pos : Pos} (he : PE X e te) : PE X (.Subscript e (.Slice none none (some (.UnaryOp .USub (.Constant (.int 1) k p1) p2)) p3) pos) (tRevT X.K te) := by
  refine ⟨fun pins s σ H Q I h => Subscript_ (thn (he.run pins s σ H _ I h) fun v s1 ⟨x, H1, I1, r1, a, xs, ex, hx, q⟩ => ?_)⟩
  subst ex; cases r1
  have hst : PO X (some (.UnaryOp .USub (.Constant (.int 1) k p1) p2)) (tPart (tUn (rU fun i => .int (-i)) (tC (.int 1)))) := po_some (pe_un un_neg pe_int)
  refine wpAny_Slice (thn (po_none.run pins s1 σ H1 (fun o H2 => o = none ∧ H2 = H1) I1 ⟨rfl, rfl⟩) fun vl s2 ⟨l, H2, I2, pl, el, e2⟩ => ?_)
  subst el e2
  refine thn (po_none.run pins s2 σ H2 (fun o H3 => o = none ∧ H3 = H2) I2 ⟨rfl, rfl⟩) fun vu s3 ⟨u, H3, I3, pu, eu, e3⟩ => ?_
  subst eu e3
  refine thn (hst.run pins s3 σ H3 (fun o H4 => o = some (-1) ∧ H4 = H3) I3 ⟨1, rfl, -1, rfl, rfl, rfl⟩) fun vs s4 ⟨o, H4, I4, ps, eo, e4⟩ => ?_
  subst eo e4
  have I5 : Inv X pins σ H4 { s4 with heap := s4.heap.push { cls := .type "slice", data := .fields #[vl, vu, vs] } } := I4.kept (t' := s4.toks) fun b ob q => Heap.get?_push_of_some _ q
  obtain ⟨its, r, ht, hz⟩ := I5.tuple hx
  have hlen := r.length
  have evl : vl = .none := by cases pl; rfl
  have evu : vu = .none := by cases pu; rfl
  have evs : ∃ u, vs = .int (-1) u := by cases ps; exact ⟨_, rfl⟩
  obtain ⟨tk, evs⟩ := evs
  subst evl evu evs
  show wpAny (model X.prog X.w) X.A (subscriptTail e (.Slice none none (some (.UnaryOp .USub (.Constant (.int 1) k p1) p2)) p3) (.ref a) (.ref s4.heap.objs.size)) (EP X pins σ Q) X.xe { s4 with heap := s4.heap.push { cls := .type "slice", data := .fields #[.none, .none, .int (-1) tk] } }
  refine tail_any (ops := [.ref a, .ref s4.heap.objs.size]) ht.typeIs (PyProof.Rows.slot_tuple_getitem.lookup) ?_ (by with_unfolding_all rfl)
  refine getItem_tuple_rev ht (Heap.IsSliceOf.new _ .none .none _) (by simp only [List.size_toArray]; omega) ?_
  refine ⟨.ref _, _, I5.laid (t' := s4.toks) (o := .tup xs.reverse) (fun b ob q => Heap.get?_push_of_some _ q) (Nat.le_refl _) ?_, rfl, q _ (I5.hok.fresh (Nat.le_refl _))⟩
  exact ⟨by rw [List.length_reverse]; exact hz, _, r.reverse, IsTup.new _ _⟩
/-! ### range(n) as a value, walked later -/
theorem cr_range1 : CallR X (.type "range") (fun vs H Q => ∃ j, vs = [V.int j] ∧ ∀ p, H p = none → Q (.ref p) (upd H p (.rng 0 j))) := by
  intro pins s σ H vs us Q I r h
  obtain ⟨j, rfl, q⟩ := h; obtain ⟨u1, rfl, t, rfl⟩ := vals1 r
  exact call_range_1 ⟨.ref s.heap.objs.size, upd H s.heap.objs.size (.rng 0 j), I.laid (t' := s.toks + 1 + 1) (fun b o e => Heap.get?_push_of_some _ e) (Nat.le_refl _) ⟨s.toks, t, s.toks + 1, Heap.get?_push_size _ rfl⟩, rfl, q _ (I.hok.fresh (Nat.le_refl _))⟩
def iRngV (tl : TE) : TI := fun σ H R => tl σ H fun x H1 => ∃ (a : Addr) (lo hi : Int), x = .ref a ∧ H1 a = some (.rng lo hi) ∧ (-(2 ^ 62) ≤ lo ∧ lo < 2 ^ 62 ∧ -(2 ^ 62) ≤ hi ∧ hi < 2 ^ 62) ∧ R (Itr lo (hi - lo).toNat) H1
theorem pi_rngV {tg l : Expr} {tl : TE} (hl : PE X l tl) : PI X tg l (iRngV tl) := by
  refine ⟨fun pins s σ H R I h => thn (hl.run pins s σ H _ I h) fun v s1 ⟨x, H1, I1, r1, a, lo, hi, ex, ha, ⟨b1, b2, b3, b4⟩, q⟩ => ?_⟩
  subst ex; cases r1
  obtain ⟨t, u, v, ho⟩ := I1.hok a _ ha
  have hr : IsRange s1.heap a lo hi 1 t u v := ho
  refine wpAny_pyIter_range hr (small_one b1 b2 b3 b4) ?_
  refine ⟨s1.heap.objs.size, [s1.heap.objs.size], _, _, H1, rfl, I1.kept (t' := s1.toks) fun b o e => Heap.get?_push_of_some _ e, turn_range _ lo (hi - lo).toNat, ?_, fun b hb => ?_, q⟩
  · have e1 : lo + ((0 : Nat) : Int) * 1 = lo := by simp
    have e2 : (((hi - lo).toNat : Nat) : Int) - ((0 : Nat) : Int) = Builtin.Range.rangeSize lo hi 1 := by rw [rangeSize_one]; split <;> omega
    show IsRangeIter _ _ (lo + ((0 : Nat) : Int) * 1) ((((hi - lo).toNat : Nat) : Int) - ((0 : Nat) : Int)) 1
    rw [e1, e2]; exact Heap.get?_push_size _ rfl
  · obtain rfl : b = s1.heap.objs.size := List.mem_singleton.mp hb
    exact I1.fpOk (Nat.le_refl _) (I1.hok.fresh (Nat.le_refl _))
end
end MM
namespace MM
open PySem PySem.Spec PyProof.Rows L2 GxR
/-! ### repr(x), x data -/
section
variable {X : Cx}
def rReprD (K : PySem.W.Frag) : List V → Hp → VK → Prop := fun xs H Q => ∃ v d, xs = [v] ∧ Dp K H v d ∧ d.showable = true ∧ d.hasDict = false ∧ d.depth ≤ 60 ∧ d.shown.length ≤ sizeLine ∧ Q (.str d.shown) H
theorem call_reprD (hG : X.A.guards = some []) (hu : X.A.units + 64 < cLine) : CallR X (.builtin "repr") (rReprD X.K) := by
  intro pins s σ H xs us Q I r h
  obtain ⟨v, d, rfl, hd, hs, hn, hdp, hz, q⟩ := h
  obtain ⟨u, rfl, rv⟩ := vals1 r
  cases hd with
  | non => cases (show u = Value.none from rv); exact PySem.P.repr_of_none ⟨.str _, H, I.tok _, ⟨_, rfl⟩, q⟩
  | bl b => cases (show u = Value.bool b from rv); cases b <;> exact PySem.P.repr_of_bool ⟨.str _, H, I.tok _, ⟨_, rfl⟩, q⟩
  | int i => obtain ⟨t, rfl⟩ := rv; exact PySem.P.repr_of_int (by simpa [PyData.showable] using hs) ⟨.str _, H, I.tok _, ⟨_, rfl⟩, q⟩
  | str x => obtain ⟨t, rfl⟩ := rv; exact PySem.P.repr_of_str ⟨.str _, H, I.tok _, ⟨_, rfl⟩, q⟩ (by simpa [PyData.shown] using hz)
  | @lst a ys ds h1 h2 =>
    cases (show u = Value.ref a from rv)
    obtain ⟨as, rd⟩ := Dp.reads I (.list ds) (.ref a) (.ref a) (.lst h1 h2) rfl
    exact repr_of_reads' rd hs (PyData.noDict_hsm hn) hG (by omega) (fun _ _ e => e) (fun h' u tk hk => ⟨.str _, H, I.kept hk, ⟨_, rfl⟩, q⟩) hz
  | @tup a ys ds h1 h2 =>
    cases (show u = Value.ref a from rv)
    obtain ⟨as, rd⟩ := Dp.reads I (.tuple ds) (.ref a) (.ref a) (.tup h1 h2) rfl
    exact repr_of_reads' rd hs (PyData.noDict_hsm hn) hG (by omega) (fun _ _ e => e) (fun h' u tk hk => ⟨.str _, H, I.kept hk, ⟨_, rfl⟩, q⟩) hz
end
/-! ### sorted(t), t a tuple of whole numbers -/
section
variable {prog : Program} {w : World} {A : Around} {E : Value → Shared → Prop} {s : Shared}
theorem collect_tup {l : Addr} {vs : List Value} {Q : List Value → Shared → Prop} (hl : s.heap.IsTuple l vs.toArray) (hsz : vs.length ≤ sizeLine)
    (h : Q vs { s with heap := (s.heap.push (seqObj "list" #[] 0)).update s.heap.objs.size (Obj.mapSeq (· ++ vs.toArray)) }) : wpAny (model prog w) A (collect (.ref l)) Q E s := by
  have hl2 := hl.push (seqObj "list" #[] 0)
  unfold collect
  refine wpAny_bind (wpAny_runValue (codeAny_builtin entry_proto_collect' ?_))
  show wpAny _ _ (do again (.builtin "list.__iadd__" ⟨[← newList [], .ref l], []⟩)) _ _ s
  refine wpAny_bind (wpAny_newList (wpAny_pure ⟨Code.quiet_builtin _ (by decide +kernel), codeAny_builtin entry_list_iadd' ?_⟩))
  show wpAny _ _ (Builtin.List.listExtendWith (.ref s.heap.objs.size) (.ref l) (.ref s.heap.objs.size)) _ _ { s with heap := s.heap.push (seqObj "list" #[] 0) }
  unfold Builtin.List.listExtendWith
  obtain ⟨o, ho', hc, n, hd⟩ := id hl2
  refine wpAny_bind (wpAny_typeOf (T := "tuple") ⟨o, ho', hc⟩ ?_)
  rw [if_pos (show (Builtin.List.listSameRef (.ref s.heap.objs.size) (.ref l) || Value.type "tuple" == Value.type "list" || Value.type "tuple" == Value.type "tuple") = true by rw [show (Value.type "tuple" == Value.type "tuple") = true by rfl]; simp)]
  refine wpAny_bind (listItems_at ho' hd (wpAny_bind (listItems_at (xs := #[]) (n := 0) (Heap.get?_push_size _ rfl) rfl ?_)))
  rw [if_neg (by simp)]
  refine wpAny_bind (listUpdate_at (xs := #[]) (n := 0) (Heap.get?_push_size _ rfl) rfl (wpAny_pure ?_) (Nat.zero_le _) (by show (#[] ++ vs.toArray).size ≤ sizeLine + 1; simp only [Array.size_append, List.size_toArray, List.length_nil]; omega))
  show wpAny (model prog w) A (load s.heap.objs.size >>= fun o => match o.data with | .seq xs _ => pure xs.toList | _ => unsupported "internal:collect") Q E { s with heap := (s.heap.push (seqObj "list" #[] 0)).update s.heap.objs.size (Obj.mapSeq (· ++ vs.toArray)) }
  refine wpAny_bind (wpAny_load (get?_update_seq (Heap.get?_push_size _ rfl) _) ?_)
  show wpAny _ _ (pure ((#[] : Array Value) ++ vs.toArray).toList) Q E _
  rw [show ((#[] : Array Value) ++ vs.toArray).toList = vs by simp]
  exact wpAny_pure h
theorem sorted_tup {l : Addr} {vs : List Value} {ns : List Int} {Q : Value → Shared → Prop} (hl : s.heap.IsTuple l vs.toArray) (hi : IntsAre vs ns) (hz : vs.length ≤ sizeLine)
    (h : ∀ out : List Value, IntsAre out (out.map SrtO.iv) → (out.map SrtO.iv).Perm ns → (out.map SrtO.iv).Pairwise (· ≤ ·) → Q (.ref (s.heap.objs.size + 1)) { s with heap := sortedAll s.heap vs out.toArray }) :
    wpAny (model prog w) A (call (.builtin "sorted") [.ref l]) Q E s := by
  refine Calls.call_function_entry PyProof.Rows.kind_sorted PyProof.Rows.plain_sorted PyProof.Rows.entry_sorted (PyProof.Rows.args_sorted1 _) ?_
  unfold Builtin.«sorted»
  refine wpAny_bind (m := checkCount "sorted" 1 1 _) (wpAny_pure (wpAny_bind (collect_tup hl hz (wpAny_bind (wpAny_newList ?_ hz)))))
  have hsz : ((s.heap.push (seqObj "list" #[] 0)).update s.heap.objs.size (Obj.mapSeq (· ++ vs.toArray))).objs.size = s.heap.objs.size + 1 := (Heap.size_update ..).trans (Heap.size_push ..)
  have hoL : (((s.heap.push (seqObj "list" #[] 0)).update s.heap.objs.size (Obj.mapSeq (· ++ vs.toArray))).push (seqObj "list" vs.toArray 0)).get? (s.heap.objs.size + 1) = some (seqObj "list" vs.toArray 0) := hsz ▸ Heap.get?_push_size _ rfl
  show wpAny _ _ _ _ _ { s with heap := ((s.heap.push (seqObj "list" #[] 0)).update s.heap.objs.size (Obj.mapSeq (· ++ vs.toArray))).push (seqObj "list" vs.toArray 0) }
  rw [hsz]
  refine wpAny_bind (wpAny_holding (wpAny_call_entry PyProof.Rows.slot_list_sort ⟨_, hoL, rfl⟩ PyProof.Rows.entry_list_sort (SrtO.list_sort_ord SrtO.swo_int hoL hz (fun h2 => SrtO.ints_sortable hi h2) fun out hs hb => ⟨_, rfl, ?_⟩) (PyProof.Rows.args_list_sort _)))
  obtain ⟨k1, k2, k3⟩ := SrtO.ints_out hi hs hb
  exact wpAny_pure ⟨_, rfl, h out k1 k2 k3⟩
end
section
variable {X : Cx}
def rSortedTup (K : PySem.W.Frag) : List V → Hp → VK → Prop := fun vs H Q => ∃ (a : Addr) (ns : List Int), vs = [V.ref a] ∧ SqT K H a (ns.map V.int) ∧ ∀ (ns' : List Int) (p : Addr), ns'.Perm ns → ns'.Pairwise (· ≤ ·) → H p = none → Q (.ref p) (upd H p (.lst (ns'.map V.int)))
theorem cr_sortedTup : CallR X (.builtin "sorted") (rSortedTup X.K) := by
  intro pins s σ H vs us Q I r h
  obtain ⟨a, ns, rfl, hs, q⟩ := h
  obtain ⟨its, rv, hl, hz⟩ := I.tuple hs
  rw [Vals.ref1 r]
  have hi := rv.ints
  refine sorted_tup (show s.heap.IsTuple a its.toArray from hl) hi (by rw [← rv.length]; exact hz) fun out k1 k2 k3 => ?_
  obtain ⟨ep, he'⟩ := PyProof.Rows.sortedAll_at s.heap its out.toArray
  have hlen : ((out.map SrtO.iv).map V.int).length ≤ sizeLine := by rw [List.length_map, k2.length_eq]; simpa using hz
  exact ⟨.ref _, upd H (s.heap.objs.size + 1) (.lst ((out.map SrtO.iv).map V.int)), I.laid (t' := s.toks) (fun _ _ => PyProof.Rows.sortedAll_old) (Nat.le_succ _) ⟨hlen, out, ep, vals_of_ints k1, he'⟩, rfl, q _ _ k2 k3 (I.hok.fresh (Nat.le_succ _))⟩
end
end MM
namespace MM
open PySem PySem.Spec PyProof.Rows L2 GxR
/-! ### heaps that go on -/
/-- what never changes -/
def Fixed : HO → Prop
  | .tup _ => True
  | .rng _ _ => True
  | .frz _ _ => True
  | _ => False
/-- H' goes on from H: what is fixed stays, of the others all but those in B; tables grow -/
structure ExB (B : Addr → Prop) (H H' : Hp) : Prop where
  fix : ∀ a o, H a = some o → Fixed o → H' a = some o
  keep : ∀ a o, H a = some o → (∀ ps, o ≠ .tbl ps) → ¬ B a → H' a = some o
  tbl : ∀ P ps, H P = some (.tbl ps) → ∃ ps', H' P = some (.tbl ps') ∧ (TriplesOk ps.toList → TriplesOk ps'.toList)
  still : ∀ a, H a ≠ none → H' a ≠ none
abbrev Ex : Hp → Hp → Prop := ExB fun _ => False
section
variable {B B' : Addr → Prop} {H H1 H2 : Hp} {a b p P : Addr} {o : HO} {xs ys : List V} {K : PySem.W.Frag}
theorem ExB.refl : ExB B H H := ⟨fun _ _ h _ => h, fun _ _ h _ _ => h, fun _ ps h => ⟨ps, h, id⟩, fun _ h => h⟩
theorem ExB.mono (e : ExB B H H1) (h : ∀ a, B a → B' a) : ExB B' H H1 := ⟨e.fix, fun a o q n b => e.keep a o q n fun z => b (h a z), e.tbl, e.still⟩
theorem ExB.of (e : Ex H H1) : ExB B H H1 := e.mono fun _ z => z.elim
theorem ExB.tab (e : ExB B H H1) (h : TabG H P) : TabG H1 P := let ⟨_, h1, h2⟩ := h; let ⟨ps', h3, h4⟩ := e.tbl _ _ h1; ⟨ps', h3, h4 h2⟩
/-- what is changed is new -/
theorem ExB.then (e : ExB B H H1) (d : ExB B' H1 H2) (h : ∀ a, B' a → H a = none ∨ B a) : ExB B H H2 :=
  ⟨fun a o q f => d.fix a o (e.fix a o q f) f, fun a o q n b => d.keep a o (e.keep a o q n b) n (fun z => (h a z).elim (fun y => by rw [y] at q; cases q) b), fun P ps h => let ⟨p1, a1, a2⟩ := e.tbl P ps h; let ⟨p2, b1, b2⟩ := d.tbl P p1 a1; ⟨p2, b1, fun z => b2 (a2 z)⟩, fun a h => d.still a (e.still a h)⟩
theorem ExB.trans (e : ExB B H H1) (d : ExB B H1 H2) : ExB B H H2 := e.then d fun _ z => .inr z
theorem ExB.fresh (e : ExB B H H1) (h : H1 p = none) : H p = none := by
  cases q : H p with
  | none => rfl
  | some o => exact absurd h (e.still p (by rw [q]; exact fun z => nomatch z))
theorem ex_new (h : H p = none) : ExB B H (upd H p o) :=
  ⟨fun a o q _ => by rw [upd_ne (ne_of_none q h)]; exact q, fun a o q _ _ => by rw [upd_ne (ne_of_none q h)]; exact q, fun P ps q => ⟨ps, by rw [upd_ne (ne_of_none q h)]; exact q, id⟩, fun a q z => by by_cases e : a = p; exact q (e ▸ h); rw [upd_ne e] at z; exact q z⟩
theorem ex_set (h : H p = some (.lst xs)) : ExB (fun a => a = p) H (upd H p (.lst ys)) :=
  ⟨fun a o q f => by rw [upd_ne (fun z => by rw [z, h] at q; cases q; exact f)]; exact q, fun a o q _ n => by rw [upd_ne n]; exact q, fun P ps q => ⟨ps, by rw [upd_ne (fun z => by rw [z, h] at q; cases q)]; exact q, id⟩,
    fun a q z => by by_cases e : a = p; (rw [e, upd_same] at z; cases z); rw [upd_ne e] at z; exact q z⟩
theorem ex_tab (h : TabG H P) (t : Tabbed P H H1) : ExB B H H1 := by
  obtain ⟨ps, h1, h2⟩ := h
  obtain ⟨⟨ps', g1, g2⟩, t2⟩ := t
  have ne : ∀ a o, H a = some o → (∀ ps, o ≠ .tbl ps) → a ≠ P := fun a o q n z => by rw [z, h1] at q; cases q; exact n ps rfl
  refine ⟨fun a o q f => by rw [t2 a (ne a o q fun ps z => by rw [z] at f; exact f)]; exact q, fun a o q n _ => by rw [t2 a (ne a o q n)]; exact q, fun Q qs q => ?_, fun a q z => ?_⟩
  · by_cases e : Q = P
    · rw [e]; exact ⟨ps', g1, fun _ => g2⟩
    · exact ⟨qs, by rw [t2 Q e]; exact q, id⟩
  · by_cases e : a = P
    · rw [e, g1] at z; cases z
    · rw [t2 a e] at z; exact q z
theorem ExB.tup (e : ExB B H H1) (h : H a = some (.tup xs)) : H1 a = some (.tup xs) := e.fix _ _ h trivial
theorem ExB.rng {lo hi : Int} (e : ExB B H H1) (h : H a = some (.rng lo hi)) : H1 a = some (.rng lo hi) := e.fix _ _ h trivial
theorem ExB.lst (e : ExB B H H1) (h : H a = some (.lst xs)) (n : ¬ B a) : H1 a = some (.lst xs) := e.keep _ _ h (fun _ z => nomatch z) n
theorem Ex.lst (e : Ex H H1) (h : H a = some (.lst xs)) : H1 a = some (.lst xs) := e.keep _ _ h (fun _ z => nomatch z) id
theorem ExB.sqt (e : ExB B H H1) (h : SqT K H a xs) : SqT K H1 a xs := by
  rcases h with (h | ⟨o, h⟩) | h
  · exact .inl (.inl (e.fix _ _ h trivial))
  · exact .inl (.inr ⟨o, e.fix _ _ h trivial⟩)
  · exact .inr h
theorem ExB.sql (e : ExB B H H1) (h : SqL K H a xs) (n : ¬ B a) : SqL K H1 a xs := by
  rcases h with (h | ⟨o, h⟩) | h
  · exact .inl (.inl (e.keep _ _ h (fun _ z => nomatch z) n))
  · exact .inl (.inr ⟨o, e.fix _ _ h trivial⟩)
  · exact .inr h
theorem Ex.sql (e : Ex H H1) (h : SqL K H a xs) : SqL K H1 a xs := ExB.sql e h id
/-- the script: frozen or written, never changed -/
def Scr (K : PySem.W.Frag) (H : Hp) (a : Addr) (xs : List V) : Prop := SqL K H a xs ∧ ∀ ys, H a ≠ some (.lst ys)
theorem ExB.ne (h : H a = none) (h' : H b ≠ none) : a ≠ b := fun z => h' (z ▸ h)
end
/-! ### data that never changes -/
mutual
def noList : PyData → Bool
  | .list _ => false
  | .dict _ => false
  | .tuple xs => noLists xs
  | _ => true
def noLists : List PyData → Bool
  | [] => true
  | x :: xs => noList x && noLists xs
end
section
variable {B : Addr → Prop} {H H1 : Hp} {K : PySem.W.Frag}
mutual
theorem Dp.ex (e : Ex H H1) : ∀ {v : V} {d : PyData}, Dp K H v d → Dp K H1 v d
  | _, _, .non => .non
  | _, _, .bl b => .bl b
  | _, _, .int i => .int i
  | _, _, .str x => .str x
  | _, _, .lst h1 h2 => .lst (Ex.sql e h1) (Dp.exAll e h2)
  | _, _, .tup h1 h2 => .tup (e.sqt h1) (Dp.exAll e h2)
theorem Dp.exAll (e : Ex H H1) : ∀ {vs : List V} {ds : List PyData}, DpAll K H vs ds → DpAll K H1 vs ds
  | _, _, .nil => .nil
  | _, _, .cons h1 h2 => .cons (Dp.ex e h1) (Dp.exAll e h2)
end
mutual
theorem Dp.exN (e : ExB B H H1) : ∀ {v : V} {d : PyData}, noList d = true → Dp K H v d → Dp K H1 v d
  | _, _, _, .non => .non
  | _, _, _, .bl b => .bl b
  | _, _, _, .int i => .int i
  | _, _, _, .str x => .str x
  | _, _, n, .lst h1 h2 => by simp [noList] at n
  | _, _, n, .tup h1 h2 => .tup (e.sqt h1) (Dp.exNAll e (by simpa [noList] using n) h2)
theorem Dp.exNAll (e : ExB B H H1) : ∀ {vs : List V} {ds : List PyData}, noLists ds = true → DpAll K H vs ds → DpAll K H1 vs ds
  | _, _, _, .nil => .nil
  | _, _, n, .cons h1 h2 => by
    simp only [noLists, Bool.and_eq_true] at n
    exact .cons (Dp.exN e n.1 h1) (Dp.exNAll e n.2 h2)
end
theorem dpAll_ints : ∀ ns : List Int, DpAll K H (ns.map V.int) (ns.map PyData.int)
  | [] => .nil
  | n :: ns => .cons (.int n) (dpAll_ints ns)
theorem dp_row {a : Addr} {ns : List Int} (h : SqT K H a (ns.map V.int)) : Dp K H (.ref a) (.tuple (ns.map PyData.int)) := .tup h (dpAll_ints ns)
theorem dp_ints {a : Addr} {ns : List Int} (h : SqL K H a (ns.map V.int)) : Dp K H (.ref a) (.list (ns.map PyData.int)) := .lst h (dpAll_ints ns)
end
/-! ### a def as its callers know it -/
def CallD (P : Program) (w : World) (K : PySem.W.Frag) (mg : Str → Option Value) (base : Heap) (k : Nat) (x : Str) (ps : List Str) (sp : Sp) : Prop :=
  ∃ f fd, FnG P w K mg base CX0 k f fd ps sp ∧ mg x = some (.ref f) ∧ PySem.W.keepIn K (.ref f) = true ∧ Binds K fd ps []
abbrev FnP (K : PySem.W.Frag) (x : Str) (st : Stmt) (f : Addr) (fd : FuncData) : Prop := FunD K x x (defArgs st) (defBody st) (defScope st) [] [] f fd
section
variable {P : Program} {w : World} {K : PySem.W.Frag} {mg : Str → Option Value} {base : Heap} {f : Addr} {fd : FuncData} {x : Str} {st : Stmt} {ps N : List Str} {k : Nat} {sp sp' : Sp}
theorem CallD.le {j : Nat} (C : CallD P w K mg base j x ps sp) (h : j ≤ k) : CallD P w K mg base k x ps sp := let ⟨f, fd, F, r⟩ := C; ⟨f, fd, F.mono h, r⟩
/-- the rule for a def: its body keeps the promise -/
theorem callD (F : FnP K x st f fd) (g : mg x = some (.ref f)) (S : FnScope N ps (defScope st))
    (hb : ∀ (kV doc pm : Value) (an : Option Addr) (cdv ct : Value) (us : List Value), us.length = ps.length → bindArgs (PySem.W.fnOf x x (defArgs st) (defBody st) (defScope st) .none kV doc pm an cdv ct) ⟨us, []⟩ = pure (ps.zip us))
    (len : ∀ vs H Q E, sp vs H Q E → vs.length = ps.length)
    (body : ∀ (cdv : Value) (A : Around) (outer : List Env) (s : Shared) (H : Hp) (vs : List V) (Q : VK) (E : XK), (∀ oc od fd osl, K.lookup f = some ⟨oc, od, .func fd, osl⟩ → fd.code = cdv) → Room k (A.deeper (envOfC x (defScope st) s.heap.objs.size f cdv)) → (A.deeper (envOfC x (defScope st) s.heap.objs.size f cdv)).guards = some [] → sp vs H Q E →
      ∃ t, PSs (cxOf CX0 P w K mg base N x (defScope st) f cdv A outer s H E).nox (defBody st) t ∧ t { nx := fun _ H' => Q .non H', rt := Q } (start N vs) H) : CallD P w K mg base (k + 1) x ps sp := by
  have b := F.bindsN hb
  have kp := F.kp
  obtain ⟨oc, od, dV, kV, doc, pm, an, cdv, ct, osl, rfl, lk, hcd, _, _⟩ := F.ex
  refine ⟨f, _, fn_ofG lk hcd S len fun A outer s H vs Q E hr hG hsp => ?_, g, kp, b⟩
  obtain ⟨t, h, q⟩ := body cdv A outer s H vs Q E (fun oc2 od2 fd2 osl2 e => by rw [lk] at e; cases e; rfl) hr hG hsp
  exact ⟨t, h.nox, q⟩
end
section
variable {X : Cx} {k : Nat} {ps : List Str} {sp : Sp} {x : Str} {p pos : Pos} {e : Expr} {es : List Expr} {t : TA}
theorem pe_c (C : CallD X.prog X.w X.K X.mg X.base k x ps sp) (hr : Room k X.A) (hG : X.A.guards = some []) (ha : PA X (e :: es) t) (hg : Gl X x := by rfl) (hdb : (x == ("__debug__" : Str)) = false := by decide) (he : starEach (e :: es) X.env = (false, eval e X.env) :: starEach es X.env := by rfl) (hpl : (backTo pos (starEach es X.env)).any (·.1) = false := by rfl) :
    PE X (.Call (.Name x p) (e :: es) [] pos) (tCall sp [] E0 t) := by
  obtain ⟨f, fd, F, g, kp, b⟩ := C
  exact pe_callG F hr hG hg g kp b .nil pass0 ha hdb he hpl
end
end MM
namespace MM
open PySem PySem.Spec PyProof.Rows L2 GxR
/-! ### kinds of values -/
inductive Kd (K : PySem.W.Frag) (H : Hp) : V → String → Prop where
  | non : Kd K H .non "NoneType"
  | bl (b : Bool) : Kd K H (.bl b) "bool"
  | int (i : Int) : Kd K H (.int i) "int"
  | str (x : Str) : Kd K H (.str x) "str"
  | lst {a : Addr} {xs : List V} (e : H a = some (.lst xs)) : Kd K H (.ref a) "list"
  | tup {a : Addr} {xs : List V} (e : SqT K H a xs) : Kd K H (.ref a) "tuple"
  | dic {a : Addr} {kvs : List (Key × V)} (e : H a = some (.dK kvs)) : Kd K H (.ref a) "dict"
/-- is_whole of a value -/
def isW : V → Bool
  | .int _ => true
  | _ => false
section
variable {X : Cx} {pins : List (Addr × Obj)} {σ : L2.St} {H : Hp} {s : Shared}
theorem Kd.kit {x : V} {u : Value} {T : String} {h2 : Heap} (k : Kd X.K H x T) (I : Inv X pins σ H s) (r : RelV x u) (keep : ∀ b o, H b ≠ none ∨ (∃ o, X.K.lookup b = some o) → (∀ xs, o.data ≠ .fields xs) → s.heap.get? b = some o → h2.get? b = some o) :
    ∃ P : Heap → Prop, PySem.W.KitX X.K u (.type T) P ∧ P h2 ∧ (∀ h3 : Heap, (∀ b o, h2.get? b = some o → h3.get? b = some o) → P h3) ∧ u ≠ .builtin "__main__.__loader__#opaque" := by
  cases k with
  | non => cases (show u = Value.none from r); exact ⟨_, PySem.W.kitx_none, True.intro, fun _ _ => True.intro, fun z => nomatch z⟩
  | bl b => cases (show u = Value.bool b from r); exact ⟨_, PySem.W.kitx_bool, True.intro, fun _ _ => True.intro, fun z => nomatch z⟩
  | int i => obtain ⟨t, q⟩ := (show ∃ t, u = Value.int i t from r); cases q; exact ⟨_, PySem.W.kitx_int, True.intro, fun _ _ => True.intro, fun z => nomatch z⟩
  | str i => obtain ⟨t, q⟩ := (show ∃ t, u = Value.str i t from r); cases q; exact ⟨_, PySem.W.kitx_str, True.intro, fun _ _ => True.intro, fun z => nomatch z⟩
  | @lst a xs e =>
    cases (show u = Value.ref a from r)
    obtain ⟨_, _, n, _, h1⟩ := (show ObjOk X.prog X.w H s.heap a (.lst xs) from I.hok a _ e)
    have q := keep a _ (.inl (by rw [e]; exact fun z => nomatch z)) (by intro xs z; cases z) h1
    exact ⟨_, PySem.W.kitx_list, ⟨_, q, rfl⟩, fun h3 k => ⟨_, k _ _ q, rfl⟩, fun z => nomatch z⟩
  | @tup a xs e =>
    cases (show u = Value.ref a from r)
    obtain ⟨its, _, ⟨o, h1, h2, n, h3⟩, _⟩ := I.tuple e
    have q := keep a o ?_ (fun _ z => by rw [h3] at z; cases z) h1
    exact ⟨_, PySem.W.kitx_tuple, ⟨o, q, h2⟩, fun h3 k => ⟨_, k _ _ q, h2⟩, fun z => nomatch z⟩
    rcases e with (e | ⟨_, e⟩) | ⟨o, _, _, e, _⟩
    · exact .inl (by rw [e]; exact fun z => nomatch z)
    · exact .inl (by rw [e]; exact fun z => nomatch z)
    · exact .inr ⟨o, e⟩
  | @dic a kvs e =>
    cases (show u = Value.ref a from r)
    obtain ⟨_, _, vs, _, o, es, ep, h1, h2, h3⟩ := (show ObjOk X.prog X.w H s.heap a (.dK kvs) from I.hok a _ e)
    have q := keep a o (.inl (by rw [e]; exact fun z => nomatch z)) (fun _ z => by rw [h3.1] at z; cases z) h1
    exact ⟨_, PySem.W.kitx_dict, ⟨o, q, h2.1⟩, fun h3 k => ⟨_, k _ _ q, h2.1⟩, fun z => nomatch z⟩
end
/-- what a kind is among int, bool, tuple, list -/
def isI : V → Bool
  | .int _ => true
  | .bl _ => true
  | _ => false
def isB : V → Bool
  | .bl _ => true
  | _ => false
theorem isW_eq (x : V) : isW x = (isI x && !isB x) := by cases x <;> rfl
theorem kd_int {K : PySem.W.Frag} {H : Hp} {x : V} {T : String} (k : Kd K H x T) : PySem.W.kitOne K (.type T) (.type "int") = some (isI x) := by
  cases k <;> first | exact kit_ty (r := true) (by decide +kernel) | exact kit_ty (r := false) (by decide +kernel)
theorem kd_bool {K : PySem.W.Frag} {H : Hp} {x : V} {T : String} (k : Kd K H x T) : PySem.W.kitOne K (.type T) (.type "bool") = some (isB x) := by
  cases k <;> first | exact kit_ty (r := true) (by decide +kernel) | exact kit_ty (r := false) (by decide +kernel)
theorem kd_tuple {K : PySem.W.Frag} {H : Hp} {x : V} {T : String} (k : Kd K H x T) : PySem.W.kitOne K (.type T) (.type "tuple") = some (decide (T = "tuple")) := by
  cases k <;> first | exact kit_ty (r := true) (by decide +kernel) | exact kit_ty (r := false) (by decide +kernel)
theorem kd_list {K : PySem.W.Frag} {H : Hp} {x : V} {T : String} (k : Kd K H x T) : PySem.W.kitOne K (.type T) (.type "list") = some (decide (T = "list")) := by
  cases k <;> first | exact kit_ty (r := true) (by decide +kernel) | exact kit_ty (r := false) (by decide +kernel)
theorem Kd.ty {K : PySem.W.Frag} {H : Hp} {x : V} {T : String} (k : Kd K H x T) : TyX K H x (.type T) := by
  cases k with
  | non => exact .base .non
  | bl b => exact .base (.bl b)
  | int i => exact .base (.int i)
  | str i => exact .base (.str i)
  | lst e => exact .base (.lst e)
  | dic e => exact .base (.dK e)
  | tup e =>
    rcases e with (e | ⟨_, e⟩) | ⟨o, its, n, e, c, _⟩
    · exact .base (.tup e)
    · exact .fTuple e
    · exact .kTuple e c
end MM
namespace MM
open PySem PySem.Spec PyProof.Rows L2 GxR
/-! ### a call within a generator: the frames around it are not known, so the callee is walked by the machine's own rules -/
section
variable {prog : Program} {w : World} {A : Around} {E : Value → Shared → Prop} {s : Shared} {K : PySem.W.Frag} {mg : Str → Option Value} {env : Env}
/-- what a body at the machine's own level knows of the module -/
structure Lo (K : PySem.W.Frag) (mg : Str → Option Value) (env : Env) (h : Heap) : Prop where
  kin : K.In h
  glob : h.Ns mainGlobals mg
  blt : ∃ mb, h.Ns builtinsNs mb ∧ ∀ x : Str, x ≠ "__name__" → mb x = bootBuiltins x
  lim : h.NoLimit
  kind : env.scope.kind = .function
  eg : env.globals = mainGlobals
  eb : env.builtins = builtinsNs
theorem Lo.keeps {h h' : Heap} (L : Lo K mg env h) (k : ∀ b o, h.get? b = some o → h'.get? b = some o) : Lo K mg env h' :=
  ⟨L.kin.keeps k, L.glob.keeps k, let ⟨mb, a, b⟩ := L.blt; ⟨mb, a.keeps k, b⟩, L.lim.keeps k, L.kind, L.eg, L.eb⟩
theorem lo_glob {x : Str} {u : Value} {pos : Pos} {Q : Value → Shared → Prop} (L : Lo K mg env s.heap) (hg : env.kindOf x = some .globalImplicit) (hm : mg x = some u) (h : Q u s) (hd : (x == ("__debug__" : Str)) = false := by decide) :
    wpAny (model prog w) A (eval (.Name x pos) env) Q E s := Calls.Name_function_global L.kind hg (Calls.loadGlobal_global (by rw [L.eg]; exact L.glob) hm h) hd
theorem lo_blt {x : Str} {u : Value} {pos : Pos} {Q : Value → Shared → Prop} (L : Lo K mg env s.heap) (hg : env.kindOf x = some .globalImplicit) (hm : mg x = none) (hv : bootBuiltins x = some u) (h : Q u s) (hn : x ≠ "__name__" := by decide) (hd : (x == ("__debug__" : Str)) = false := by decide) :
    wpAny (model prog w) A (eval (.Name x pos) env) Q E s := by
  obtain ⟨mb, h1, h2⟩ := L.blt
  exact Calls.Name_function_global L.kind hg (Calls.loadGlobal_builtin (by rw [L.eg]; exact L.glob) hm (by rw [L.eb]; exact h1) ((h2 x hn).trans hv) h) hd
theorem lo_loc {x : Str} {u : Value} {pos : Pos} {m : Str → Option Value} {Q : Value → Shared → Prop} (hk : env.scope.kind = .function) (hl : env.kindOf x = some .local) (hn : s.heap.Ns env.locals m) (hm : m x = some u) (h : Q u s) (hd : (x == ("__debug__" : Str)) = false := by decide) :
    wpAny (model prog w) A (eval (.Name x pos) env) Q E s := wpAny_Name (wpAny_loadName_local hk hl hn hm h) hd
/-- isinstance(x, T), x a name of the frame, T a built-in class -/
theorem lo_isi {x T : Str} {Ts : String} {p1 p2 p3 pos : Pos} {m : Str → Option Value} {u : Value} {t : String} {Pk : Heap → Prop} {b : Bool} {Q : Value → Shared → Prop} (L : Lo K mg env s.heap) (hl : env.kindOf x = some .local) (hn : s.heap.Ns env.locals m) (hm : m x = some u)
    (hg : env.kindOf "isinstance" = some .globalImplicit) (hgT : env.kindOf T = some .globalImplicit) (mi : mg "isinstance" = none) (mT : mg T = none) (bT : bootBuiltins T = some (.type Ts))
    (Z : PySem.W.KitX K u (.type t) Pk) (pk : Pk s.heap) (e : PySem.W.kitOne K (.type t) (.type Ts) = some b) (hx : u ≠ .builtin "__main__.__loader__#opaque") (h : ∀ tk, Q (.bool b) { s with toks := tk })
    (hd : (x == ("__debug__" : Str)) = false := by decide) (hdT : (T == ("__debug__" : Str)) = false := by decide) (hnT : T ≠ "__name__" := by decide)
    (he : starEach [.Name x p2, .Name T p3] env = (false, eval (.Name x p2) env) :: starEach [.Name T p3] env := by rfl) (he2 : starEach [.Name T p3] env = (false, eval (.Name T p3) env) :: starEach [] env := by rfl) (hpl : (backTo pos (starEach [.Name T p3] env)).any (·.1) = false := by rfl) :
    wpAny (model prog w) A (eval (.Call (.Name "isinstance" p1) [.Name x p2, .Name T p3] [] pos) env) Q E s := by
  refine wpAny_Call_Name_kw (lo_blt L hg mi (u := .builtin "isinstance") (by decide +kernel) ?_)
  refine PyProof.Rows.callWith_builtin1 ?_ he hpl
  rw [he]
  show wpAny _ _ (spliced ((false, eval (.Name x p2) env) :: backTo pos (starEach [.Name T p3] env))) _ _ s
  refine Calls.spliced_cons (lo_loc L.kind hl hn hm ?_ hd)
  rw [he2]
  show wpAny _ _ (spliced ((false, _) :: backTo pos (starEach [] env))) _ _ s
  refine Calls.spliced_cons (lo_blt L hgT mT bT (Calls.spliced_nil ?_) hnT hdT)
  exact PySem.W.kia_one Z L.kin pk e hx h
/-- a frame's state goes on -/
theorem keeps_of {s s' : Shared} {h : Heap} {tk : Nat} (e : s' = { s with heap := h, toks := tk }) (k : ∀ b o, s.heap.get? b = some o → h.get? b = some o) : Keeps s s' := ⟨h, tk, e, k⟩
/-- is_whole's text -/
def wholeBody (p0 p1 p2 p3 p4 p5 p6 p7 p8 p9 p10 p11 : Pos) : List Stmt := [.Return (some (.BoolOp .And [.Call (.Name "isinstance" p0) [.Name "thing" p1, .Name "int" p2] [] p3, .UnaryOp .Not (.Call (.Name "isinstance" p4) [.Name "thing" p5, .Name "bool" p6] [] p7) p8] p9)) p10]
/-- the callee, at any depth -/
theorem lo_whole {f : Addr} {fd : FuncData} {st : Stmt} {u : Value} {t : String} {Pk : Heap → Prop} {x : V} {H : Hp} {Q : Value → Shared → Prop} {env : Env} (F : FnP K "is_whole" st f fd) (L : Lo K mg env s.heap) (hroom : A.depth < recursionLimit)
    (mi : mg "isinstance" = none) (m1 : mg "int" = none) (m2 : mg "bool" = none)
    (hs : (defScope st) = { kind := .function, names := [(Str.ofString "thing", .local), (Str.ofString "isinstance", .globalImplicit), (Str.ofString "int", .globalImplicit), (Str.ofString "bool", .globalImplicit)], isGenerator := false, isCoroutine := false, more := [] })
    (hb : ∃ p0 p1 p2 p3 p4 p5 p6 p7 p8 p9 p10 p11, defBody st = wholeBody p0 p1 p2 p3 p4 p5 p6 p7 p8 p9 p10 p11)
    (hbind : ∀ (kV doc pm : Value) (an : Option Addr) (cdv ct : Value) (us : List Value), us.length = 1 → bindArgs (PySem.W.fnOf "is_whole" "is_whole" (defArgs st) (defBody st) (defScope st) .none kV doc pm an cdv ct) ⟨us, []⟩ = pure ((["thing"] : List Str).zip us))
    (k : Kd K H x t) (Z : PySem.W.KitX K u (.type t) Pk) (pk : Pk s.heap) (pkm : ∀ h' : Heap, (∀ b o, s.heap.get? b = some o → h'.get? b = some o) → Pk h') (hx : u ≠ .builtin "__main__.__loader__#opaque") (h : ∀ s', Keeps s s' → Q (.bool (isW x)) s') :
    wpAny (model prog w) A (call (.ref f) [u]) Q E s := by
  have b := F.bindsN (ps := ["thing"]) hbind
  obtain ⟨oc, od, dV, kV, doc, pm, an, cdv, ct, osl, rfl, lk, hcd, _, _⟩ := F.ex
  have hbu := b s [u] L.kin rfl
  obtain ⟨p0, p1, p2, p3, p4, p5, p6, p7, p8, p9, p10, p11, hb⟩ := hb
  refine wpAny_call (Att.call_fn L.kin L.lim lk hcd hroom hbu (by rw [hs]; rfl) (fun s1 IC => ?_) (by rw [hs]) (by rw [hs]) (by rw [hs]))
  obtain ⟨h1, tk1, e1, k1⟩ := IC.done
  have hn := IC.toInCall.ns
  have k1' := IC.toInCall.keep
  rw [hb]
  have sc : (envOfC "is_whole" (defScope st) s.heap.objs.size f cdv).scope = defScope st := rfl
  have ko : ∀ y, (envOfC "is_whole" (defScope st) s.heap.objs.size f cdv).kindOf y = (defScope st).names.lookup y := fun _ => rfl
  have L1 : Lo K mg (envOfC "is_whole" (defScope st) s.heap.objs.size f cdv) s1.heap := ⟨L.kin.keeps k1', L.glob.keeps k1', let ⟨mb, a, b⟩ := L.blt; ⟨mb, a.keeps k1', b⟩, L.lim.keeps k1', by rw [sc, hs], rfl, rfl⟩
  have kk : ∀ y, (envOfC "is_whole" (defScope st) s.heap.objs.size f cdv).kindOf y = ([(Str.ofString "thing", NameKind.local), (Str.ofString "isinstance", .globalImplicit), (Str.ofString "int", .globalImplicit), (Str.ofString "bool", .globalImplicit)] : List (Str × NameKind)).lookup y := fun y => by rw [ko, hs]
  have hm : bindL (envOfC "is_whole" (defScope st) s.heap.objs.size f cdv).kindOf ((["thing"] : List Str).zip ([u] ++ [])) (fun _ => none) "thing" = some u := bindL_get (P := ["thing"]) (vs := [u]) (i := 0) (by decide) rfl rfl (by rw [kk]; rfl)
  show wpAny _ _ (execs [_] _) _ _ s1
  refine wpAny_execs_cons (wpAny_Return_some (BoolOp_and (lo_isi L1 (by rw [kk]; rfl) hn hm (by rw [kk]; rfl) (by rw [kk]; rfl) mi m1 (Ts := "int") (by decide +kernel) Z (pkm _ k1') (kd_int k) hx fun tk => wpAny_truthy_bool ?_)))
  have fin : ∀ (b : Bool) tk', Q (.bool b) { s1 with toks := tk' } ↔ Q (.bool b) { s1 with toks := tk' } := fun _ _ => Iff.rfl
  cases hI : isI x with
  | false =>
    refine (show Q (.bool false) { s1 with toks := tk } from ?_)
    have e : isW x = false := by rw [isW_eq, hI]; rfl
    rw [← e]; exact h _ (keeps_of (h := h1) (tk := tk) (by rw [e1]) k1)
  | true =>
    refine BoolOp_one (UnaryOp_ (lo_isi (s := { s1 with toks := tk }) L1 (by rw [kk]; rfl) hn hm (by rw [kk]; rfl) (by rw [kk]; rfl) mi m2 (Ts := "bool") (by decide +kernel) Z (pkm _ k1') (kd_bool k) hx fun tk2 => not_of (wpAny_truthy_bool ?_)))
    have e : isW x = !isB x := by rw [isW_eq, hI]; rfl
    show Q (.bool (!isB x)) { s1 with toks := tk2 }
    rw [← e]; exact h _ (keeps_of (h := h1) (tk := tk2) (by rw [e1]) k1)
end
end MM
namespace MM
open PySem PySem.Spec PyProof.Rows L2 GxR
theorem nofree_gen {l : List (Str × NameKind)} (h : (l.all fun y => y.2 != .free) = true) : ∀ y ∈ l, y.2 = .free → False := fun y hy e => by
  have := List.all_eq_true.mp h y hy; rw [e] at this; exact absurd this (by decide)
section
variable {X : Cx}
/-- what a generator's frame knows of the module -/
theorem GenIn.lo {P : Addr} {scope : Scope} {pins : List (Addr × Obj)} {σ : L2.St} {H1 : Hp} {s1 s2 : Shared} {cenv : Env} (G : GenIn X P scope s1 cenv s2) (I : Inv X pins σ H1 s1) (hP : H1 P ≠ none) (hk : scope.kind = .function) : Lo X.K X.mg cenv s2.heap := by
  have kb : ∀ b o, X.base.get? b = some o → s2.heap.get? b = some o := fun b o e => by
    obtain ⟨e1, e2⟩ := I.bs b o e
    exact G.keep b o (fun z => hP (by rw [← z]; exact e2)) e1
  obtain ⟨mb, b1, b2⟩ := I.mod.blt
  exact ⟨I.mod.kin.keeps kb, I.mod.glob.keeps kb, ⟨mb, b1.keeps kb, b2⟩, G.lim, by rw [G.sco]; exact hk, by rw [G.glob]; exact I.ok.glob, G.blt⟩
/-- the table is no object of the written part, no list, no tuple .. -/
theorem tab_ne {P : Addr} {pins : List (Addr × Obj)} {σ : L2.St} {H1 : Hp} {s1 : Shared} {ps : Array Value} (I : Inv X pins σ H1 s1) (hP : H1 P = some (.tbl ps)) {b : Addr} {o : Obj} (e : s1.heap.get? b = some o) (n : ∀ xs, o.data ≠ .fields xs) : b ≠ P := fun z => by
  have q : s1.heap.get? P = some { cls := .none, data := .fields ps } := I.hok P _ hP
  rw [z, q] at e; cases e; exact n ps rfl
def okKd (X : Cx) : L2.St → Hp → V → Prop := fun _ H v => ∃ T, Kd X.K H v T
/-- is_whole(x) of the generator's name -/
theorem elt_whole {P f : Addr} {fd : FuncData} {st : Stmt} {scope : Scope} {y : Str} {p1 p2 pos : Pos} {k : Nat} (F : FnP X.K "is_whole" st f fd) (hr : Room k X.A)
    (g : X.mg "is_whole" = some (.ref f)) (mi : X.mg "isinstance" = none) (m1 : X.mg "int" = none) (m2 : X.mg "bool" = none)
    (hs : (defScope st) = { kind := .function, names := [(Str.ofString "thing", .local), (Str.ofString "isinstance", .globalImplicit), (Str.ofString "int", .globalImplicit), (Str.ofString "bool", .globalImplicit)], isGenerator := false, isCoroutine := false, more := [] })
    (hb : ∃ p0 p1 p2 p3 p4 p5 p6 p7 p8 p9 p10 p11, defBody st = wholeBody p0 p1 p2 p3 p4 p5 p6 p7 p8 p9 p10 p11)
    (hbind : ∀ (kV doc pm : Value) (an : Option Addr) (cdv ct : Value) (us : List Value), us.length = 1 → bindArgs (PySem.W.fnOf "is_whole" "is_whole" (defArgs st) (defBody st) (defScope st) .none kV doc pm an cdv ct) ⟨us, []⟩ = pure ((["thing"] : List Str).zip us))
    (sk : scope.kind = .function) (sy : scope.names.lookup y = some .local) (sg : scope.names.lookup ("is_whole" : Str) = some .globalImplicit) (hd : (y == ("__debug__" : Str)) = false := by decide) :
    EltT X P scope y (.Call (.Name "is_whole" p1) [.Name y p2] [] pos) (okKd X) fun _ v => isW v := by
  intro pins σ H1 s1 I cenv A' E' v u s2 mm G ⟨ps, hPt, _⟩ hA hD hU rv ⟨T, kd⟩ hn hm
  have hP : H1 P ≠ none := by rw [hPt]; exact fun z => nomatch z
  have L := G.lo I hP sk
  have kk : ∀ z, cenv.kindOf z = scope.names.lookup z := fun z => by show cenv.scope.names.lookup z = _; rw [G.sco]
  obtain ⟨Pk, Z, pk, pkm, hx⟩ := kd.kit (h2 := s2.heap) I rv fun b o _ n e => G.keep b o (tab_ne I hPt e n) e
  have he : starEach [.Name y p2] cenv = (false, eval (.Name y p2) cenv) :: starEach [] cenv := rfl
  refine wpAny_Call_Name_kw (lo_glob L (by rw [kk]; exact sg) g ?_)
  refine PySem.W.callWith_K (h₀ := s2.heap) L.kin F.kp ?_ he rfl
  rw [he]
  show wpAny _ _ (spliced ((false, _) :: backTo pos (starEach [] cenv))) _ _ s2
  refine Calls.spliced_cons (lo_loc L.kind (by rw [kk]; exact sy) hn hm (Calls.spliced_nil ⟨L.kin, ?_⟩) hd)
  exact lo_whole F L (by have := hr.dp; omega) mi m1 m2 hs hb hbind kd Z pk pkm hx fun s' K' => ⟨rfl, K'⟩
end
end MM
/-! the layer's rules, the written part named (so that a block's context does not stand in a reading) -/
namespace MM
open PySem PySem.Spec PyProof.Rows L2 GxR
section
variable {X : Cx} {K : PySem.W.Frag} {e o a : Expr} {es : List Expr} {te to ta : TE} {t : TA} {T id : String} {name : Str} {r : V → List V → Hp → VK → Prop} {apos cpos pos p p2 : Pos}
theorem k_bm (hK : X.K = K) (pa : PlainAttrs T) (slot : Slot T name id) (hty : typeOf (.builtin id) = pure (.type "method_descriptor")) (hm : MtR X id r) (ho : PE X o to) (ha : PA X (e :: es) t) (hbase : attributeBase o name X.env (eval o X.env) = eval o X.env := by rfl)
    (hfew : ((backTo cpos (starEach (e :: es) X.env)).all (fun x => !x.1) && (backToKw cpos (keywordEach [] X.env)).all (fun x => x.1.isSome) && decide ((e :: es).length + ([] : List Keyword).length + (if ([] : List Keyword).isEmpty then 0 else 1) < 30)) = true := by rfl)
    (hline : (apos.endLine == cpos.line) = true := by rfl) (hs : starEach (e :: es) X.env = (false, eval e X.env) :: starEach es X.env := by rfl) (hplain : (backTo cpos (starEach es X.env)).any (·.1) = false := by rfl) : PE X (.Call (.Attribute o name apos) (e :: es) [] cpos) (tBM K T r to t) := hK ▸ pe_bm pa slot hty hm ho ha hbase hfew hline hs hplain
theorem k_bm0 (hK : X.K = K) (h : PE X (.Call (.Attribute o name apos) [] [] cpos) (tBM0 X.K T r to)) : PE X (.Call (.Attribute o name apos) [] [] cpos) (tBM0 K T r to) := hK ▸ h
theorem k_ixl (hK : X.K = K) : IxR X (rIxL K) := hK ▸ ix_list
theorem k_ixt (hK : X.K = K) : IxR X (rIxT K) := hK ▸ ix_tup
def rLenK (K : PySem.W.Frag) : List V → Hp → VK → Prop := fun xs H Q => ∃ p ys, xs = [.ref p] ∧ (SqL K H p ys ∨ SqT K H p ys) ∧ Q (.int ys.length) H
theorem k_len (hK : X.K = K) : CallR X (.builtin "len") (rLenK K) := hK ▸ call_len_seq
theorem k_eq (hK : X.K = K) (hu : X.A.units + 64 < cLine) : OpR X (compareOp .Eq) (rEqD K) := hK ▸ op_eqD hu
theorem k_ne (hK : X.K = K) (hu : X.A.units + 64 < cLine) : OpR X (compareOp .NotEq) (rNeD K) := hK ▸ op_neD hu
theorem k_isi (hK : X.K = K) : CallR X (.builtin "isinstance") (rIsi K) := hK ▸ call_isi
theorem k_repr (hK : X.K = K) (hG : X.A.guards = some []) (hu : X.A.units + 64 < cLine) : CallR X (.builtin "repr") (rReprD K) := hK ▸ call_reprD hG hu
theorem k_sortT (hK : X.K = K) : CallR X (.builtin "sorted") (rSortedTup K) := hK ▸ cr_sortedTup
theorem k_sortL (hK : X.K = K) : CallR X (.builtin "sorted") (rSortedI K) := hK ▸ cr_sortedI
theorem k_sum (hK : X.K = K) (hc : X.calm = true) : CallR X (.builtin "sum") (rSum K) := hK ▸ cr_sum hc
theorem k_all (hK : X.K = K) (hc : X.calm = true) : CallR X (.builtin "all") (rAll K) := hK ▸ cr_all hc
theorem k_any (hK : X.K = K) (hc : X.calm = true) : CallR X (.builtin "any") (rAny K) := hK ▸ cr_any hc
theorem k_in (hK : X.K = K) : OpR X (compareOp .In) (rIn K false) := hK ▸ op_in_seq
theorem k_notIn (hK : X.K = K) : OpR X (compareOp .NotIn) (rIn K true) := hK ▸ op_notIn_seq
theorem k_index (hK : X.K = K) : MtR X "list.index" (rIndex K) := hK ▸ mt_index
theorem k_sll (hK : X.K = K) : SlR X (rSlL K) := hK ▸ sl_list
theorem k_revT {k : Nat} {p1 p2 p3 pos : Pos} (hK : X.K = K) (he : PE X e te) : PE X (.Subscript e (.Slice none none (some (.UnaryOp .USub (.Constant (.int 1) k p1) p2)) p3) pos) (tRevT K te) := hK ▸ pe_revT he
theorem k_revL {k : Nat} {p1 p2 p3 pos : Pos} (hK : X.K = K) (he : PE X e te) : PE X (.Subscript e (.Slice none none (some (.UnaryOp .USub (.Constant (.int 1) k p1) p2)) p3) pos) (tRevL K te) := hK ▸ pe_revL he
theorem k_piL {tg l : Expr} {tl : TE} (hK : X.K = K) (hl : PE X l tl) : PI X tg l (iList K tl) := hK ▸ pi_list hl
theorem k_piT {tg l : Expr} {tl : TE} (hK : X.K = K) (hl : PE X l tl) : PI X tg l (iTup K tl) := hK ▸ pi_tup hl
theorem k_piE {elts : List Expr} {kk : Nat} {tpos : Pos} (hK : X.K = K) (h : PI X (.Tuple elts kk tpos) a (iEnum X.K t)) : PI X (.Tuple elts kk tpos) a (iEnum K t) := hK ▸ h
theorem k_piZ {elts : List Expr} {kk : Nat} {tpos : Pos} (hK : X.K = K) (h : PI X (.Tuple elts kk tpos) a (iZip X.K t)) : PI X (.Tuple elts kk tpos) a (iZip K t) := hK ▸ h
theorem k_piZA {elts : List Expr} {kk : Nat} {tpos : Pos} (hK : X.K = K) (h : PI X (.Tuple elts kk tpos) a (RZ.iZipA X.K t)) : PI X (.Tuple elts kk tpos) a (RZ.iZipA K t) := hK ▸ h
theorem k_tup {tgs : List Expr} {k n : Nat} {u : TGs} (hK : X.K = K) (h : PG X (.Tuple tgs k pos) (gTup X.K n u)) : PG X (.Tuple tgs k pos) (gTup K n u) := hK ▸ h
def rListOf (K : PySem.W.Frag) : List V → Hp → VK → Prop := fun xs H Q => ∃ p ys, xs = [.ref p] ∧ (SqL K H p ys ∨ SqT K H p ys) ∧ ∀ l, H l = none → Q (.ref l) (upd H l (.lst ys))
theorem k_listOf (hK : X.K = K) : CallR X (.type "list") (rListOf K) := hK ▸ call_list_of
/-! ### tuples: a new one, or the very same -/
def rSlE (K : PySem.W.Frag) : V → Option Int → Option Int → Hp → VK → Prop := fun x lo hi H Q => ∃ a xs, x = .ref a ∧ SqT K H a xs ∧ ∀ p H', Ex H H' → SqT K H' p (cutV xs lo hi) → Q (.ref p) H'
theorem k_slt (hK : X.K = K) : SlR X (rSlE K) := by
  subst hK
  intro pins s σ H x v vl vu lo hi sl Q I rx hs pl pu ⟨a, xs, ex, hT, q⟩
  refine sl_tupA pins s σ H x v vl vu lo hi sl Q I rx hs pl pu ⟨a, xs, ex, hT, fun hw => ?_, fun hw p np => q p _ (ex_new np) (SqT.of upd_same)⟩
  have e : cutV xs lo hi = xs := by unfold cutV; rw [hw.1, hw.2]; simp
  exact q a H ExB.refl (by rw [e]; exact hT)
def rCatE (K : PySem.W.Frag) : R2 := fun x y H Q => ∃ a b xs ys, x = .ref a ∧ y = .ref b ∧ SqT K H a xs ∧ SqT K H b ys ∧ xs.length + ys.length ≤ sizeLine ∧ ∀ p H', Ex H H' → SqT K H' p (xs ++ ys) → Q (.ref p) H'
theorem k_catT (hK : X.K = K) : OpR X (binaryOp .Add) (rCatE K) := by
  subst hK
  intro pins s σ H x y v u Q I rx ry ⟨a, b, xs, ys, ex, ey, hT, hT2, hz, q⟩
  refine op_catA pins s σ H x y v u Q I rx ry ⟨a, b, xs, ys, ex, ey, hT, hT2, hz, fun e => ?_, fun _ e => ?_, fun _ _ p np => q p _ (ex_new np) (SqT.of upd_same)⟩
  · subst e; exact q b H ExB.refl hT2
  · subst e; exact q a H ExB.refl (by rw [List.append_nil]; exact hT)
def tTupE (K : PySem.W.Frag) (te : TE) : TE := fun σ H Q => te σ H fun x H1 => ∃ p xs, x = .ref p ∧ ((SqL K H1 p xs ∧ ∀ q H', Ex H1 H' → H1 q = none → H' q = some (.tup xs) → Q (.ref q) H') ∨ (SqT K H1 p xs ∧ Q (.ref p) H1))
theorem k_tupOf {p pos : Pos} (hK : X.K = K) (hg : Gl X "tuple") (hm : X.mg "tuple" = none) (ha : PE X a ta) (na : starEach [a] X.env = (false, eval a X.env) :: starEach [] X.env := by rfl) : PE X (.Call (.Name "tuple" p) [a] [] pos) (tTupE K ta) := by
  subst hK
  refine ⟨fun pins s σ H Q I h => Call_ (ld_blt I hg hm boot_tuple (PyProof.Rows.callWith_type1 (one_arg ha I h (fun v s2 x H2 I2 r q => ?_) na) na))⟩
  obtain ⟨p, xs, ex, q⟩ := q
  refine rl_tuple pins s2 σ H2 x v Q I2 r ?_
  rcases q with ⟨h1, q⟩ | ⟨h1, q⟩
  · exact .inl ⟨p, xs, ex, h1, fun z nz => q z _ (ex_new nz) nz upd_same⟩
  · exact .inr ⟨p, xs, ex, h1, by rw [← ex] at *; first | exact q | (rw [ex]; exact q)⟩
end
end MM
namespace MM
open PySem PySem.Spec PyProof.Rows L2 GxR
/-! ### is_gap(x, many) within a generator -/
def gapV (m : Int) : V → Bool
  | .int i => decide (0 ≤ i ∧ i ≤ m - 2)
  | _ => false
theorem gapV_isW {m : Int} {x : V} (h : isW x = false) : gapV m x = false := by
  cases x <;> first | rfl | cases h
theorem isW_int {x : V} (h : isW x = true) : ∃ i, x = .int i := by
  cases x <;> first | exact ⟨_, rfl⟩ | cases h
section
variable {prog : Program} {w : World} {A : Around} {E : Value → Shared → Prop} {s : Shared} {K : PySem.W.Frag} {mg : Str → Option Value} {env : Env}
def gapBody (p0 p1 p2 p3 p4 p5 p6 p7 p8 p9 p10 : Pos) : List Stmt := [.Return (some (.BoolOp .And [.Call (.Name "is_whole" p0) [.Name "thing" p1] [] p2, .Compare (.Constant (.int 0) 0 p3) [.LtE, .LtE] [.Name "thing" p4, .BinOp (.Name "many" p5) .Sub (.Constant (.int 2) 0 p6) p7] p8] p9)) p10]
theorem lo_gap {f fW : Addr} {fd fdW : FuncData} {st stW : Stmt} {u : Value} {t : String} {Pk : Heap → Prop} {x : V} {m : Int} {tk : Tok} {H : Hp} {Q : Value → Shared → Prop} {env : Env} (F : FnP K "is_gap" st f fd) (FW : FnP K "is_whole" stW fW fdW) (gW : mg "is_whole" = some (.ref fW)) (L : Lo K mg env s.heap) (hroom : A.depth + 1 < recursionLimit)
    (mi : mg "isinstance" = none) (m1 : mg "int" = none) (m2 : mg "bool" = none)
    (hs : (defScope st) = { kind := .function, names := [(Str.ofString "thing", .local), (Str.ofString "many", .local), (Str.ofString "is_whole", .globalImplicit)], isGenerator := false, isCoroutine := false, more := [] })
    (hb : ∃ p0 p1 p2 p3 p4 p5 p6 p7 p8 p9 p10, defBody st = gapBody p0 p1 p2 p3 p4 p5 p6 p7 p8 p9 p10)
    (hbind : ∀ (kV doc pm : Value) (an : Option Addr) (cdv ct : Value) (us : List Value), us.length = 2 → bindArgs (PySem.W.fnOf "is_gap" "is_gap" (defArgs st) (defBody st) (defScope st) .none kV doc pm an cdv ct) ⟨us, []⟩ = pure ((["thing", "many"] : List Str).zip us))
    (hsW : (defScope stW) = { kind := .function, names := [(Str.ofString "thing", .local), (Str.ofString "isinstance", .globalImplicit), (Str.ofString "int", .globalImplicit), (Str.ofString "bool", .globalImplicit)], isGenerator := false, isCoroutine := false, more := [] })
    (hbW : ∃ p0 p1 p2 p3 p4 p5 p6 p7 p8 p9 p10 p11, defBody stW = wholeBody p0 p1 p2 p3 p4 p5 p6 p7 p8 p9 p10 p11)
    (hbindW : ∀ (kV doc pm : Value) (an : Option Addr) (cdv ct : Value) (us : List Value), us.length = 1 → bindArgs (PySem.W.fnOf "is_whole" "is_whole" (defArgs stW) (defBody stW) (defScope stW) .none kV doc pm an cdv ct) ⟨us, []⟩ = pure ((["thing"] : List Str).zip us))
    (k : Kd K H x t) (rv : RelV x u) (Z : PySem.W.KitX K u (.type t) Pk) (pk : Pk s.heap) (pkm : ∀ h' : Heap, (∀ b o, s.heap.get? b = some o → h'.get? b = some o) → Pk h') (hx : u ≠ .builtin "__main__.__loader__#opaque") (h : ∀ s', Keeps s s' → Q (.bool (gapV m x)) s') :
    wpAny (model prog w) A (call (.ref f) [u, .int m tk]) Q E s := by
  have b := F.bindsN (ps := ["thing", "many"]) hbind
  obtain ⟨oc, od, dV, kV, doc, pm, an, cdv, ct, osl, rfl, lk, hcd, _, _⟩ := F.ex
  have hbu := b s [u, .int m tk] L.kin rfl
  obtain ⟨p0, p1, p2, p3, p4, p5, p6, p7, p8, p9, p10, hb⟩ := hb
  refine wpAny_call (Att.call_fn L.kin L.lim lk hcd (by omega) hbu (by rw [hs]; rfl) (fun s1 IC => ?_) (by rw [hs]) (by rw [hs]) (by rw [hs]))
  obtain ⟨h1, tk1, e1, k1⟩ := IC.done
  have hn := IC.toInCall.ns
  have k1' := IC.toInCall.keep
  rw [hb]
  have sc : (envOfC "is_gap" (defScope st) s.heap.objs.size f cdv).scope = defScope st := rfl
  have ko : ∀ y, (envOfC "is_gap" (defScope st) s.heap.objs.size f cdv).kindOf y = (defScope st).names.lookup y := fun _ => rfl
  have L1 : Lo K mg (envOfC "is_gap" (defScope st) s.heap.objs.size f cdv) s1.heap := ⟨L.kin.keeps k1', L.glob.keeps k1', let ⟨mb, a, b⟩ := L.blt; ⟨mb, a.keeps k1', b⟩, L.lim.keeps k1', by rw [sc, hs], rfl, rfl⟩
  have kk : ∀ y, (envOfC "is_gap" (defScope st) s.heap.objs.size f cdv).kindOf y = ([(Str.ofString "thing", NameKind.local), (Str.ofString "many", .local), (Str.ofString "is_whole", .globalImplicit)] : List (Str × NameKind)).lookup y := fun y => by rw [ko, hs]
  have hm : bindL (envOfC "is_gap" (defScope st) s.heap.objs.size f cdv).kindOf ((["thing", "many"] : List Str).zip ([u, .int m tk] ++ [])) (fun _ => none) "thing" = some u := bindL_get (P := ["thing", "many"]) (vs := [u, .int m tk]) (i := 0) (by decide) rfl rfl (by rw [kk]; rfl)
  have hm2 : bindL (envOfC "is_gap" (defScope st) s.heap.objs.size f cdv).kindOf ((["thing", "many"] : List Str).zip ([u, .int m tk] ++ [])) (fun _ => none) "many" = some (.int m tk) := bindL_get (P := ["thing", "many"]) (vs := [u, .int m tk]) (i := 1) (by decide) rfl rfl (by rw [kk]; rfl)
  show wpAny _ _ (execs [_] _) _ _ s1
  have he : starEach [.Name "thing" p1] (envOfC "is_gap" (defScope st) s.heap.objs.size f cdv) = (false, eval (.Name "thing" p1) (envOfC "is_gap" (defScope st) s.heap.objs.size f cdv)) :: starEach [] (envOfC "is_gap" (defScope st) s.heap.objs.size f cdv) := rfl
  refine wpAny_execs_cons (wpAny_Return_some (BoolOp_and ?_))
  refine wpAny_Call_Name_kw (lo_glob L1 (by rw [kk]; rfl) gW ?_)
  refine PySem.W.callWith_K (h₀ := s1.heap) L1.kin FW.kp ?_ he rfl
  rw [he]
  show wpAny _ _ (spliced ((false, _) :: backTo p2 (starEach [] _))) _ _ s1
  refine Calls.spliced_cons (lo_loc L1.kind (by rw [kk]; rfl) hn hm (Calls.spliced_nil ⟨L1.kin, ?_⟩))
  refine lo_whole FW L1 (by show A.depth + 1 < recursionLimit; exact hroom) mi m1 m2 hsW hbW hbindW k Z (pkm _ k1') (fun h' k' => pkm h' fun b o e => k' b o (k1' b o e)) hx fun s2 K2 => wpAny_truthy_bool ?_
  obtain ⟨h2, tk2, e2, k2⟩ := K2
  have kall : ∀ b o, s.heap.get? b = some o → s2.heap.get? b = some o := fun b o e => by rw [e2]; exact k2 b o (k1' b o e)
  cases hI : isW x with
  | false =>
    rw [show gapV m x = false from gapV_isW hI] at h
    refine (show Q (.bool false) s2 from h _ ⟨h2, tk2, by rw [e2, e1], fun b o e => k2 b o (k1' b o e)⟩)
  | true =>
    obtain ⟨i, rfl⟩ := isW_int hI
    obtain ⟨ti, rfl⟩ : ∃ ti, u = .int i ti := rv
    have L2' : Lo K mg (envOfC "is_gap" (defScope st) s.heap.objs.size f cdv) s2.heap := L1.keeps fun b o e => by rw [e2]; exact k2 b o e
    have hn2 : s2.heap.Ns (envOfC "is_gap" (defScope st) s.heap.objs.size f cdv).locals (bindL (envOfC "is_gap" (defScope st) s.heap.objs.size f cdv).kindOf ((["thing", "many"] : List Str).zip ([.int i ti, .int m tk] ++ [])) (fun _ => none)) := by rw [e2]; exact hn.keeps k2
    refine BoolOp_one (Compare_chain (wpAny_Constant_int (chain_link (lo_loc L2'.kind (by rw [kk]; rfl) hn2 hm (le_int (wpAny_truthy_bool ?_))))) rfl)
    have fin : ∀ (b : Bool) tk', b = gapV m (.int i) → Q (.bool b) { s2 with toks := tk' } := fun b tk' e => by
      rw [e]; exact h _ ⟨h2, tk', by rw [e2, e1], fun b o e => k2 b o (k1' b o e)⟩
    by_cases h0 : (0 : Int) ≤ i
    · rw [decide_eq_true h0]
      refine ite_tt (chain_last (wpAny_BinOp (lo_loc L2'.kind (by rw [kk]; rfl) hn2 hm2 (wpAny_Constant_int (sub_int (le_int ?_))))))
      exact fin _ _ (by unfold gapV; rw [Bool.eq_iff_iff]; simp [h0])
    · rw [decide_eq_false h0]
      refine ite_ff ?_
      exact fin _ _ (by unfold gapV; rw [Bool.eq_iff_iff]; simp [h0])
/-- a name of the def's frame, seen from the generator -/
theorem cap_loc {X : Cx} {P : Addr} {scope : Scope} {pins : List (Addr × Obj)} {σ : L2.St} {H1 : Hp} {s1 s2 : Shared} {cenv : Env} {z : Str} {i : Nat} {v : V} {pos : Pos} {A' : Around} {E' : Value → Shared → Prop} {Q : Value → Shared → Prop} (G : GenIn X P scope s1 cenv s2) (I : Inv X pins σ H1 s1) (hP : ∃ ps, H1 P = some (.tbl ps)) (hk : scope.kind = .function)
    (hz : scope.names.lookup z = some .free) (hc : X.env.kindOf z = some .cell) (cl : ∀ c, X.env.cells.lookup z = some c → (cloFrom X.env.cells scope.names []).lookup z = some c) (hi : X.N[i]? = some z) (hv : σ[i]? = some (some v))
    (h : ∀ u, RelV v u → Q u s2) (hd : (z == ("__debug__" : Str)) = false := by decide) (hn : (z == ("__classdict__" : Str)) = false := by decide) : wpAny (model X.prog X.w) A' (eval (.Name z pos) cenv) Q E' s2 := by
  obtain ⟨mm, _, hl⟩ := I.loc
  obtain ⟨u, ru, hu⟩ := hl i z v hi hv (.inr (.inl hc))
  rcases hu with ⟨k1, _⟩ | ⟨_, c, hcl, hcell⟩
  · rw [hc] at k1; cases k1
  · obtain ⟨ps, hP⟩ := hP
    have cell2 : s2.heap.IsCell c (some u) := by
      obtain ⟨o, eo, ed⟩ := hcell
      exact ⟨o, G.keep c o (tab_ne I hP eo fun xs z => by rw [ed] at z; cases z) eo, ed⟩
    refine wpAny_Name (wpAny_loadName_free (c := c) (by rw [G.sco]; exact hk) (by show cenv.scope.names.lookup z = _; rw [G.sco]; exact hz) (by rw [G.cells]; exact cl c hcl) cell2 (h u ru) hn) hd
end
section
variable {X : Cx}
def gapAt (j : Nat) (σ : L2.St) (v : V) : Bool := match σ[j]? with
  | some (some (.int m)) => gapV m v
  | _ => false
/-- is_gap(x, many) of the generator's name and a name of the def -/
theorem elt_gap {P f fW : Addr} {fd fdW : FuncData} {st stW : Stmt} {scope : Scope} {y z : Str} {p1 p2 p3 pos : Pos} {k j : Nat} (F : FnP X.K "is_gap" st f fd) (FW : FnP X.K "is_whole" stW fW fdW) (hr : Room k X.A)
    (g : X.mg "is_gap" = some (.ref f)) (gW : X.mg "is_whole" = some (.ref fW)) (mi : X.mg "isinstance" = none) (m1 : X.mg "int" = none) (m2 : X.mg "bool" = none)
    (hs : (defScope st) = { kind := .function, names := [(Str.ofString "thing", .local), (Str.ofString "many", .local), (Str.ofString "is_whole", .globalImplicit)], isGenerator := false, isCoroutine := false, more := [] })
    (hb : ∃ p0 p1 p2 p3 p4 p5 p6 p7 p8 p9 p10, defBody st = gapBody p0 p1 p2 p3 p4 p5 p6 p7 p8 p9 p10)
    (hbind : ∀ (kV doc pm : Value) (an : Option Addr) (cdv ct : Value) (us : List Value), us.length = 2 → bindArgs (PySem.W.fnOf "is_gap" "is_gap" (defArgs st) (defBody st) (defScope st) .none kV doc pm an cdv ct) ⟨us, []⟩ = pure ((["thing", "many"] : List Str).zip us))
    (hsW : (defScope stW) = { kind := .function, names := [(Str.ofString "thing", .local), (Str.ofString "isinstance", .globalImplicit), (Str.ofString "int", .globalImplicit), (Str.ofString "bool", .globalImplicit)], isGenerator := false, isCoroutine := false, more := [] })
    (hbW : ∃ p0 p1 p2 p3 p4 p5 p6 p7 p8 p9 p10 p11, defBody stW = wholeBody p0 p1 p2 p3 p4 p5 p6 p7 p8 p9 p10 p11)
    (hbindW : ∀ (kV doc pm : Value) (an : Option Addr) (cdv ct : Value) (us : List Value), us.length = 1 → bindArgs (PySem.W.fnOf "is_whole" "is_whole" (defArgs stW) (defBody stW) (defScope stW) .none kV doc pm an cdv ct) ⟨us, []⟩ = pure ((["thing"] : List Str).zip us))
    (sk : scope.kind = .function) (sy : scope.names.lookup y = some .local) (sg : scope.names.lookup ("is_gap" : Str) = some .globalImplicit)
    (hz : scope.names.lookup z = some .free) (hc : X.env.kindOf z = some .cell) (cl : ∀ c, X.env.cells.lookup z = some c → (cloFrom X.env.cells scope.names []).lookup z = some c) (hj : X.N[j]? = some z)
    (hd : (y == ("__debug__" : Str)) = false := by decide) (hdz : (z == ("__debug__" : Str)) = false := by decide) (hnz : (z == ("__classdict__" : Str)) = false := by decide) :
    EltT X P scope y (.Call (.Name "is_gap" p1) [.Name y p2, .Name z p3] [] pos) (fun σ H v => (∃ T, Kd X.K H v T) ∧ ∃ m : Int, σ[j]? = some (some (.int m))) (gapAt j) := by
  intro pins σ H1 s1 I cenv A' E' v u s2 mm G ⟨ps, hPt, _⟩ hA hD hU rv ⟨⟨T, kd⟩, m, hm0⟩ hn hm
  have hP : H1 P ≠ none := by rw [hPt]; exact fun z => nomatch z
  have L := G.lo I hP sk
  have kk : ∀ z, cenv.kindOf z = scope.names.lookup z := fun z => by show cenv.scope.names.lookup z = _; rw [G.sco]
  obtain ⟨Pk, Z, pk, pkm, hx⟩ := kd.kit (h2 := s2.heap) I rv fun b o _ n e => G.keep b o (tab_ne I hPt e n) e
  have he : starEach [.Name y p2, .Name z p3] cenv = (false, eval (.Name y p2) cenv) :: starEach [.Name z p3] cenv := rfl
  have he2 : starEach [.Name z p3] cenv = (false, eval (.Name z p3) cenv) :: starEach [] cenv := rfl
  refine wpAny_Call_Name_kw (lo_glob L (by rw [kk]; exact sg) g ?_)
  refine PySem.W.callWith_K (h₀ := s2.heap) L.kin F.kp ?_ he (by rw [he2]; rfl)
  rw [he]
  show wpAny _ _ (spliced ((false, _) :: backTo pos (starEach [.Name z p3] cenv))) _ _ s2
  refine Calls.spliced_cons (lo_loc L.kind (by rw [kk]; exact sy) hn hm ?_ hd)
  rw [he2]
  show wpAny _ _ (spliced ((false, _) :: backTo pos (starEach [] cenv))) _ _ s2
  refine Calls.spliced_cons (cap_loc G I ⟨ps, hPt⟩ sk hz hc cl hj hm0 (fun um rum => Calls.spliced_nil ⟨L.kin, ?_⟩) hdz hnz)
  obtain ⟨tk, rfl⟩ : ∃ tk, um = .int m tk := rum
  have e : gapAt j σ v = gapV m v := by unfold gapAt; rw [hm0]
  rw [e]
  exact lo_gap F FW gW L (by have := hr.dp; omega) mi m1 m2 hs hb hbind hsW hbW hbindW kd rv Z pk pkm hx fun s' K' => ⟨rfl, K'⟩
end
end MM
namespace MM
open PySem PySem.Spec PyProof.Rows L2 GxR
/-! ### isinstance(x, bool) within a generator; t * k; t.index(x) -/
section
variable {X : Cx}
theorem elt_isB {P : Addr} {scope : Scope} {y : Str} {p1 p2 p3 pos : Pos} (mi : X.mg "isinstance" = none) (mb : X.mg "bool" = none)
    (sk : scope.kind = .function) (sy : scope.names.lookup y = some .local) (si : scope.names.lookup ("isinstance" : Str) = some .globalImplicit) (sb : scope.names.lookup ("bool" : Str) = some .globalImplicit) (hd : (y == ("__debug__" : Str)) = false := by decide) :
    EltT X P scope y (.Call (.Name "isinstance" p1) [.Name y p2, .Name "bool" p3] [] pos) (okKd X) fun _ v => isB v := by
  intro pins σ H1 s1 I cenv A' E' v u s2 mm G ⟨ps, hPt, _⟩ hA hD hU rv ⟨T, kd⟩ hn hm
  have hP : H1 P ≠ none := by rw [hPt]; exact fun z => nomatch z
  have L := G.lo I hP sk
  have kk : ∀ z, cenv.kindOf z = scope.names.lookup z := fun z => by show cenv.scope.names.lookup z = _; rw [G.sco]
  obtain ⟨Pk, Z, pk, pkm, hx⟩ := kd.kit (h2 := s2.heap) I rv fun b o _ n e => G.keep b o (tab_ne I hPt e n) e
  exact lo_isi L (by rw [kk]; exact sy) hn hm (by rw [kk]; exact si) (by rw [kk]; exact sb) mi mb (Ts := "bool") (by decide +kernel) Z pk (kd_bool kd) hx (fun tk => ⟨rfl, keeps_tok _ _⟩) hd
theorem free_one {l : List (Str × NameKind)} {cells : List (Str × Addr)} {z : Str} {c : Addr} (h : (l.all fun y => y.2 != .free || y.1 == z) = true) (hc : cells.lookup z = some c) : ∀ y ∈ l, y.2 = .free → ∃ c, cells.lookup y.1 = some c := fun y hy e => by
  have := List.all_eq_true.mp h y hy
  rw [e] at this
  have e2 : y.1 = z := by simpa using this
  exact ⟨c, by rw [e2]; exact hc⟩
/-- t * k of any number -/
theorem tuple_mul_same (l : Addr) (items : Array Value) (n : Nat) (dd : Option Addr) (sl : Array (Option Value)) (x : Int) (u : Tok) (c0 : (decide (x < -(2 ^ 63)) || decide (x ≥ 2 ^ 63)) = false) (c1 : (items.isEmpty || x == 1) = true) :
    Meets (Builtin.«tuple.__mul__» ⟨[.ref l, .int x u], []⟩) (fun _ R s => s.heap.get? l = some { cls := .type "tuple", dict := dd, data := .seq items n, slots := sl } ∧ R (.ok (.ret (Value.ref l))) s) :=
  .of_wp fun prog w A R s h => by
    obtain ⟨hp, g, d, tk, os⟩ := s
    obtain ⟨hl, h⟩ := h
    have f1 := AutoSeq1.idx_int
    wp_walk using wpAny_loadPart' hl
    refine wpAny_ite_false (decide_eq_false (by rw [c0]; exact Bool.false_ne_true)) ?_
    wp_walk using wpAny_loadPart' hl
    exact ⟨_, rfl, h⟩
theorem tuple_mul_nil (l : Addr) (items : Array Value) (n : Nat) (dd : Option Addr) (sl : Array (Option Value)) (x : Int) (u : Tok) (c0 : (decide (x < -(2 ^ 63)) || decide (x ≥ 2 ^ 63)) = false) (c1 : (items.isEmpty || x == 1) = false) (c2 : (decide (x ≤ 0) || items.isEmpty) = true) :
    Meets (Builtin.«tuple.__mul__» ⟨[.ref l, .int x u], []⟩) (fun _ R s => s.heap.get? l = some { cls := .type "tuple", dict := dd, data := .seq items n, slots := sl } ∧
      R (.ok (.ret (Value.ref s.heap.objs.size))) { s with heap := s.heap.push { cls := Value.type "tuple", data := Data.seq #[] }, toks := s.toks }) :=
  .of_wp fun prog w A R s h => by
    obtain ⟨hp, g, d, tk, os⟩ := s
    obtain ⟨hl, h⟩ := h
    have f1 := AutoSeq1.idx_int
    wp_walk using wpAny_loadPart' hl
    refine wpAny_ite_false (decide_eq_false (by rw [c0]; exact Bool.false_ne_true)) ?_
    wp_walk using wpAny_loadPart' hl
    exact ⟨_, rfl, h⟩
def rRepE (K : PySem.W.Frag) : R2 := fun x y H Q => ∃ l k xs, x = .ref l ∧ y = .int k ∧ H l = some (.tup xs) ∧ xs ≠ [] ∧ 0 ≤ k ∧ k ≤ 1000 ∧ xs.length ≤ 1000 ∧ ∀ p H', Ex H H' → SqT K H' p (List.replicate k.toNat xs).flatten → Q (.ref p) H'
theorem k_repT {K : PySem.W.Frag} (hK : X.K = K) : OpR X (binaryOp .Mult) (rRepE K) := by
  subst hK
  intro pins s σ H x y v u Q I rx ry h
  obtain ⟨l, k, xs, rfl, rfl, hT, hne, h1, h2, hz, q⟩ := h
  by_cases k2 : 2 ≤ k
  · exact op_repT pins s σ H _ _ v u Q I rx ry ⟨l, k, xs, rfl, rfl, SqT.of hT, hne, k2, h2, hz, fun p np => q p _ (ex_new np) (SqT.of upd_same)⟩
  cases rx
  obtain ⟨t, rfl⟩ := ry
  obtain ⟨its, r, ⟨⟨cls, dd, data, sl⟩, ho, hc, n, hd⟩, hs⟩ := I.tuple (SqT.of (K := X.K) hT)
  simp only at hc hd
  subst hc hd
  have hle : its.length = xs.length := r.length.symm
  have hn : its ≠ [] := fun e => hne (by
    rw [e] at hle
    exact List.eq_nil_of_length_eq_zero hle.symm)
  have hi : its.toArray.isEmpty = false := by
    cases its with
    | nil => exact absurd rfl hn
    | cons a b => rfl
  have c0 : (decide (k < -(2 ^ 63)) || decide (k ≥ 2 ^ 63)) = false := by
    rw [decide_eq_false (by omega), decide_eq_false (by omega)] <;> rfl
  by_cases k1 : k = 1
  · subst k1
    have c1 : (its.toArray.isEmpty || (1 : Int) == 1) = true := by rw [hi]; rfl
    refine wpAny_binaryOp_repeat_ref (T := "tuple") (U := "int") (by decide) ⟨_, ho, rfl⟩ (fun s' => typeIs_int s' 1 t) noFill_tuple_mul F.fills_int_mul F.slot_int_rmul repeat_tuple F.slot_int_index.lookup
      (call_meets F.slot_int_rmul (typeIs_int s 1 t) F.entry_int_rmul (F.args_int_rmul_2 _ _) (int_rmul_tuple 1 t l its.toArray n dd sl)
        ⟨ho, rfl, ⟨_, ho, rfl⟩, call_meets F.slot_tuple_mul ⟨_, ho, rfl⟩ F.entry_tuple_mul (F.args_tuple_mul_2 _ _) (tuple_mul_same l its.toArray n dd sl 1 t c0 c1) ⟨ho, ?_⟩⟩)
    refine ⟨.ref l, H, I, rfl, q l H ExB.refl (SqT.of ?_)⟩
    rw [show (List.replicate (1 : Int).toNat xs).flatten = xs by simp]; exact hT
  · have k0 : k = 0 := by omega
    subst k0
    have c1 : (its.toArray.isEmpty || (0 : Int) == 1) = false := by rw [hi]; rfl
    have c2 : (decide ((0 : Int) ≤ 0) || its.toArray.isEmpty) = true := rfl
    refine wpAny_binaryOp_repeat_ref (T := "tuple") (U := "int") (by decide) ⟨_, ho, rfl⟩ (fun s' => typeIs_int s' 0 t) noFill_tuple_mul F.fills_int_mul F.slot_int_rmul repeat_tuple F.slot_int_index.lookup
      (call_meets F.slot_int_rmul (typeIs_int s 0 t) F.entry_int_rmul (F.args_int_rmul_2 _ _) (int_rmul_tuple 0 t l its.toArray n dd sl)
        ⟨ho, rfl, ⟨_, ho, rfl⟩, call_meets F.slot_tuple_mul ⟨_, ho, rfl⟩ F.entry_tuple_mul (F.args_tuple_mul_2 _ _) (tuple_mul_nil l its.toArray n dd sl 0 t c0 c1 c2) ⟨ho, ?_⟩⟩)
    refine ⟨.ref s.heap.objs.size, _, I.laid (t' := s.toks) (o := .tup []) (fun b ob q => Heap.get?_push_of_some _ q) (Nat.le_refl _) ?_, rfl, q _ _ (ex_new (I.hok.fresh (Nat.le_refl _))) (SqT.of upd_same)⟩
    exact ⟨by simp, [], .nil, IsTup.new _ _⟩
/-- t.index(x), of flat values -/
def rIndexT (K : PySem.W.Frag) : V → List V → Hp → VK → Prop := fun x xs H Q => ∃ (a : Addr) (ys : List V) (y : V) (j : Nat) (z : V), x = V.ref a ∧ xs = [y] ∧ SqT K H a ys ∧ flatV y = true ∧ ys.all flatV = true ∧ ys[j]? = some z ∧ eqV z y = true ∧
  (∀ (m : Nat) (z' : V), m < j → ys[m]? = some z' → eqV z' y = false) ∧ Q (.int (j : Nat)) H
theorem k_indexT {K : PySem.W.Frag} (hK : X.K = K) : MtR X "tuple.index" (rIndexT K) := by
  subst hK
  intro pins s σ H x xs v us Q I rx rxs h
  obtain ⟨a, ys, y, j, z, rfl, rfl, hs, fy, fys, hz, hzj, hno, q⟩ := h
  cases rx
  cases rxs with
  | cons ry rt =>
    rename_i uy ut
    cases rt
    obtain ⟨its, rv, ⟨⟨cls, dd, data, sl⟩, ho, hc, n, hd⟩, hlen⟩ := I.tuple hs
    simp only at hc hd
    subst hc hd
    obtain ⟨u, hu, ru⟩ := rv.get hz
    obtain ⟨hjl, hje⟩ := List.getElem?_eq_some_iff.mp hu
    have hvl := rv.length
    have hj : j < its.toArray.size := by simpa using hjl
    refine call_meets PySem.F.slot_tuple_index ⟨_, ho, rfl⟩ PySem.F.entry_tuple_index (PySem.F.args_tuple_index_2 _ _) (TI.tuple_indexAt a its.toArray n dd sl uy (eqU y) j hj ?_ ?_) ⟨ho, fun u' hu' => mem_eqAt ry fy rv fys u' (by simpa using hu'), ?_⟩
    · have e1 : its.toArray[j] = u := by simpa using hje
      rw [e1, eqU_of ru (flat_at fys hz)]
      exact hzj
    · intro m hm hmj
      have hml : m < its.length := by simpa using hm
      have hmy : m < ys.length := by omega
      have hy' : ys[m]? = some ys[m] := List.getElem?_eq_getElem hmy
      obtain ⟨u2, hu2, ru2⟩ := rv.get hy'
      obtain ⟨_, hme⟩ := List.getElem?_eq_some_iff.mp hu2
      have e1 : its.toArray[m] = u2 := by simpa using hme
      rw [e1, eqU_of ru2 (flat_at fys hy')]
      exact hno m _ hmj hy'
    · exact ⟨.int (j : Nat), H, I.tok _, ⟨_, rfl⟩, q⟩
end
/-- a block within a block -/
theorem blkOk_in {X : Cx} {s : Shared} {H : Hp} {scope inner sc : Scope} {cl : List (Str × Addr)} {C : Addr} {fp : List Addr} {own : List (Str × Nat)} {N : List Str} (hN : X.N = N) (hs : X.env.scope = sc) (h : blkC N (relS scope sc) inner own = true) : BlkOk (X.blk s H scope (compEnvC scope cl C X.env) fp).N (X.blk s H scope (compEnvC scope cl C X.env) fp).env.scope inner own := by
  subst hN
  subst hs
  exact blkOk_by h
end MM
namespace MM
open PySem PySem.Spec PyProof.Rows L2 GxR
/-! ### a new tuple whose object is known; a method of it -/
/-- a tuple of no dict -/
def FTup (H : Hp) (a : Addr) (xs : List V) : Prop := ∃ ob : Obj, ob.cls = .type "tuple" ∧ ob.dict = none ∧ H a = some (.frz ob (.tup xs))
theorem FTup.sqt {K : PySem.W.Frag} {H : Hp} {a : Addr} {xs : List V} (h : FTup H a xs) : SqT K H a xs := let ⟨o, _, _, e⟩ := h; .inl (.inr ⟨o, e⟩)
theorem FTup.ex {B : Addr → Prop} {H H' : Hp} {a : Addr} {xs : List V} (h : FTup H a xs) (e : ExB B H H') : FTup H' a xs := let ⟨o, c, d, q⟩ := h; ⟨o, c, d, e.fix _ _ q trivial⟩
section
variable {X : Cx} {K : PySem.W.Frag} {e o a : Expr} {es : List Expr} {te to ta : TE} {t : TA} {id : String} {name : Str} {r : V → List V → Hp → VK → Prop} {apos cpos pos p p2 : Pos}
def tTupF (K : PySem.W.Frag) (te : TE) : TE := fun σ H Q => te σ H fun x H1 => ∃ p xs, x = .ref p ∧ SqL K H1 p xs ∧ ∀ q H', Ex H1 H' → H1 q = none → FTup H' q xs → Q (.ref q) H'
theorem k_tupOfF {p pos : Pos} (hK : X.K = K) (hg : Gl X "tuple") (hm : X.mg "tuple" = none) (ha : PE X a ta) (na : starEach [a] X.env = (false, eval a X.env) :: starEach [] X.env := by rfl) : PE X (.Call (.Name "tuple" p) [a] [] pos) (tTupF K ta) := by
  subst hK
  refine ⟨fun pins s σ H Q I h => Call_ (ld_blt I hg hm boot_tuple (PyProof.Rows.callWith_type1 (one_arg ha I h (fun v s2 x H2 I2 r q => ?_) na) na))⟩
  obtain ⟨p, xs, ex, hs, q⟩ := q
  subst ex
  obtain rfl : v = .ref p := r
  obtain ⟨its, rv, pl, hz⟩ := I2.list hs
  refine call_tuple_list pl.isList (fun h' hk => ?_) (by rw [List.size_toArray, ← rv.length]; exact hz)
  have I1 : Inv X pins σ H2 { s2 with heap := h' } := I2.kept (t' := s2.toks) hk
  have I3 : Inv X pins σ (upd H2 h'.objs.size (.frz { cls := .type "tuple", data := .seq its.toArray } (.tup xs))) { s2 with heap := h'.push { cls := .type "tuple", data := .seq its.toArray } } :=
    I1.laid (t' := s2.toks) (fun b o e => Heap.get?_push_of_some _ e) (Nat.le_refl _) (show ObjOk X.prog X.w _ _ _ (.frz _ (.tup xs)) from ⟨Heap.get?_push_size _ rfl, hz, its, rv, IsTup.new _ _⟩)
  exact ⟨.ref h'.objs.size, _, I3, rfl, q _ _ (ex_new (I1.hok.fresh (Nat.le_refl _))) (I1.hok.fresh (Nat.le_refl _)) ⟨_, rfl, rfl, upd_same⟩⟩
def tBMF (r : V → List V → Hp → VK → Prop) (to : TE) (t : TA) : TE := fun σ H Q => to σ H fun x H1 => (∃ a xs, x = .ref a ∧ FTup H1 a xs) ∧ t σ H1 fun xs H2 => r x xs H2 Q
theorem k_bmF (pa : PlainAttrs "tuple") (slot : Slot "tuple" name id) (hty : typeOf (.builtin id) = pure (.type "method_descriptor")) (hm : MtR X id r) (ho : PE X o to) (ha : PA X (e :: es) t) (hbase : attributeBase o name X.env (eval o X.env) = eval o X.env := by rfl)
    (hfew : ((backTo cpos (starEach (e :: es) X.env)).all (fun x => !x.1) && (backToKw cpos (keywordEach [] X.env)).all (fun x => x.1.isSome) && decide ((e :: es).length + ([] : List Keyword).length + (if ([] : List Keyword).isEmpty then 0 else 1) < 30)) = true := by rfl)
    (hline : (apos.endLine == cpos.line) = true := by rfl) (hs : starEach (e :: es) X.env = (false, eval e X.env) :: starEach es X.env := by rfl) (hplain : (backTo cpos (starEach es X.env)).any (·.1) = false := by rfl) : PE X (.Call (.Attribute o name apos) (e :: es) [] cpos) (tBMF r to t) := by
  refine ⟨fun pins s σ H Q I h => ?_⟩
  refine wpAny_Call_method_late hbase hfew hline rfl (thn (ho.run pins s σ H _ I h) fun v s1 ⟨x, H1, I1, r1, ⟨a, xs, ex, ob, oc, od, hob⟩, q1⟩ => ?_)
  subst ex
  obtain rfl : v = .ref a := r1
  obtain ⟨e1, _⟩ := I1.hok a _ hob
  refine ⟨"tuple", id, pa, slot, hty, ⟨ob, e1, oc⟩, fun b eb => by cases eb; exact ⟨ob, e1, od⟩, ?_⟩
  have hA := ha.run cpos pins s1 σ H1 _ I1 q1
  rw [hs] at hA ⊢
  refine Calls.callWith_builtin (by show (false || (backTo cpos (starEach es X.env)).any (·.1)) = false; rw [hplain] <;> rfl) (Calls.evalArgs_plain ?_)
  exact thn hA fun us s2 ⟨vs, H2, I2, r2, q2⟩ => hm pins s2 σ H2 (.ref a) vs _ us Q I2 rfl r2 q2
end
end MM
namespace K02
open PySem PySem.Spec PyProof.Rows L2 GxR MM
def topS (i : Nat) : Stmt := PySem.Challenge.pw_maymeet_k02_goings_gone.main.body.getD i (.Pass ⟨0, 0, 0, 0⟩)
abbrev s_is_whole : Stmt := topS 9
abbrev N_is_whole : List Str := ["thing"]
theorem sc_is_whole : FnScope N_is_whole ["thing"] (defScope s_is_whole) := ⟨rfl, rfl, rfl, by decide +kernel, rfl, by decide +kernel, by decide +kernel⟩
abbrev s_is_many : Stmt := topS 10
abbrev N_is_many : List Str := ["thing"]
theorem sc_is_many : FnScope N_is_many ["thing"] (defScope s_is_many) := ⟨rfl, rfl, rfl, by decide +kernel, rfl, by decide +kernel, by decide +kernel⟩
abbrev s_is_gap : Stmt := topS 11
abbrev N_is_gap : List Str := ["thing", "many"]
theorem sc_is_gap : FnScope N_is_gap ["thing", "many"] (defScope s_is_gap) := ⟨rfl, rfl, rfl, by decide +kernel, rfl, by decide +kernel, by decide +kernel⟩
abbrev s_is_row : Stmt := topS 12
abbrev N_is_row : List Str := ["thing"]
theorem sc_is_row : FnScope N_is_row ["thing"] (defScope s_is_row) := ⟨rfl, rfl, rfl, by decide +kernel, rfl, by decide +kernel, by decide +kernel⟩
abbrev s_check_many : Stmt := topS 13
abbrev N_check_many : List Str := ["many"]
theorem sc_check_many : FnScope N_check_many ["many"] (defScope s_check_many) := ⟨rfl, rfl, rfl, by decide +kernel, rfl, by decide +kernel, by decide +kernel⟩
abbrev s_is_book : Stmt := topS 14
abbrev N_is_book : List Str := ["thing", "many"]
theorem sc_is_book : FnScope N_is_book ["thing", "many"] (defScope s_is_book) := ⟨rfl, rfl, rfl, by decide +kernel, rfl, by decide +kernel, by decide +kernel⟩
abbrev s_check_row : Stmt := topS 15
abbrev N_check_row : List Str := ["row"]
theorem sc_check_row : FnScope N_check_row ["row"] (defScope s_check_row) := ⟨rfl, rfl, rfl, by decide +kernel, rfl, by decide +kernel, by decide +kernel⟩
abbrev s_check_book : Stmt := topS 16
abbrev N_check_book : List Str := ["book", "many"]
theorem sc_check_book : FnScope N_check_book ["book", "many"] (defScope s_check_book) := ⟨rfl, rfl, rfl, by decide +kernel, rfl, by decide +kernel, by decide +kernel⟩
abbrev s_check_gap : Stmt := topS 17
abbrev N_check_gap : List Str := ["gap", "many"]
theorem sc_check_gap : FnScope N_check_gap ["gap", "many"] (defScope s_check_gap) := ⟨rfl, rfl, rfl, by decide +kernel, rfl, by decide +kernel, by decide +kernel⟩
abbrev s_row_of : Stmt := topS 18
abbrev N_row_of : List Str := ["many"]
theorem sc_row_of : FnScope N_row_of ["many"] (defScope s_row_of) := ⟨rfl, rfl, rfl, by decide +kernel, rfl, by decide +kernel, by decide +kernel⟩
abbrev s_swapped : Stmt := topS 19
abbrev N_swapped : List Str := ["row", "gap"]
theorem sc_swapped : FnScope N_swapped ["row", "gap"] (defScope s_swapped) := ⟨rfl, rfl, rfl, by decide +kernel, rfl, by decide +kernel, by decide +kernel⟩
abbrev s_changed : Stmt := topS 20
abbrev N_changed : List Str := ["row", "gap"]
theorem sc_changed : FnScope N_changed ["row", "gap"] (defScope s_changed) := ⟨rfl, rfl, rfl, by decide +kernel, rfl, by decide +kernel, by decide +kernel⟩
abbrev s_is_going : Stmt := topS 21
abbrev N_is_going : List Str := ["thing", "book"]
theorem sc_is_going : FnScope N_is_going ["thing", "book"] (defScope s_is_going) := ⟨rfl, rfl, rfl, by decide +kernel, rfl, by decide +kernel, by decide +kernel⟩
abbrev s_gone : Stmt := topS 22
abbrev N_gone : List Str := ["book", "many", "going", "rows", "gap", "change", "row"]
theorem sc_gone : FnScope N_gone ["book", "many", "going"] (defScope s_gone) := ⟨rfl, rfl, rfl, by decide +kernel, rfl, by decide +kernel, by decide +kernel⟩
abbrev s_law_bag : Stmt := topS 24
abbrev N_law_bag : List Str := ["script", "k", "cell"]
theorem sc_law_bag : FnScope N_law_bag ["script", "k"] (defScope s_law_bag) := ⟨rfl, rfl, rfl, by decide +kernel, rfl, by decide +kernel, by decide +kernel⟩
abbrev s_law_dip : Stmt := topS 25
abbrev N_law_dip : List Str := ["bag", "wide", "found", "mixed"]
theorem sc_law_dip : FnScope N_law_dip ["bag", "wide"] (defScope s_law_dip) := ⟨rfl, rfl, rfl, by decide +kernel, rfl, by decide +kernel, by decide +kernel⟩
abbrev s_law_row : Stmt := topS 26
abbrev N_law_row : List Str := ["bag", "size", "left", "k"]
theorem sc_law_row : FnScope N_law_row ["bag", "size"] (defScope s_law_row) := ⟨rfl, rfl, rfl, by decide +kernel, rfl, by decide +kernel, by decide +kernel⟩
abbrev s_law_book : Stmt := topS 27
abbrev N_law_book : List Str := ["bag", "size", "most", "k"]
theorem sc_law_book : FnScope N_law_book ["bag", "size", "most"] (defScope s_law_book) := ⟨rfl, rfl, rfl, by decide +kernel, rfl, by decide +kernel, by decide +kernel⟩
abbrev s_law_spots_of : Stmt := topS 28
abbrev N_law_spots_of : List Str := ["spots", "gap", "change", "spot"]
theorem sc_law_spots_of : FnScope N_law_spots_of ["spots", "gap", "change"] (defScope s_law_spots_of) := ⟨rfl, rfl, rfl, by decide +kernel, rfl, by decide +kernel, by decide +kernel⟩
abbrev s_law_line_of : Stmt := topS 29
abbrev N_law_line_of : List Str := ["spots", "spot"]
theorem sc_law_line_of : FnScope N_law_line_of ["spots"] (defScope s_law_line_of) := ⟨rfl, rfl, rfl, by decide +kernel, rfl, by decide +kernel, by decide +kernel⟩
abbrev s_law_due : Stmt := topS 30
abbrev N_law_due : List Str := ["deals", "size", "choices", "spots", "found", "k"]
theorem sc_law_due : FnScope N_law_due ["deals", "size", "choices"] (defScope s_law_due) := ⟨rfl, rfl, rfl, by decide +kernel, rfl, by decide +kernel, by decide +kernel⟩
abbrev s_law : Stmt := topS 31
abbrev N_law : List Str := ["script", "k", "bag", "size", "deals", "turn", "gap", "some", "choices", "text", "due", "told", "line", "other", "spots", "person"]
theorem sc_law : FnScope N_law ["script"] (defScope s_law) := ⟨rfl, rfl, rfl, by decide +kernel, rfl, by decide +kernel, by decide +kernel⟩
end K02
namespace K02
open PySem PySem.Spec PyProof.Rows L2 GxR MM
/-- the built-in names, as the module leaves them -/
structure Bl (mg : Str → Option Value) : Prop where
  isinstance : mg "isinstance" = none
  int : mg "int" = none
  bool : mg "bool" = none
  tuple : mg "tuple" = none
  len : mg "len" = none
  all : mg "all" = none
  sorted : mg "sorted" = none
  list : mg "list" = none
  range : mg "range" = none
  max : mg "max" = none
  min : mg "min" = none
  abs : mg "abs" = none
  repr : mg "repr" = none
  enumerate : mg "enumerate" = none
  zip : mg "zip" = none
  sum : mg "sum" = none
  any : mg "any" = none
section
variable {P : Program} {w : World} {K : PySem.W.Frag} {mg : Str → Option Value} {base : Heap} {f : Addr} {fd : FuncData} {n : Nat}
def spWhole (K : PySem.W.Frag) : Sp := fun vs H Q _ => ∃ x T, vs = [x] ∧ Kd K H x T ∧ Q (.bl (isW x)) H
theorem d_is_whole (F : FnP K "is_whole" s_is_whole f fd) (g : mg "is_whole" = some (.ref f)) (B : Bl mg) : CallD P w K mg base (n + 1) "is_whole" ["thing"] (spWhole K) := by
  refine callD F g sc_is_whole (fun _ _ _ _ _ _ us hl => match us, hl with | [_], _ => rfl) (fun vs H Q E h => ?_) (fun cdv A outer s H vs Q E _ hr hG h => ?_)
  · obtain ⟨x, T, rfl, _⟩ := h; rfl
  · obtain ⟨x, T, rfl, k, q⟩ := h
    refine ⟨_, (pss_one (ps_ret (pe_and (pe_callB (k_isi (K := K) rfl) (by rfl) B.isinstance (by decide +kernel) (pa_cons (pv 0) (pa_cons (pe_bltn (v := .ty "int") (by rfl) B.int (by decide +kernel) rfl) pa_nil))) (pe_one (pe_not (pe_callB (k_isi (K := K) rfl) (by rfl) B.isinstance (by decide +kernel) (pa_cons (pv 0) (pa_cons (pe_bltn (v := .ty "bool") (by rfl) B.bool (by decide +kernel) rfl) pa_nil)))))))), ?_⟩
    refine ⟨x, rfl, x, .ty "int", _, _, isI x, rfl, .ty _, k.ty, kd_int k, isI x, rfl, ?_⟩
    rw [isW_eq] at q
    cases e : isI x with
    | false => rw [e] at q; exact iteF q
    | true => rw [e] at q; exact iteT ⟨x, rfl, x, .ty "bool", _, _, isB x, rfl, .ty _, k.ty, kd_bool k, isB x, rfl, q⟩
def spMany : Sp := fun vs H Q _ => ∃ i : Int, vs = [.int i] ∧ Q (.bl (decide (1 ≤ i ∧ i ≤ 9))) H
theorem d_is_many (F : FnP K "is_many" s_is_many f fd) (g : mg "is_many" = some (.ref f)) (C_is_whole : CallD P w K mg base n "is_whole" ["thing"] (spWhole K)) {tk : Tok} (m_MOST_PEOPLE : mg "MOST_PEOPLE" = some (.int 9 tk)) : CallD P w K mg base (n + 1) "is_many" ["thing"] spMany := by
  refine callD F g sc_is_many (fun _ _ _ _ _ _ us hl => match us, hl with | [_], _ => rfl) (fun vs H Q E h => ?_) (fun cdv A outer s H vs Q E _ hr hG h => ?_)
  · obtain ⟨x, rfl, _⟩ := h; rfl
  · obtain ⟨i, rfl, q⟩ := h
    refine ⟨_, (pss_one (ps_ret (pe_and (pe_c C_is_whole hr hG (pa_cons (pv 0) pa_nil)) (pe_one (pe_chain op_le op_le pe_int (pv 0) (pe_glob (v := .int 9) (by rfl) m_MOST_PEOPLE ⟨_, rfl⟩)))))), ?_⟩
    refine ⟨.int i, rfl, .int i, "int", rfl, .int i, true, rfl, iteT ?_⟩
    refine ⟨_, rfl, _, _, rfl, rfl, decide (1 ≤ i), rfl, ?_⟩
    by_cases h1 : 1 ≤ i
    · rw [decide_eq_true h1]
      refine iteT ⟨_, _, rfl, rfl, ?_⟩
      have e : decide (1 ≤ i ∧ i ≤ 9) = decide (i ≤ 9) := by rw [Bool.eq_iff_iff]; simp [h1]
      rw [e] at q; exact q
    · rw [decide_eq_false h1]
      refine iteF ?_
      have e : decide (1 ≤ i ∧ i ≤ 9) = false := by simp [h1]
      rw [e] at q; exact q
end
end K02
namespace MM
open PySem PySem.Spec PyProof.Rows L2 GxR
/-! ### data that can be compared and shown -/
structure Nice (k L : Nat) (d : PyData) : Prop where
  lay : d.canLay0 = true
  dep : d.depth ≤ k
  dic : d.hasDict = false
  sho : d.showable = true
  len : d.shown.length ≤ L
theorem Nice.mono {k L k' L' : Nat} {d : PyData} (n : Nice k L d) (h : k ≤ k') (h' : L ≤ L') : Nice k' L' d := ⟨n.lay, Nat.le_trans n.dep h, n.dic, n.sho, Nat.le_trans n.len h'⟩
theorem Nice.shaped {k L : Nat} {d : PyData} (n : Nice k L d) (h : k ≤ 64) : SeqAt.shaped d = true := by unfold SeqAt.shaped; rw [n.lay, decide_eq_true (Nat.le_trans n.dep h)]; rfl
theorem Nice.refl {k L : Nat} {d : PyData} (n : Nice k L d) : PyData.eqv d d = true := SeqAt.eqv_refl d n.lay
theorem small_log {i : Int} (h : i.natAbs < 10 ^ 15) : i.natAbs.log2 < 50 := by
  by_cases h0 : i.natAbs = 0
  · rw [h0]; decide
  · exact (Nat.log2_lt h0).mpr (Nat.lt_trans h (by decide))
theorem nice_int {i : Int} (h : i.natAbs < 10 ^ 15) : Nice 0 51 (.int i) := by
  have hl := small_log h
  refine ⟨rfl, Nat.le_refl _, by simp only [PyData.hasDict], ?_, ?_⟩
  · simp only [PyData.showable, decide_eq_true_eq]; omega
  · simp only [PyData.shown]
    have e : (Str.ofString (toString i)).length = (toString i).length := by
      exact PySem.ofString_length _
    rw [e]; exact int_text_length_le (by decide) hl
theorem nice_none : Nice 0 5 .none := ⟨rfl, Nat.le_refl _, by simp only [PyData.hasDict], by simp only [PyData.showable], by simp only [PyData.shown]; decide⟩
theorem nice_bool (b : Bool) : Nice 0 5 (.bool b) := ⟨rfl, Nat.le_refl _, by simp only [PyData.hasDict], by simp only [PyData.showable], by cases b <;> simp only [PyData.shown] <;> decide⟩
theorem nice_all {k L : Nat} : ∀ {ds : List PyData}, (∀ d ∈ ds, Nice k L d) → PyData.canLayAll0 ds = true ∧ PyData.depthAll ds ≤ k ∧ PyData.hasDictAll ds = false ∧ PyData.showableAll ds = true ∧ ((PyData.shownAll ds).map (·.length)).sum ≤ ds.length * L ∧ (PyData.shownAll ds).length = ds.length
  | [], _ => ⟨rfl, Nat.zero_le _, by simp only [PyData.hasDictAll], by simp only [PyData.showableAll], by simp [PyData.shownAll], by simp [PyData.shownAll]⟩
  | d :: ds, h => by
    have n := h d List.mem_cons_self
    obtain ⟨a, b, c, e, f, g⟩ := nice_all (ds := ds) fun x hx => h x (List.mem_cons_of_mem _ hx)
    refine ⟨by show (d.canLay0 && PyData.canLayAll0 ds) = true; rw [n.lay, a]; rfl, by show max d.depth (PyData.depthAll ds) ≤ k; have := n.dep; omega, by simp only [PyData.hasDictAll, n.dic, c, Bool.or_self], by simp only [PyData.showableAll, n.sho, e, Bool.and_self], ?_, by simp only [PyData.shownAll, List.length_cons, g]⟩
    simp only [PyData.shownAll, List.map_cons, List.sum_cons, List.length_cons, Nat.succ_mul]
    have := n.len; omega
theorem nice_list {k L m : Nat} {ds : List PyData} (h : ∀ d ∈ ds, Nice k L d) (hm : ds.length ≤ m) : Nice (k + 1) (m * (L + 2) + 3) (.list ds) := by
  obtain ⟨a, b, c, e, f, g⟩ := nice_all h
  refine ⟨a, Nat.succ_le_succ b, by simp only [PyData.hasDict, c], by simp only [PyData.showable, e], ?_⟩
  simp only [PyData.shown]
  refine Nat.le_trans (listText_len_le _) ?_
  rw [g]
  have h1 : ds.length * (L + 2) ≤ m * (L + 2) := Nat.mul_le_mul_right _ hm
  have h2 : ds.length * (L + 2) = ds.length * L + ds.length * 2 := Nat.mul_add ..
  omega
theorem nice_tuple {k L m : Nat} {ds : List PyData} (h : ∀ d ∈ ds, Nice k L d) (hm : ds.length ≤ m) : Nice (k + 1) (m * (L + 2) + 3) (.tuple ds) := by
  obtain ⟨a, b, c, e, f, g⟩ := nice_all h
  refine ⟨a, Nat.succ_le_succ b, by simp only [PyData.hasDict, c], by simp only [PyData.showable, e], ?_⟩
  simp only [PyData.shown]
  refine Nat.le_trans (tupleText_len_le _) ?_
  rw [g]
  have h1 : ds.length * (L + 2) ≤ m * (L + 2) := Nat.mul_le_mul_right _ hm
  have h2 : ds.length * (L + 2) = ds.length * L + ds.length * 2 := Nat.mul_add ..
  omega
theorem nice_ints {ns : List Int} (h : ∀ i ∈ ns, i.natAbs < 10 ^ 15) : ∀ d ∈ ns.map PyData.int, Nice 0 51 d := fun d hd => by
  obtain ⟨i, hi, rfl⟩ := List.mem_map.mp hd; exact nice_int (h i hi)
/-! ### ints compared -/
theorem eqv_ints : ∀ ns ms : List Int, PyData.eqv (.list (ns.map PyData.int)) (.list (ms.map PyData.int)) = decide (ns = ms) := by
  have key : ∀ ns ms : List Int, PyData.eqvAll (ns.map PyData.int) (ms.map PyData.int) = decide (ns = ms) := by
    intro ns
    induction ns with
    | nil => intro ms; cases ms <;> simp [PyData.eqvAll]
    | cons n ns ih =>
      intro ms
      cases ms with
      | nil => simp [PyData.eqvAll]
      | cons m ms =>
        simp only [List.map_cons, PyData.eqvAll, PyData.eqv, ih, List.cons.injEq]
        by_cases h1 : n = m <;> by_cases h2 : ns = ms <;> simp [h1, h2]
  intro ns ms
  rw [PyData.eqv]; exact key ns ms
theorem eqv_rows (ns ms : List Int) : PyData.eqv (.tuple (ns.map PyData.int)) (.tuple (ms.map PyData.int)) = decide (ns = ms) := by
  rw [← eqv_ints]; simp only [PyData.eqv]
/-! ### rows -/
def IsRow (ns : List Int) : Prop := 1 ≤ ns.length ∧ ns.length ≤ 9 ∧ ns.Perm ((List.range ns.length).map Int.ofNat)
theorem rgV_ints (n : Nat) : rgV 0 n = ((List.range n).map Int.ofNat).map V.int := by
  unfold rgV
  rw [List.map_map]
  have e : ((n : Int) - 0).toNat = n := by omega
  rw [e]
  apply List.map_congr_left
  intro i _
  show V.int (0 + (i : Int)) = V.int (Int.ofNat i)
  rw [Int.zero_add]; rfl
theorem range_up (n : Nat) : ((List.range n).map Int.ofNat).Pairwise (· ≤ ·) := by
  rw [List.pairwise_map]
  exact (List.pairwise_lt_range (n := n)).imp fun {a b} h => Int.ofNat_le.mpr (Nat.le_of_lt h)
theorem sorted_same {a b : List Int} (hp : a.Perm b) (ha : a.Pairwise (· ≤ ·)) (hb : b.Pairwise (· ≤ ·)) : a = b :=
  List.Perm.eq_of_pairwise (fun _ _ _ _ h1 h2 => Int.le_antisymm h1 h2) ha hb hp
theorem IsRow.sorted {ns ns' : List Int} (r : IsRow ns) (hp : ns'.Perm ns) (hs : ns'.Pairwise (· ≤ ·)) : ns' = (List.range ns.length).map Int.ofNat := sorted_same (hp.trans r.2.2) hs (range_up _)
theorem IsRow.mem {ns : List Int} (r : IsRow ns) {i : Int} (h : i ∈ ns) : 0 ≤ i ∧ i < ns.length := by
  have := r.2.2.mem_iff.mp h
  obtain ⟨j, hj, rfl⟩ := List.mem_map.mp this
  have := List.mem_range.mp hj
  exact ⟨Int.natCast_nonneg _, by show (j : Int) < _; omega⟩
end MM
namespace K02
open PySem PySem.Spec PyProof.Rows L2 GxR MM
section
variable {P : Program} {w : World} {K : PySem.W.Frag} {mg : Str → Option Value} {base : Heap} {f : Addr} {fd : FuncData} {n : Nat}
/-- is_row of a row -/
def spIsRow (K : PySem.W.Frag) (Pt : Addr) : Sp := fun vs H Q _ => ∃ (a : Addr) (ns : List Int), vs = [.ref a] ∧ SqT K H a (ns.map V.int) ∧ TabG H Pt ∧ IsRow ns ∧ ∀ H', Ex H H' → Q (.bl true) H'
theorem d_is_row {c Pt fW : Addr} {fdW : FuncData} (F : FnP K "is_row" s_is_row f fd) (g : mg "is_row" = some (.ref f)) (B : Bl mg) (C_is_many : CallD P w K mg base n "is_many" ["thing"] spMany) (FW : FnP K "is_whole" s_is_whole fW fdW) (gW : mg "is_whole" = some (.ref fW))
    (TB : TabB base mg c Pt) (hc : ∀ oc od fd osl, K.lookup f = some ⟨oc, od, .func fd, osl⟩ → fd.code = .ref c) : CallD P w K mg base (n + 1) "is_row" ["thing"] (spIsRow K Pt) := by
  refine callD F g sc_is_row (fun _ _ _ _ _ _ us hl => match us, hl with | [_], _ => rfl) (fun vs H Q E h => ?_) (fun cdv A outer s H vs Q E hcd0 hr hG h => ?_)
  · obtain ⟨a, ns, rfl, _⟩ := h; rfl
  · obtain ⟨a, ns, rfl, hT, hTab, hR, q⟩ := h
    have hcd : cdv = .ref c := by
      obtain ⟨oc, od, dV, kV, doc, pm, an, cdv', ct, osl, e1, lk, _⟩ := F.ex
      rw [← hcd0 _ _ _ _ lk]; exact hc _ _ _ _ lk
    subst hcd
    refine ⟨_, (pss_cons (ps_if (PW.pt (pw_or (pt_not (pt_val (pe_callB (k_isi (K := K) rfl) (by rfl) B.isinstance (by decide +kernel) (pa_cons (pv 0) (pa_cons (pe_bltn (v := .ty "tuple") (by rfl) B.tuple (by decide +kernel) rfl) pa_nil))))) (pw_or1 (pt_not (pt_val (pe_c C_is_many hr hG (pa_cons (pe_callB (k_len (K := K) rfl) (by rfl) B.len PySem.boot_len (pa_cons (pv 0) pa_nil)) pa_nil)))))))
      (pss_one (ps_ret pe_bl))
      pss_nil)
      (pss_cons (ps_if (pt_not (pt_val (pe_allT (ok := okKd _) (pb := fun _ v => isW v) hr (by rfl) B.all (by decide +kernel) TB rfl ⟨rfl, rfl, by decide +kernel, rfl, rfl, fun y hy e => (nofree_gen rfl y hy e).elim⟩ (pv 0) (elt_whole FW hr gW B.isinstance B.int B.bool rfl ⟨_, _, _, _, _, _, _, _, _, _, _, ⟨0, 0, 0, 0⟩, rfl⟩ (fun _ _ _ _ _ _ us hl => match us, hl with | [_], _ => rfl) rfl rfl rfl) (fun _ => rfl))))
      (pss_one (ps_ret pe_bl))
      pss_nil)
      (pss_one (ps_ret (pe_cmpR (k_eq (K := K) rfl hr.units) (pe_callB (k_sortT (K := K) rfl) (by rfl) B.sorted (by decide +kernel) (pa_cons (pv 0) pa_nil)) (pe_listRg rfl (by rfl) B.list (prg_1 (by rfl) B.range (pe_callB (k_len (K := K) rfl) (by rfl) B.len PySem.boot_len (pa_cons (pv 0) pa_nil)))) (nomark _)))))), ?_⟩
    refine ⟨.ref a, rfl, .ref a, .ty "tuple", _, _, true, rfl, .ty _, (Kd.tup hT).ty, kd_tuple (Kd.tup hT), true, rfl, iteF ?_⟩
    refine ⟨.ref a, rfl, a, _, rfl, .inr hT, ((ns.map V.int).length : Int), rfl, ?_⟩
    have e1 : decide (1 ≤ ((ns.map V.int).length : Int) ∧ ((ns.map V.int).length : Int) ≤ 9) = true := by have := hR.1; have := hR.2.1; rw [List.length_map]; exact decide_eq_true ⟨by omega, by omega⟩
    refine ⟨_, rfl, ?_⟩
    rw [e1]
    refine iteF ?_
    refine ⟨.ref a, rfl, a, ns.map V.int, rfl, hT, hTab, fun x hx => by obtain ⟨i, _, rfl⟩ := List.mem_map.mp hx; exact ⟨_, .int i⟩, fun H2 t2 => ?_⟩
    have e2 : (ns.map V.int).all isW = true := by rw [List.all_eq_true]; intro x hx; obtain ⟨i, _, rfl⟩ := List.mem_map.mp hx; rfl
    refine ⟨_, rfl, ?_⟩
    rw [e2]
    refine iteF ?_
    have x1 : Ex H H2 := ex_tab hTab t2
    have hT2 := x1.sqt hT
    refine ⟨.ref a, rfl, a, ns, rfl, hT2, fun ns' p hp hs np => ?_⟩
    have x2 : Ex H2 (upd H2 p (.lst (ns'.map V.int))) := ex_new np
    refine ⟨.ref a, rfl, a, _, rfl, .inr (x2.sqt hT2), _, rfl, RgOk.of_le (Int.le_refl _) ?_ (by decide) (Int.natCast_nonneg _), fun q2 nq => ?_⟩
    · rw [List.length_map]; have := hR.2.1; omega
    · have e3 : ns' = (List.range ns.length).map Int.ofNat := hR.sorted hp hs
      have x3 : Ex (upd H2 p (.lst (ns'.map V.int))) (upd (upd H2 p (.lst (ns'.map V.int))) q2 (.lst (rgV 0 ((ns.map V.int).length : Int)))) := ex_new nq
      have e4 : rgV 0 ((ns.map V.int).length : Int) = ns'.map V.int := by rw [List.length_map, rgV_ints, e3]
      have nice : Nice 1 (9 * 53 + 3) (.list (ns'.map PyData.int)) := nice_list (nice_ints fun i hi => by have := hR.mem (hp.mem_iff.mp hi); have := hR.2.1; omega) (by rw [List.length_map, hp.length_eq]; exact hR.2.1)
      refine ⟨_, _, dp_ints (ns := ns') (SqL.of (Ex.lst x3 upd_same)), dp_ints (ns := ns') (SqL.of (by rw [upd_same, e4])), nice.shaped (by decide), nice.shaped (by decide), ?_⟩
      rw [nice.refl]
      exact q _ ((x1.trans x2).trans x3)
def spCheckRow (K : PySem.W.Frag) (Pt : Addr) : Sp := fun vs H Q _ => ∃ (a : Addr) (ns : List Int), vs = [.ref a] ∧ SqT K H a (ns.map V.int) ∧ TabG H Pt ∧ IsRow ns ∧ ∀ H', Ex H H' → Q .non H'
theorem d_check_row {Pt : Addr} (F : FnP K "check_row" s_check_row f fd) (g : mg "check_row" = some (.ref f)) (C_is_row : CallD P w K mg base n "is_row" ["thing"] (spIsRow K Pt)) : CallD P w K mg base (n + 1) "check_row" ["row"] (spCheckRow K Pt) := by
  refine callD F g sc_check_row (fun _ _ _ _ _ _ us hl => match us, hl with | [_], _ => rfl) (fun vs H Q E h => ?_) (fun cdv A outer s H vs Q E _ hr hG h => ?_)
  · obtain ⟨a, ns, rfl, _⟩ := h; rfl
  · obtain ⟨a, ns, rfl, hT, hTab, hR, q⟩ := h
    refine ⟨_, (pss_one (ps_if (pt_not (pt_val (pe_c C_is_row hr hG (pa_cons (pv 0) pa_nil))))
      (pss_one ps_never)
      pss_nil)), ?_⟩
    exact ⟨.ref a, rfl, a, ns, rfl, hT, hTab, hR, fun H' e => ⟨true, rfl, iteF (q H' e)⟩⟩
end
end K02
namespace MM
open PySem PySem.Spec PyProof.Rows L2 GxR
/-! ### corners -/
def cnt (ns : List Int) (i : Nat) (j : Int) : Nat := ((ns.take i).filter fun p => decide (j ≤ p)).length
def cl (ns : List Int) (i : Nat) : List Int := (List.range (ns.length + 1)).map fun (j : Nat) => (cnt ns i (j : Int) : Int)
theorem cl_length (ns : List Int) (i : Nat) : (cl ns i).length = ns.length + 1 := by unfold cl; rw [List.length_map, List.length_range]
theorem cnt_zero (ns : List Int) (j : Int) : cnt ns 0 j = 0 := rfl
theorem cnt_succ {ns : List Int} {i : Nat} {p : Int} (h : ns[i]? = some p) (j : Int) : cnt ns (i + 1) j = cnt ns i j + if j ≤ p then 1 else 0 := by
  unfold cnt
  rw [List.take_add_one, h, List.filter_append, List.length_append]
  by_cases hj : j ≤ p <;> simp [hj]
theorem cnt_le (ns : List Int) (i : Nat) (j : Int) : cnt ns i j ≤ i := Nat.le_trans (List.length_filter_le _ _) (by rw [List.length_take]; omega)
theorem cl_zero (ns : List Int) : cl ns 0 = List.replicate (ns.length + 1) 0 := by
  unfold cl
  rw [List.eq_replicate_iff]
  refine ⟨by simp, fun x hx => ?_⟩
  obtain ⟨j, _, rfl⟩ := List.mem_map.mp hx
  rfl
theorem cl_get (ns : List Int) (i : Nat) {j : Nat} (h : j < ns.length + 1) : (cl ns i)[j]? = some (cnt ns i j : Int) := by
  unfold cl; rw [List.getElem?_map, List.getElem?_range h]; rfl
theorem cl_mem {ns : List Int} {i : Nat} {x : Int} (h : x ∈ cl ns i) : 0 ≤ x ∧ x ≤ i := by
  obtain ⟨j, _, rfl⟩ := List.mem_map.mp h
  have := cnt_le ns i j
  omega
theorem cl_pref {ns : List Int} {i j : Nat} (h : j < ns.length + 1) : (cl ns i).take (j + 1) = (cl ns i).take j ++ [(cnt ns i j : Int)] := by
  rw [List.take_add_one, cl_get ns i h]; rfl
theorem rep_one {α : Type} (x : α) : ∀ m : Nat, (List.replicate m [x]).flatten = List.replicate m x
  | 0 => rfl
  | m + 1 => by rw [List.replicate_succ, List.flatten_cons, rep_one x m, List.replicate_succ]; rfl
theorem yes_go {σ : L2.St} {H : Hp} {A B : Hp → Prop} (h : A H) : tYes σ H (fun b H3 => if b = true then A H3 else B H3) := by
  show (if true = true then A H else B H)
  rw [if_pos rfl]; exact h
end MM
namespace MM
open PySem PySem.Spec PyProof.Rows L2 GxR
/-- the corners of which ns has more, i by i, j by j -/
def moreAt (ns ms : List Int) (i : Nat) : List (Nat × Nat) := ((List.range (ns.length + 1)).filter fun (j : Nat) => decide (cnt ms i j < cnt ns i j)).map fun j => (i, j)
def moreTo (ns ms : List Int) (m : Nat) : List (Nat × Nat) := (List.range m).flatMap (moreAt ns ms)
def more (ns ms : List Int) : List (Nat × Nat) := moreTo ns ms (ns.length + 1)
theorem moreTo_succ (ns ms : List Int) (m : Nat) : moreTo ns ms (m + 1) = moreTo ns ms m ++ moreAt ns ms m := by
  unfold moreTo; rw [List.range_succ, List.flatMap_append]; simp
theorem mem_moreAt {ns ms : List Int} {i : Nat} {p : Nat × Nat} : p ∈ moreAt ns ms i ↔ p.1 = i ∧ p.2 < ns.length + 1 ∧ cnt ms i p.2 < cnt ns i p.2 := by
  unfold moreAt
  rw [List.mem_map]
  constructor
  · rintro ⟨j, hj, rfl⟩
    obtain ⟨h1, h2⟩ := List.mem_filter.mp hj
    exact ⟨rfl, List.mem_range.mp h1, of_decide_eq_true h2⟩
  · rintro ⟨h1, h2, h3⟩
    exact ⟨p.2, List.mem_filter.mpr ⟨List.mem_range.mpr h2, decide_eq_true h3⟩, by rw [← h1]⟩
theorem mem_moreTo {ns ms : List Int} {m : Nat} {p : Nat × Nat} : p ∈ moreTo ns ms m ↔ p.1 < m ∧ p.2 < ns.length + 1 ∧ cnt ms p.1 p.2 < cnt ns p.1 p.2 := by
  unfold moreTo
  rw [List.mem_flatMap]
  constructor
  · rintro ⟨i, hi, h⟩
    obtain ⟨h1, h2, h3⟩ := mem_moreAt.mp h
    rw [h1]; exact ⟨List.mem_range.mp hi, h2, h3⟩
  · rintro ⟨h1, h2, h3⟩
    exact ⟨p.1, List.mem_range.mpr h1, mem_moreAt.mpr ⟨rfl, h2, h3⟩⟩
theorem more_nil {ns ms : List Int} (h : ∀ i j : Nat, i < ns.length + 1 → j < ns.length + 1 → ¬ cnt ms i j < cnt ns i j) : more ns ms = [] := by
  unfold more
  rw [List.eq_nil_iff_forall_not_mem]
  intro p hp
  obtain ⟨h1, h2, h3⟩ := mem_moreTo.mp hp
  exact h _ _ h1 h2 h3
theorem filter_head {α : Type} {p : α → Bool} {x : α} : ∀ {l : List α} {j : Nat}, l[j]? = some x → p x = true → (∀ j' y, j' < j → l[j']? = some y → p y = false) → (l.filter p).head? = some x
  | [], _, h, _, _ => by simp at h
  | a :: l, 0, h, hp, _ => by
    have e : a = x := by simpa using h
    subst e; simp [hp]
  | a :: l, j + 1, h, hp, hn => by
    have ha := hn 0 a (Nat.succ_pos j) (by simp)
    rw [List.filter_cons_of_neg (by rw [ha]; simp)]
    exact filter_head (j := j) (by simpa using h) hp fun j' y hj hy => hn (j' + 1) y (Nat.succ_lt_succ hj) (by simpa using hy)
theorem more_head {ns ms : List Int} {i j : Nat} (hi : i < ns.length + 1) (hj : j < ns.length + 1) (h : cnt ms i j < cnt ns i j) (h1 : ∀ i' j' : Nat, i' < i → j' < ns.length + 1 → ¬ cnt ms i' j' < cnt ns i' j') (h2 : ∀ j' : Nat, j' < j → ¬ cnt ms i j' < cnt ns i j') : (more ns ms).head? = some (i, j) := by
  have e1 : moreTo ns ms i = [] := by
    rw [List.eq_nil_iff_forall_not_mem]; intro p hp
    obtain ⟨a, b, c⟩ := mem_moreTo.mp hp
    exact h1 _ _ a b c
  have e2 : ∀ k, moreTo ns ms (i + 1 + k) = moreAt ns ms i ++ (moreTo ns ms (i + 1 + k)).drop (moreAt ns ms i).length := by
    intro k
    induction k with
    | zero => rw [Nat.add_zero, moreTo_succ, e1, List.nil_append, List.drop_length, List.append_nil]
    | succ k ih =>
      rw [← Nat.add_assoc, moreTo_succ, ih, List.append_assoc, List.drop_left]
  have e3 : (moreAt ns ms i).head? = some (i, j) := by
    unfold moreAt
    rw [List.head?_map, filter_head (x := j) (j := j) (by rw [List.getElem?_range hj]) (decide_eq_true h) fun j' y hj' hy => ?_]
    · rfl
    · rw [List.getElem?_range (Nat.lt_trans hj' hj)] at hy
      cases hy; exact decide_eq_false (h2 j' hj')
  have := e2 (ns.length - i)
  rw [show i + 1 + (ns.length - i) = ns.length + 1 by omega] at this
  unfold more
  rw [this]
  cases q : moreAt ns ms i with
  | nil => rw [q] at e3; cases e3
  | cons x l => rw [q] at e3; simpa using e3
theorem moreTo_len (ns ms : List Int) : ∀ m : Nat, (moreTo ns ms m).length ≤ m * (ns.length + 1)
  | 0 => by simp [moreTo]
  | m + 1 => by
    have h : (moreAt ns ms m).length ≤ ns.length + 1 := by
      unfold moreAt; rw [List.length_map]
      exact Nat.le_trans (List.length_filter_le _ _) (by rw [List.length_range]; exact Nat.le_refl _)
    rw [moreTo_succ, List.length_append, Nat.succ_mul]
    exact Nat.add_le_add (moreTo_len ns ms m) h
/-- what unlike_corner tells -/
def CornV (H : Hp) (v : V) : Option (Nat × Nat) → Prop
  | none => v = .non
  | some p => ∃ T, v = .ref T ∧ H T = some (.tup [.int p.1, .int p.2])
end MM
namespace MM
open PySem PySem.Spec PyProof.Rows L2 GxR
/-! ### the bag of draws -/
/-- a bag of which n draws at most were mixed -/
def Bag (n : Nat) (H : Hp) (b : Addr) : Prop := ∃ x y z : Int, H b = some (.lst [.int x, .int y, .int z]) ∧ 0 ≤ x ∧ 0 ≤ y ∧ y < 10 ^ 40 ∧ 0 ≤ z ∧ z ≤ n
abbrev At1 (b : Addr) : Addr → Prop := fun a => a = b
theorem Bag.mono {n m : Nat} {H : Hp} {b : Addr} (h : Bag n H b) (l : n ≤ m) : Bag m H b := let ⟨x, y, z, e, a, c, d, f, g⟩ := h; ⟨x, y, z, e, a, c, d, f, by omega⟩
theorem Bag.ex {n : Nat} {H H' : Hp} {b : Addr} (h : Bag n H b) (e : Ex H H') : Bag n H' b := let ⟨x, y, z, r⟩ := h; ⟨x, y, z, Ex.lst e r.1, r.2⟩
theorem Bag.exB {n : Nat} {H H' : Hp} {b : Addr} {B : Addr → Prop} (h : Bag n H b) (e : ExB B H H') (nb : ¬ B b) : Bag n H' b := let ⟨x, y, z, r⟩ := h; ⟨x, y, z, e.lst r.1 nb, r.2⟩
theorem pow_ok {i : Int} {k : Nat} {j : Int} (hj : 0 ≤ j) (h : i.natAbs < 2 ^ k) (hk : (k : Int) * j ≤ 2 ^ 27) : CPowW i j :=
  ⟨hj, Int.le_trans (Int.mul_le_mul_of_nonneg_right (by have := bits_le h; omega) hj) hk⟩
theorem max_nn (e : Int) : 0 ≤ (if e > 0 then e else 0) := by split <;> omega
/-- mixed numbers are small enough to be raised -/
theorem mix_ok {y z c : Int} (hy : 0 ≤ y) (hy2 : y < 10 ^ 40) (hz : 0 ≤ z) (hz2 : z ≤ 1000000) (hc : 0 ≤ c) (hc2 : c ≤ 1000000000) {e : Int} (he : 0 ≤ e) (he2 : e ≤ 10) : CPowW (y + c * z) e := by
  have h1 : c * z ≤ 1000000000 * 1000000 := Int.mul_le_mul hc2 hz2 hz (by decide)
  have h2 : 0 ≤ c * z := Int.mul_nonneg hc hz
  refine pow_ok (k := 200) he ?_ ?_
  · have h3 : (10 : Int) ^ 40 + 1000000000 * 1000000 < 2 ^ 200 := by decide
    have h4 : (y + c * z) < 2 ^ 200 := by omega
    have h5 : ((y + c * z).natAbs : Int) < ((2 ^ 200 : Nat) : Int) := by
      rw [Int.natAbs_of_nonneg (by omega)]; exact h4
    exact Int.ofNat_lt.mp h5
  · have : (2 : Int) ^ 27 = 134217728 := by decide
    rw [this]
    have : ((200 : Nat) : Int) * e ≤ 200 * 10 := Int.mul_le_mul (by decide) he2 he (by decide)
    omega
theorem mulW_small {i j : Int} (hi : i.natAbs < 2 ^ 200) (hj : j.natAbs < 2 ^ 200) : CMulW i j := wide_mul hi hj (by decide) (by decide) (by decide)
theorem divW_small {i j : Int} (h : 0 < j) (hj : j < 10 ^ 9) : CDivW i j := wide_div (b := 200) h (by
  have : j.natAbs < 10 ^ 9 := by have h2 : (10 : Int) ^ 9 = 1000000000 := by decide
                                 have h3 : (10 : Nat) ^ 9 = 1000000000 := by decide
                                 omega
  exact Nat.lt_trans this (by decide)) (by decide) (by decide)
theorem erase_map {α β : Type} (f : α → β) : ∀ (l : List α) (i : Nat), (l.map f).eraseIdx i = (l.eraseIdx i).map f
  | [], _ => rfl
  | _ :: _, 0 => rfl
  | x :: l, i + 1 => by
    show f x :: (l.map f).eraseIdx i = f x :: (l.eraseIdx i).map f
    rw [erase_map f l i]
theorem erase_perm {α : Type} : ∀ (l : List α) (i : Nat) (h : i < l.length), l.Perm (l[i] :: l.eraseIdx i)
  | x :: l, 0, _ => List.Perm.refl _
  | x :: l, i + 1, h => by
    have h' : i < l.length := by simpa using h
    have ih := erase_perm l i h'
    show (x :: l).Perm (l[i] :: x :: l.eraseIdx i)
    exact (List.Perm.cons x ih).trans (List.Perm.swap ..)
theorem cutV_to {xs : List V} (i : Nat) : cutV xs none (some (i : Int)) = xs.take i := by
  unfold cutV
  rw [HT.sIx_none, HT.sIx_nat, List.drop_zero, Nat.sub_zero]
  by_cases h : i ≤ xs.length
  · rw [Nat.min_eq_left h]
  · rw [Nat.min_eq_right (by omega), List.take_length, List.take_of_length_le (by omega)]
theorem cutV_from {xs : List V} (i : Nat) : cutV xs (some (i : Int)) none = xs.drop i := by
  unfold cutV
  rw [HT.sIx_none, HT.sIx_nat]
  by_cases h : i ≤ xs.length
  · rw [Nat.min_eq_left h, List.take_of_length_le (by rw [List.length_drop]; omega)]
  · rw [Nat.min_eq_right (by omega), List.drop_length, List.take_nil, List.drop_eq_nil_of_le (by omega)]
end MM
namespace K02
open PySem PySem.Spec PyProof.Rows L2 GxR MM
section
variable {P : Program} {w : World} {K : PySem.W.Frag} {mg : Str → Option Value} {base : Heap} {f : Addr} {fd : FuncData} {n : Nat}
def spBag (K : PySem.W.Frag) : Sp := fun vs H Q _ => ∃ (a : Addr) (ns : List Int) (k : Int), vs = [.ref a, .int k] ∧ SqL K H a (ns.map V.int) ∧ ns.length ≤ 63 ∧ 0 ≤ k ∧ k ≤ 1000 ∧ ∀ b H', Ex H H' → H b = none → Bag 0 H' b → Q (.ref b) H'
theorem d_law_bag (F : FnP K "_law_bag" s_law_bag f fd) (g : mg "_law_bag" = some (.ref f)) (B : Bl mg) : CallD P w K mg base (n + 1) "_law_bag" ["script", "k"] (spBag K) := by
  refine callD F g sc_law_bag (fun _ _ _ _ _ _ us hl => match us, hl with | [_, _], _ => rfl) (fun vs H Q E h => ?_) (fun cdv A outer s H vs Q E _ hr hG h => ?_)
  · obtain ⟨a, ns, k, rfl, _⟩ := h; rfl
  · obtain ⟨a, ns, k, rfl, hS, hl, hk0, hk1, q⟩ := h
    refine ⟨_, (pss_cons (ps_set (i := 2) sc_law_bag.nd rfl (Or.inl rfl) pe_int)
      (pss_cons (ps_if (pt_cmpR op_lt (pv 1) (pe_callB (k_len (K := K) rfl) (by rfl) B.len PySem.boot_len (pa_cons (pv 0) pa_nil)) (nomark _))
      (pss_one (ps_set (i := 2) sc_law_bag.nd rfl (Or.inl rfl) (pe_ix (k_ixl (K := K) rfl) (pv 0) (pv 1) (fun _ _ => rfl))))
      pss_nil)
      (pss_one (ps_ret (pe_lst (pa_cons (pe_callB (call_max2 rfl) (by rfl) B.max (by decide +kernel) (pa_cons pe_int (pa_cons (pe_op op_sub (pe_callB call_abs (by rfl) B.abs (by decide +kernel) (pa_cons (pv 2) pa_nil)) (pe_op op_powW pe_int pe_int)) pa_nil))) (pa_cons (pe_op op_add (pe_op op_mod (pv 2) (pe_op op_add (pe_op op_powW pe_int pe_int) pe_int)) (pe_op op_mulW pe_int (pv 1))) (pa_cons pe_int pa_nil)))))))), ?_⟩
    have ten : (10 : Int) ^ ((37 : Int).toNat) = 10 ^ 37 := rfl
    have pw : CPowW 10 37 := pow_ok (k := 200) (by decide) (by decide) (by decide)
    have pw2 : CPowW 10 18 := pow_ok (k := 200) (by decide) (by decide) (by decide)
    have main : ∀ cell : Int, ∀ σ1 : L2.St, σ1 = [some (.ref a), some (.int k), some (.int cell)] → tRet (tLst (tCons (tCB (fun xs H Q => ∃ i j, xs = [.int i, .int j] ∧ Q (.int (if j > i then j else i)) H) (tCons (tC (.int 0)) (tCons (tOp (rI0 fun i j => .int (i - j)) (tCB (fun xs H Q => ∃ i, xs = [.int i] ∧ Q (.int (if i < 0 then -i else i)) H) (tCons (tVar 2) tNil)) (tOp (rI CPowW fun i j => .int (i ^ j.toNat)) (tC (.int 10)) (tC (.int 18)))) tNil))) (tCons (tOp (rI0 fun i j => .int (i + j)) (tOp (rI (fun _ j => 0 < j) fun i j => .int (i % j)) (tVar 2) (tOp (rI0 fun i j => .int (i + j)) (tOp (rI CPowW fun i j => .int (i ^ j.toNat)) (tC (.int 10)) (tC (.int 37))) (tC (.int 43)))) (tOp (rI CMulW fun i j => .int (i * j)) (tC (.int 7793)) (tVar 1))) (tCons (tC (.int 0)) tNil)))) { nx := fun _ H' => Q .non H', rt := Q } σ1 H := by
      rintro cell _ rfl
      refine ⟨_, rfl, _, rfl, 10, 18, rfl, rfl, pw2, _, _, rfl, rfl, _, _, rfl, ?_⟩
      refine ⟨_, rfl, 10, 37, rfl, rfl, pw, _, _, rfl, rfl, _, _, rfl, rfl, by show (0 : Int) < 10 ^ 37 + 43; decide, _, rfl, 7793, k, rfl, rfl, mulW_small (by decide) (Nat.lt_of_le_of_lt (show k.natAbs ≤ 1000 by omega) (by decide)), _, _, rfl, rfl, by show 3 ≤ sizeLine; decide, fun b nb => ?_⟩
      refine q b _ (ex_new nb) nb ⟨_, _, _, upd_same, ?_, ?_, ?_, Int.le_refl _, Int.le_refl _⟩
      · exact max_nn _
      · have h1 : 0 ≤ cell % (10 ^ 37 + 43) := Int.emod_nonneg _ (by decide)
        show 0 ≤ cell % (10 ^ 37 + 43) + 7793 * k
        omega
      · have h1 : cell % (10 ^ 37 + 43) < 10 ^ 37 + 43 := Int.emod_lt_of_pos _ (by decide)
        show cell % (10 ^ 37 + 43) + 7793 * k < 10 ^ 40
        have h2 : (10 : Int) ^ 37 + 43 + 7793 * 1000 ≤ 10 ^ 40 := by decide
        omega
    refine ⟨_, rfl, .ref a, rfl, a, _, rfl, .inl hS, _, _, rfl, rfl, _, rfl, ?_⟩
    rw [List.length_map]
    by_cases hlt : k < (ns.length : Int)
    · rw [decide_eq_true hlt]
      have hi : k.toNat < ns.length := by omega
      have gi : (ns.map V.int)[k.toNat]? = some (.int ns[k.toNat]) := by rw [List.getElem?_map, List.getElem?_eq_getElem hi]; rfl
      exact iteT ⟨.ref a, rfl, .int k, rfl, a, _, _, _, rfl, rfl, hS, at_of (by omega) gi, main _ _ rfl⟩
    · rw [decide_eq_false hlt]
      exact iteF (main 0 _ rfl)
def spDip : Sp := fun vs H Q _ => ∃ (b : Addr) (wd : Int) (m : Nat), vs = [.ref b, .int wd] ∧ Bag m H b ∧ m < 1000000 ∧ 1 ≤ wd ∧ wd ≤ 1000000 ∧ ∀ (v : Int) H', 0 ≤ v → v < wd → ExB (At1 b) H H' → Bag (m + 1) H' b → Q (.int v) H'
theorem d_law_dip (F : FnP K "_law_dip" s_law_dip f fd) (g : mg "_law_dip" = some (.ref f)) : CallD P w K mg base (n + 1) "_law_dip" ["bag", "wide"] spDip := by
  refine callD F g sc_law_dip (fun _ _ _ _ _ _ us hl => match us, hl with | [_, _], _ => rfl) (fun vs H Q E h => ?_) (fun cdv A outer s H vs Q E _ hr hG h => ?_)
  · obtain ⟨b, wd, m, rfl, _⟩ := h; rfl
  · obtain ⟨b, wd, m, rfl, ⟨x, y, z, eb, hx, hy, hy2, hz, hz2⟩, hm, hw1, hw2, q⟩ := h
    refine ⟨_, (pss_cons (ps_if (pt_cmpR op_gt (pe_ix (k_ixl (K := K) rfl) (pv 0) pe_int (fun _ _ => rfl)) pe_int (nomark _))
      (pss_cons (ps_set (i := 2) sc_law_dip.nd rfl (Or.inl rfl) (pe_op op_mod (pe_ix (k_ixl (K := K) rfl) (pv 0) pe_int (fun _ _ => rfl)) (pv 1)))
      (pss_cons (ps_asg (pe_op op_fdivW (pe_ix (k_ixl (K := K) rfl) (pv 0) pe_int (fun _ _ => rfl)) (pv 1)) (pg_sub (pv 0) pe_int set_list))
      (pss_one (ps_ret (pv 2)))))
      pss_nil)
      (pss_cons (ps_asg (pe_op op_add (pe_ix (k_ixl (K := K) rfl) (pv 0) pe_int (fun _ _ => rfl)) pe_int) (pg_sub (pv 0) pe_int set_list))
      (pss_cons (ps_set (i := 3) sc_law_dip.nd rfl (Or.inl rfl) (pe_op op_mod (pe_op op_powW (pe_op op_add (pe_ix (k_ixl (K := K) rfl) (pv 0) pe_int (fun _ _ => rfl)) (pe_op op_mulW pe_int (pe_ix (k_ixl (K := K) rfl) (pv 0) pe_int (fun _ _ => rfl)))) pe_int) (pe_op op_add (pe_op op_powW pe_int pe_int) pe_int)))
      (pss_cons (ps_set (i := 3) sc_law_dip.nd rfl (Or.inl rfl) (pe_op op_mod (pe_op op_powW (pe_op op_add (pv 3) (pe_op op_mulW pe_int (pe_ix (k_ixl (K := K) rfl) (pv 0) pe_int (fun _ _ => rfl)))) pe_int) (pe_op op_add (pe_op op_powW pe_int pe_int) pe_int)))
      (pss_one (ps_ret (pe_op op_mod (pe_op op_fdivW (pv 3) pe_int) (pv 1)))))))), ?_⟩
    have ix : ∀ (i : Int) (H1 : Hp) (vs : List V) (v : V), H1 b = some (.lst vs) → atI vs i = some v → SqL K H1 b vs ∧ atI vs i = some v := fun i H1 vs v h1 h2 => ⟨SqL.of h1, h2⟩
    have w9 : wd < 10 ^ 9 := by have : (10 : Int) ^ 9 = 1000000000 := by decide
                                omega
    refine ⟨_, rfl, b, _, _, _, rfl, rfl, SqL.of eb, rfl, _, _, rfl, rfl, _, rfl, ?_⟩
    by_cases hp : 0 < x
    · rw [decide_eq_true hp]
      refine iteT ⟨_, rfl, b, _, _, _, rfl, rfl, SqL.of eb, rfl, _, rfl, _, _, rfl, rfl, by show (0 : Int) < wd; omega, ?_⟩
      refine ⟨_, rfl, b, _, _, _, rfl, rfl, SqL.of eb, rfl, _, rfl, _, _, rfl, rfl, divW_small (by omega) w9, _, rfl, b, _, _, 0, rfl, rfl, eb, rfl, ?_⟩
      refine ⟨_, rfl, q _ _ (Int.emod_nonneg _ (by omega)) (Int.emod_lt_of_pos _ (by omega)) (ex_set eb) ⟨_, _, _, upd_same, Int.ediv_nonneg hx (by omega), hy, hy2, hz, by omega⟩⟩
    · rw [decide_eq_false hp]
      refine iteF ⟨_, rfl, b, _, _, _, rfl, rfl, SqL.of eb, rfl, _, _, rfl, rfl, _, rfl, b, _, _, 2, rfl, rfl, eb, rfl, ?_⟩
      have x1 : ExB (At1 b) H (upd H b (.lst [.int x, .int y, .int (z + 1)])) := ex_set eb
      have e1 : (upd H b (.lst [.int x, .int y, .int (z + 1)])) b = some (.lst [.int x, .int y, .int (z + 1)]) := upd_same
      show tSeq _ _ _ _ (upd H b (.lst [.int x, .int y, .int (z + 1)]))
      generalize upd H b (.lst [.int x, .int y, .int (z + 1)]) = H1 at x1 e1 ⊢
      have m1 : CMulW 49979687 (z + 1) := mulW_small (by decide) (Nat.lt_of_le_of_lt (show (z + 1).natAbs ≤ 1000001 by omega) (by decide))
      have m2 : CMulW 67867979 (z + 1) := mulW_small (by decide) (Nat.lt_of_le_of_lt (show (z + 1).natAbs ≤ 1000001 by omega) (by decide))
      have p1 : CPowW (y + 49979687 * (z + 1)) 3 := mix_ok hy hy2 (by omega) (by omega) (by decide) (by decide) (by decide) (by decide)
      have pk : ∀ e : Int, 0 ≤ e → e ≤ 100 → CPowW 10 e := fun e h0 h1 => pow_ok (k := 200) h0 (by decide) (Int.le_trans (Int.mul_le_mul_of_nonneg_left h1 (by decide)) (by decide))
      -- mixed
      refine ⟨_, rfl, b, _, _, _, rfl, rfl, SqL.of e1, rfl, _, rfl, b, _, _, _, rfl, rfl, SqL.of e1, rfl, _, _, rfl, rfl, m1, _, _, rfl, rfl, _, _, rfl, rfl, p1, _, _, rfl, rfl, pk 38 (by decide) (by decide), _, _, rfl, rfl, _, _, rfl, rfl, by show (0 : Int) < 10 ^ 38 + 133; decide, ?_⟩
      have r0 : 0 ≤ (y + 49979687 * (z + 1)) ^ 3 % (10 ^ 38 + 133) := Int.emod_nonneg _ (by decide)
      have r1 : (y + 49979687 * (z + 1)) ^ 3 % (10 ^ 38 + 133) < 10 ^ 40 := Int.lt_trans (Int.emod_lt_of_pos _ (by decide)) (by decide)
      generalize hmx : (y + 49979687 * (z + 1)) ^ 3 % (10 ^ 38 + 133) = mx at r0 r1
      have emx : (y + 49979687 * (z + 1)) ^ (3 : Int).toNat % (10 ^ (38 : Int).toNat + 133) = mx := hmx
      show tSeq _ _ _ [_, _, _, some (V.int ((y + 49979687 * (z + 1)) ^ (3 : Int).toNat % (10 ^ (38 : Int).toNat + 133)))] _
      rw [emx]
      have p2 : CPowW (mx + 67867979 * (z + 1)) 3 := mix_ok r0 r1 (by omega) (by omega) (by decide) (by decide) (by decide) (by decide)
      refine ⟨_, rfl, _, rfl, b, _, _, _, rfl, rfl, SqL.of e1, rfl, _, _, rfl, rfl, m2, _, _, rfl, rfl, _, _, rfl, rfl, p2, _, _, rfl, rfl, pk 35 (by decide) (by decide), _, _, rfl, rfl, _, _, rfl, rfl, by show (0 : Int) < 10 ^ 35 + 69; decide, ?_⟩
      refine ⟨_, rfl, _, _, rfl, rfl, divW_small (by decide) (by decide), _, rfl, _, _, rfl, rfl, by show (0 : Int) < wd; omega, ?_⟩
      exact q _ _ (Int.emod_nonneg _ (by omega)) (Int.emod_lt_of_pos _ (by omega)) x1 ⟨_, _, _, e1, hx, hy, hy2, by omega, by omega⟩
end
end K02
namespace K02
open PySem PySem.Spec PyProof.Rows L2 GxR MM
section
variable {P : Program} {w : World} {K : PySem.W.Frag} {mg : Str → Option Value} {base : Heap} {f : Addr} {fd : FuncData} {n : Nat}
def spRow : Sp := fun vs H Q _ => ∃ (b : Addr) (sz : Nat) (m : Nat), vs = [.ref b, .int sz] ∧ Bag m H b ∧ m + 9 < 1000000 ∧ 1 ≤ sz ∧ sz ≤ 9 ∧
  ∀ p (ns : List Int) H', IsRow ns → ns.length = sz → ExB (At1 b) H H' → H p = none → FTup H' p (ns.map V.int) → Bag (m + 9) H' b → Q (.ref p) H'
theorem d_law_row (F : FnP K "_law_row" s_law_row f fd) (g : mg "_law_row" = some (.ref f)) (B : Bl mg) (C_law_dip : CallD P w K mg base n "_law_dip" ["bag", "wide"] spDip) : CallD P w K mg base (n + 1) "_law_row" ["bag", "size"] spRow := by
  refine callD F g sc_law_row (fun _ _ _ _ _ _ us hl => match us, hl with | [_, _], _ => rfl) (fun vs H Q E h => ?_) (fun cdv A outer s H vs Q E _ hr hG h => ?_)
  · obtain ⟨b, sz, m, rfl, _⟩ := h; rfl
  · obtain ⟨b, sz, m, rfl, hB, hm, hs1, hs9, q⟩ := h
    refine ⟨_, (pss_cons (ps_set (i := 2) sc_law_row.nd rfl (Or.inr rfl) (pe_listRg rfl (by rfl) B.list (prg_1 (by rfl) B.range (pv 1))))
      (pss_one (ps_ret (k_tupOfF (K := K) rfl (by rfl) B.tuple (pe_lc (own := [("k", 3)]) (g := gName 3) rfl sc_law_row.nd (pi_range1 rfl B.range (pa_cons (pv 1) pa_nil)) (blkOk_by (N := N_law_row) (sc := defScope s_law_row) (by decide +kernel)) (fun _ _ _ _ _ => (pg_name (i := 3) sc_law_row.nd rfl (by first | exact Or.inl rfl | exact Or.inr rfl))) (fun _ _ _ _ _ => pts_nil) (fun _ _ _ _ _ => (k_bm (K := K) rfl PySem.F.plainAttrs_list PySem.F.slot_list_pop PySem.F.type_list_pop mt_popAt (pv 2) (pa_cons (pe_c C_law_dip hr hG (pa_cons (pv 0) (pa_cons (pe_callB (k_len (K := K) rfl) (by rfl) B.len PySem.boot_len (pa_cons (pv 2) pa_nil)) pa_nil))) pa_nil)))))))), ?_⟩
    have bne : H b ≠ none := by obtain ⟨_, _, _, e, _⟩ := hB; rw [e]; exact fun z => nomatch z
    refine ⟨_, rfl, _, rfl, RgOk.of_le (Int.le_refl _) (by omega) (by decide) (by omega), fun lf nlf => ?_⟩
    have x1 : Ex H (upd H lf (.lst (rgV 0 (sz : Int)))) := ex_new nlf
    have e1 : (upd H lf (.lst (rgV 0 (sz : Int)))) lf = some (.lst (((List.range sz).map Int.ofNat).map V.int)) := by rw [upd_same, rgV_ints]
    generalize upd H lf (.lst (rgV 0 (sz : Int))) = H1 at x1 e1 ⊢
    have blf : b ≠ lf := fun z => bne (z ▸ nlf)
    refine ⟨_, rfl, _, rfl, by omega, by omega, fun D nD => ?_⟩
    have bD : b ≠ D := fun z => x1.still b bne (z ▸ nD)
    have lD : lf ≠ D := fun z => by rw [z, nD] at e1; cases e1
    refine lc_it walk_range (fun i H2 => ∃ rest acc : List Int, H2 lf = some (.lst (rest.map V.int)) ∧ H2 D = some (.lst (acc.map V.int)) ∧ (acc ++ rest).Perm ((List.range sz).map Int.ofNat) ∧ acc.length = i ∧ ExB (At1 b) H H2 ∧ Bag (m + i) H2 b)
      ⟨_, [], by rw [upd_ne lD]; exact e1, upd_same, List.Perm.refl _, rfl, (x1.trans (ex_new nD)).of, (hB.ex x1).ex (ex_new nD)⟩ (fun _ _ _ _ => trivial) ?_ ?_
    · rintro i x H2 H2' hi ⟨rest, acc, el, eD, hp, hl, x2, b2⟩ ⟨rfl, rfl⟩
      have hlen : acc.length + rest.length = sz := by have := hp.length_eq; rw [List.length_append, List.length_map, List.length_range] at this; exact this
      have hi' : i < sz := by omega
      refine ⟨rfl, yes_go ?_⟩
      refine ⟨_, rfl, .inl ⟨rfl, _, SqL.of el⟩, _, rfl, _, rfl, lf, _, rfl, .inl (SqL.of el), ?_⟩
      rw [List.length_map]
      refine ⟨b, (rest.length : Int), m + i, rfl, b2, by omega, by omega, by omega, fun v H3 v0 v1 x3 b3 => ?_⟩
      have el3 := x3.lst el (fun z => blf z.symm)
      have eD3 := x3.lst eD (fun z => bD z.symm)
      have hv : v.toNat < rest.length := by omega
      refine ⟨lf, _, v, v.toNat, .int rest[v.toNat], rfl, rfl, el3, by omega, by omega, (ixN_seq (by unfold ixN; rw [if_pos v0, if_pos (by rw [List.length_map]; omega)])).1, by rw [List.getElem?_map, List.getElem?_eq_getElem hv]; rfl, ?_⟩
      have eD4 : (upd H3 lf (.lst ((rest.map V.int).eraseIdx v.toNat))) D = some (.lst (acc.map V.int)) := by rw [upd_ne lD.symm]; exact eD3
      refine ⟨_, eD4, small1000 (by rw [List.length_map]; omega), rest.eraseIdx v.toNat, acc ++ [rest[v.toNat]], ?_, ?_, ?_, by rw [List.length_append, hl]; rfl, ?_, ?_⟩
      · rw [upd_ne lD, upd_same, erase_map]
      · rw [upd_same, List.map_append]; rfl
      · have h1 : rest.Perm (rest[v.toNat] :: rest.eraseIdx v.toNat) := erase_perm rest v.toNat hv
        have h2 : (acc ++ [rest[v.toNat]] ++ rest.eraseIdx v.toNat).Perm (acc ++ rest) := by
          rw [List.append_assoc]; exact List.Perm.append_left acc h1.symm
        exact h2.trans hp
      · exact ((x2.trans x3).then (ex_set el3) fun a ha => .inl (by rw [show a = lf from ha]; exact nlf)).then (ex_set eD4) fun a ha => .inl (by rw [show a = D from ha]; exact x1.fresh nD)
      · exact (b3.exB (ex_set el3) blf).exB (ex_set eD4) bD
    · rintro H2 ⟨rest, acc, el, eD, hp, hl, x2, b2⟩
      have hl' : acc.length = sz := by rw [hl]; omega
      have hr0 : rest = [] := by
        have := hp.length_eq
        rw [List.length_append, List.length_map, List.length_range, hl'] at this
        exact List.length_eq_zero_iff.mp (by omega)
      subst hr0
      rw [List.append_nil] at hp
      refine ⟨D, _, rfl, SqL.of eD, fun p H3 x3 np e3 => ?_⟩
      exact q p acc _ ⟨by omega, by omega, by rw [hl']; exact hp⟩ hl' (x2.trans x3.of) (x2.fresh np) e3 ((b2.mono (by omega)).ex x3)
end
end K02
namespace MM
open PySem PySem.Spec PyProof.Rows L2 GxR
/-! ### lists of data, item by item -/
theorem dpAll_of {K : PySem.W.Frag} {H : Hp} : ∀ {vs : List V} {ds : List PyData}, vs.length = ds.length → (∀ (k : Nat) v d, vs[k]? = some v → ds[k]? = some d → Dp K H v d) → DpAll K H vs ds
  | [], [], _, _ => .nil
  | [], _ :: _, h, _ => by simp at h
  | _ :: _, [], h, _ => by simp at h
  | v :: vs, d :: ds, h, f => .cons (f 0 v d (by simp) (by simp)) (dpAll_of (by simpa using h) fun k x e h1 h2 => f (k + 1) x e (by simpa using h1) (by simpa using h2))
/-- a list at p of the lists at ls, each the ints of L -/
theorem dp_lists {K : PySem.W.Frag} {H : Hp} {p : Addr} {ls : List Addr} {L : List (List Int)} (hp : H p = some (.lst (ls.map V.ref))) (hl : ls.length = L.length) (h : ∀ (k : Nat) l xs, ls[k]? = some l → L[k]? = some xs → H l = some (.lst (xs.map V.int))) :
    Dp K H (.ref p) (.list (L.map fun (xs : List Int) => .list (xs.map PyData.int))) := by
  refine .lst (SqL.of hp) (dpAll_of (by rw [List.length_map, List.length_map, hl]) fun k v d h1 h2 => ?_)
  rw [List.getElem?_map] at h1 h2
  cases e1 : ls[k]? with
  | none => rw [e1] at h1; cases h1
  | some l =>
    cases e2 : L[k]? with
    | none => rw [e2] at h2; cases h2
    | some xs =>
      rw [e1] at h1; rw [e2] at h2; cases h1; cases h2
      exact dp_ints (SqL.of (h k l xs e1 e2))
/-- the tuples at ts are the pairs ps -/
structure Tups (H : Hp) (ps : List (Nat × Nat)) (ts : List Addr) : Prop where
  len : ts.length = ps.length
  at_ : ∀ (k : Nat) t p, ts[k]? = some t → ps[k]? = some p → H t = some (.tup [.int (p.1 : Nat), .int (p.2 : Nat)])
theorem Tups.ex {B : Addr → Prop} {H H' : Hp} {ps : List (Nat × Nat)} {ts : List Addr} (h : Tups H ps ts) (e : ExB B H H') : Tups H' ps ts := ⟨h.len, fun k t p a b => e.tup (h.at_ k t p a b)⟩
theorem Tups.app {H : Hp} {ps qs : List (Nat × Nat)} {ts us : List Addr} (h : Tups H ps ts) (g : Tups H qs us) : Tups H (ps ++ qs) (ts ++ us) := by
  refine ⟨by rw [List.length_append, List.length_append, h.len, g.len], fun k t p a b => ?_⟩
  by_cases hk : k < ts.length
  · rw [List.getElem?_append_left hk] at a
    rw [List.getElem?_append_left (by rw [← h.len]; exact hk)] at b
    exact h.at_ k t p a b
  · rw [List.getElem?_append_right (by omega)] at a
    rw [List.getElem?_append_right (by rw [← h.len]; omega), ← h.len] at b
    exact g.at_ _ t p a b
theorem tups_one {H : Hp} {t : Addr} {i j : Nat} (h : H t = some (.tup [.int (i : Nat), .int (j : Nat)])) : Tups H [(i, j)] [t] := by
  refine ⟨rfl, fun k t' p a b => ?_⟩
  cases k with
  | zero => cases a; cases b; exact h
  | succ k => simp at a
def prD2 (p : Nat × Nat) : PyData := .tuple [.int (p.1 : Nat), .int (p.2 : Nat)]
theorem dp_pair {K : PySem.W.Frag} {H : Hp} {t : Addr} {p : Nat × Nat} (h : H t = some (.tup [.int (p.1 : Nat), .int (p.2 : Nat)])) : Dp K H (.ref t) (prD2 p) := .tup (SqT.of h) (.cons (.int _) (.cons (.int _) .nil))
theorem Tups.dp {K : PySem.W.Frag} {H : Hp} {ps : List (Nat × Nat)} {ts : List Addr} {a : Addr} (h : Tups H ps ts) (ha : H a = some (.lst (ts.map V.ref))) : Dp K H (.ref a) (.list (ps.map prD2)) := by
  refine .lst (SqL.of ha) (dpAll_of (by rw [List.length_map, List.length_map, h.len]) fun k v d h1 h2 => ?_)
  rw [List.getElem?_map] at h1 h2
  cases e1 : ts[k]? with
  | none => rw [e1] at h1; cases h1
  | some t =>
    cases e2 : ps[k]? with
    | none => rw [e2] at h2; cases h2
    | some p =>
      rw [e1] at h1; rw [e2] at h2; cases h1; cases h2
      exact dp_pair (h.at_ k t p e1 e2)
theorem nice_pair {p : Nat × Nat} (h1 : p.1 ≤ 100) (h2 : p.2 ≤ 100) : Nice 1 (2 * 53 + 3) (prD2 p) := nice_tuple (fun d hd => by
  rcases List.mem_cons.mp hd with e | hd
  · rw [e]; exact nice_int (by omega)
  · rw [List.mem_singleton.mp hd]; exact nice_int (by omega)) (Nat.le_refl _)
def headD : Option (Nat × Nat) → PyData
  | none => .none
  | some p => prD2 p
theorem dp_head {K : PySem.W.Frag} {H : Hp} {v : V} {o : Option (Nat × Nat)} (h : CornV H v o) : Dp K H v (headD o) := by
  cases o with
  | none => rw [show v = .non from h]; exact .non
  | some p => obtain ⟨T, rfl, e⟩ := h; exact dp_pair e
theorem nice_head {o : Option (Nat × Nat)} (h : ∀ p, o = some p → p.1 ≤ 100 ∧ p.2 ≤ 100) : Nice 1 (2 * 53 + 3) (headD o) := by
  cases o with
  | none => exact nice_none.mono (by decide) (by decide)
  | some p => exact nice_pair (h p rfl).1 (h p rfl).2
theorem eqv_nil_refs {ds : List PyData} : PyData.eqv (.list ds) (.list []) = decide (ds = []) := by
  cases ds <;> simp [PyData.eqv, PyData.eqvAll]
end MM
namespace MM
open PySem PySem.Spec PyProof.Rows L2 GxR
/-- the script: frozen, or of the written part -/
def Script (K : PySem.W.Frag) (H : Hp) (a : Addr) (xs : List V) : Prop :=
  (∃ o, H a = some (.frz o (.lst xs))) ∨ ∃ (o : Obj) (its : Array Value) (n : Nat), K.lookup a = some o ∧ o.cls = .type "list" ∧ o.dict = none ∧ o.data = .seq its n ∧ its.size ≤ sizeLine ∧ Vals xs its.toList
section
variable {K : PySem.W.Frag} {H H' : Hp} {a : Addr} {xs : List V} {B : Addr → Prop}
theorem Script.sql (h : Script K H a xs) : SqL K H a xs := h.elim (fun z => .inl (.inr z)) .inr
theorem Script.ex (h : Script K H a xs) (e : ExB B H H') : Script K H' a xs := h.elim (fun ⟨o, z⟩ => .inl ⟨o, e.fix _ _ z trivial⟩) .inr
end
/-- pairs of rows of sz people -/
def Pairs (K : PySem.W.Frag) (H : Hp) (sz : Nat) (t : Addr) : Prop := ∃ (x y : Addr) (ns ms : List Int), H t = some (.tup [.ref x, .ref y]) ∧ SqT K H x (ns.map V.int) ∧ SqT K H y (ms.map V.int) ∧ IsRow ns ∧ IsRow ms ∧ ns.length = sz ∧ ms.length = sz
theorem Pairs.ex {K : PySem.W.Frag} {H H' : Hp} {B : Addr → Prop} {sz : Nat} {t : Addr} (h : Pairs K H sz t) (e : ExB B H H') : Pairs K H' sz t :=
  let ⟨x, y, ns, ms, a, b, c, r⟩ := h; ⟨x, y, ns, ms, e.tup a, e.sqt b, e.sqt c, r⟩
theorem IsRow.perm {ns ms : List Int} (r : IsRow ns) (h : ms.Perm ns) : IsRow ms := ⟨by rw [h.length_eq]; exact r.1, by rw [h.length_eq]; exact r.2.1, by rw [h.length_eq]; exact h.trans r.2.2⟩
end MM
namespace MM
open PySem PySem.Spec PyProof.Rows L2 GxR
section
variable {X : Cx} {K : PySem.W.Frag} {pos : Pos}
theorem k_unl {tgs : List Expr} {k n : Nat} {u : TGs} (hK : X.K = K) (h : PG X (.Tuple tgs k pos) (gUnl X.K n u)) : PG X (.Tuple tgs k pos) (gUnl K n u) := hK ▸ h
end
/-- what is left, told once for several roads -/
theorem later {R : Hp → Prop} {G : Prop} {T : Hp → Prop} (k : (∀ H, R H → T H) → G) (rest : ∀ H, R H → T H) : G := k rest
/-! ### two neighbours exchanged, and corners -/
def swL (ns : List Int) (g : Nat) : List Int := ns.take g ++ [ns.getD (g + 1) 0, ns.getD g 0] ++ ns.drop (g + 2)
theorem two_at {ns : List Int} {g : Nat} (h : g + 1 < ns.length) : ∃ (l r : List Int) (a b : Int), ns = l ++ a :: b :: r ∧ l.length = g := by
  refine ⟨ns.take g, ns.drop (g + 2), ns[g], ns[g + 1], ?_, by rw [List.length_take]; omega⟩
  have e1 : ns.drop g = ns[g] :: ns.drop (g + 1) := List.drop_eq_getElem_cons (by omega)
  have e2 : ns.drop (g + 1) = ns[g + 1] :: ns.drop (g + 2) := List.drop_eq_getElem_cons h
  rw [← e2, ← e1, List.take_append_drop]
theorem sw_form (l r : List Int) (a b : Int) : swL (l ++ a :: b :: r) l.length = l ++ b :: a :: r := by
  unfold swL
  have e0 : (l ++ a :: b :: r).take l.length = l := List.take_left
  have e1 : (l ++ a :: b :: r).getD (l.length + 1) 0 = b := by rw [List.getD_eq_getElem?_getD, List.getElem?_append_right (by omega)]; simp
  have e2 : (l ++ a :: b :: r).getD l.length 0 = a := by rw [List.getD_eq_getElem?_getD, List.getElem?_append_right (by omega)]; simp
  have e3 : (l ++ a :: b :: r).drop (l.length + 2) = r := by
    have e : l ++ a :: b :: r = (l ++ [a, b]) ++ r := by simp
    rw [e]
    exact List.drop_left' (by simp)
  rw [e0, e1, e2, e3]; simp
theorem sw_perm {ns : List Int} {g : Nat} (h : g + 1 < ns.length) : (swL ns g).Perm ns := by
  obtain ⟨l, r, a, b, rfl, rfl⟩ := two_at h
  rw [sw_form]
  exact List.Perm.append_left l (List.Perm.swap a b r)
theorem sw_len {ns : List Int} {g : Nat} (h : g + 1 < ns.length) : (swL ns g).length = ns.length := (sw_perm h).length_eq
theorem sw_row {ns : List Int} {g : Nat} (h : g + 1 < ns.length) (r : IsRow ns) : IsRow (swL ns g) := r.perm (sw_perm h)
theorem sw_g {ns : List Int} {g : Nat} (h : g + 1 < ns.length) : (swL ns g).getD g 0 = ns.getD (g + 1) 0 ∧ (swL ns g).getD (g + 1) 0 = ns.getD g 0 := by
  obtain ⟨l, r, a, b, rfl, rfl⟩ := two_at h
  rw [sw_form]
  simp only [List.getD_eq_getElem?_getD]
  rw [List.getElem?_append_right (by omega), List.getElem?_append_right (by omega), List.getElem?_append_right (by omega), List.getElem?_append_right (by omega)]
  simp
theorem sw_cnt {ns : List Int} {g : Nat} (h : g + 1 < ns.length) {i : Nat} (j : Int) (hi : i ≠ g + 1) : cnt (swL ns g) i j = cnt ns i j := by
  obtain ⟨l, r, a, b, rfl, rfl⟩ := two_at h
  rw [sw_form]
  unfold cnt
  by_cases hle : i ≤ l.length
  · rw [List.take_append_of_le_length hle, List.take_append_of_le_length hle]
  · obtain ⟨k, rfl⟩ : ∃ k, i = l.length + (k + 2) := ⟨i - l.length - 2, by omega⟩
    rw [List.take_length_add_append, List.take_length_add_append]
    refine List.Perm.length_eq (List.Perm.filter _ (List.Perm.append_left l ?_))
    show (b :: a :: r.take k).Perm (a :: b :: r.take k)
    exact List.Perm.swap a b _
theorem getD_some {ns : List Int} {g : Nat} (h : g < ns.length) : ns[g]? = some (ns.getD g 0) := by
  rw [List.getD_eq_getElem?_getD, List.getElem?_eq_getElem h]; rfl
theorem cnt_at {ns : List Int} {g : Nat} (h : g < ns.length) (j : Int) : cnt ns (g + 1) j = cnt ns g j + if j ≤ ns.getD g 0 then 1 else 0 := cnt_succ (getD_some h) j
theorem cl_sw {ns : List Int} {g : Nat} (h : g + 1 < ns.length) {i : Nat} (hi : i ≠ g + 1) : cl (swL ns g) i = cl ns i := by
  unfold cl
  rw [sw_len h]
  refine List.map_congr_left fun j _ => ?_
  rw [sw_cnt h _ hi]
theorem sw_sum {ns : List Int} {g : Nat} (h : g + 1 < ns.length) (j : Int) : (cnt ns (g + 1) j : Int) + (cnt (swL ns g) (g + 1) j : Int) = (cnt ns g j : Int) + (cnt ns (g + 2) j : Int) := by
  have h1 := cnt_at (ns := ns) (g := g) (by omega) j
  have h2 : cnt ns (g + 2) j = cnt ns (g + 1) j + if j ≤ ns.getD (g + 1) 0 then 1 else 0 := cnt_at (ns := ns) (g := g + 1) h j
  have h3 := cnt_at (ns := swL ns g) (g := g) (by rw [sw_len h]; omega) j
  rw [(sw_g h).1, sw_cnt (i := g) h j (by omega)] at h3
  omega
/-- no corner of ns is more -/
theorem more_iff {ns ms : List Int} : more ns ms = [] ↔ ∀ i j : Nat, i < ns.length + 1 → j < ns.length + 1 → cnt ns i j ≤ cnt ms i j := by
  refine ⟨fun e i j hi hj => ?_, fun h => more_nil fun i j hi hj => Nat.not_lt.mpr (h i j hi hj)⟩
  refine Nat.not_lt.mp fun c => ?_
  have : (i, j) ∈ more ns ms := mem_moreTo.mpr ⟨hi, hj, c⟩
  rw [e] at this; cases this
def Off (ns ms : List Int) (g : Nat) : Prop := ∀ i j : Nat, i < ns.length + 1 → j < ns.length + 1 → i ≠ g + 1 → cnt ns i j ≤ cnt ms i j
def Low (ns : List Int) (g : Nat) : Prop := ns.getD g 0 ≤ ns.getD (g + 1) 0
def High (ns : List Int) (g : Nat) : Prop := ns.getD (g + 1) 0 ≤ ns.getD g 0
theorem off_iff {ns ms : List Int} {g : Nat} (h : g + 1 < ns.length) (hl : ns.length = ms.length) (hg : Low ns g ∨ High ms g) : more ns ms = [] ↔ Off ns ms g := by
  rw [more_iff]
  refine ⟨fun a i j hi hj _ => a i j hi hj, fun o i j hi hj => ?_⟩
  by_cases e : i = g + 1
  · subst e
    have a0 := o g j (by omega) hj (by omega)
    have a2 := o (g + 2) j (by omega) hj (by omega)
    have n1 := cnt_at (ns := ns) (g := g) (by omega) (j : Int)
    have n2 : cnt ns (g + 2) (j : Int) = cnt ns (g + 1) (j : Int) + if (j : Int) ≤ ns.getD (g + 1) 0 then 1 else 0 := cnt_at (ns := ns) (g := g + 1) h (j : Int)
    have m1 := cnt_at (ns := ms) (g := g) (by omega) (j : Int)
    have m2 : cnt ms (g + 2) (j : Int) = cnt ms (g + 1) (j : Int) + if (j : Int) ≤ ms.getD (g + 1) 0 then 1 else 0 := cnt_at (ns := ms) (g := g + 1) (by omega) (j : Int)
    rcases hg with hg | hg
    · unfold Low at hg
      split at n1 <;> split at n2 <;> split at m1 <;> split at m2 <;> omega
    · unfold High at hg
      split at n1 <;> split at n2 <;> split at m1 <;> split at m2 <;> omega
  · exact o i j hi hj e
/-- of so many people, its corners alike but at the gap -/
structure Like (ns ms : List Int) (g : Nat) : Prop where
  len : ms.length = ns.length
  row : IsRow ms
  cnt : ∀ (i : Nat) (j : Int), i ≠ g + 1 → cnt ms i j = cnt ns i j
theorem Like.self {ns : List Int} {g : Nat} (r : IsRow ns) : Like ns ns g := ⟨rfl, r, fun _ _ _ => rfl⟩
theorem Like.sw {ns : List Int} {g : Nat} (h : g + 1 < ns.length) (r : IsRow ns) : Like ns (swL ns g) g := ⟨sw_len h, sw_row h r, fun _ j hi => sw_cnt h j hi⟩
theorem Like.off {ns ms ns' ms' : List Int} {g : Nat} (a : Like ns ns' g) (b : Like ms ms' g) : Off ns' ms' g ↔ Off ns ms g := by
  unfold Off
  rw [a.len]
  constructor
  · intro h i j hi hj e
    have := h i j hi hj e
    rwa [a.cnt i j e, b.cnt i j e] at this
  · intro h i j hi hj e
    rw [a.cnt i j e, b.cnt i j e]; exact h i j hi hj e
theorem Like.bel {ns ms ns' ms' : List Int} {g : Nat} (a : Like ns ns' g) (b : Like ms ms' g) (h : g + 1 < ns.length) (hl : ns.length = ms.length) (hg : Low ns' g ∨ High ms' g) : decide (more ns' ms' = []) = true ↔ Off ns ms g := by
  rw [decide_eq_true_iff, off_iff (by rw [a.len]; exact h) (by rw [a.len, b.len, hl]) hg, a.off b]
theorem bel_off {ns ms : List Int} {g : Nat} (h : more ns ms = []) : Off ns ms g := fun i j hi hj _ => more_iff.mp h i j hi hj
end MM
namespace K02
open PySem PySem.Spec PyProof.Rows L2 GxR MM
section
variable {P : Program} {w : World} {K : PySem.W.Frag} {mg : Str → Option Value} {base : Heap} {f : Addr} {fd : FuncData} {n : Nat}
def spGap : Sp := fun vs H Q _ => ∃ i m : Int, vs = [.int i, .int m] ∧ Q (.bl (decide (0 ≤ i ∧ i ≤ m - 2))) H
theorem d_is_gap (F : FnP K "is_gap" s_is_gap f fd) (g : mg "is_gap" = some (.ref f)) (C_is_whole : CallD P w K mg base n "is_whole" ["thing"] (spWhole K)) : CallD P w K mg base (n + 1) "is_gap" ["thing", "many"] spGap := by
  refine callD F g sc_is_gap (fun _ _ _ _ _ _ us hl => match us, hl with | [_, _], _ => rfl) (fun vs H Q E h => ?_) (fun cdv A outer s H vs Q E _ hr hG h => ?_)
  · obtain ⟨x, m, rfl, _⟩ := h; rfl
  · obtain ⟨i, m, rfl, q⟩ := h
    refine ⟨_, (pss_one (ps_ret (pe_and (pe_c C_is_whole hr hG (pa_cons (pv 0) pa_nil)) (pe_one (pe_chain op_le op_le pe_int (pv 0) (pe_op op_sub (pv 1) pe_int)))))), ?_⟩
    refine ⟨.int i, rfl, .int i, "int", rfl, .int i, true, rfl, iteT ?_⟩
    refine ⟨_, rfl, _, _, rfl, rfl, decide (0 ≤ i), rfl, ?_⟩
    by_cases h1 : 0 ≤ i
    · rw [decide_eq_true h1]
      refine iteT ⟨_, rfl, _, _, rfl, rfl, _, _, rfl, rfl, ?_⟩
      have e : decide (0 ≤ i ∧ i ≤ m - 2) = decide (i ≤ m - 2) := by rw [Bool.eq_iff_iff]; simp [h1]
      rw [e] at q; exact q
    · rw [decide_eq_false h1]
      refine iteF ?_
      have e : decide (0 ≤ i ∧ i ≤ m - 2) = false := by simp [h1]
      rw [e] at q; exact q
def spSwapped (K : PySem.W.Frag) : Sp := fun vs H Q _ => ∃ (a : Addr) (ns : List Int) (g : Nat), vs = [.ref a, .int g] ∧ SqT K H a (ns.map V.int) ∧ g + 1 < ns.length ∧ ns.length ≤ 9 ∧ ∀ p H', Ex H H' → SqT K H' p ((swL ns g).map V.int) → Q (.ref p) H'
theorem d_swapped (F : FnP K "swapped" s_swapped f fd) (g : mg "swapped" = some (.ref f)) : CallD P w K mg base (n + 1) "swapped" ["row", "gap"] (spSwapped K) := by
  refine callD F g sc_swapped (fun _ _ _ _ _ _ us hl => match us, hl with | [_, _], _ => rfl) (fun vs H Q E h => ?_) (fun cdv A outer s H vs Q E _ hr hG h => ?_)
  · obtain ⟨a, ns, g, rfl, _⟩ := h; rfl
  · obtain ⟨a, ns, g, rfl, hT, hg, h9, q⟩ := h
    refine ⟨_, (pss_one (ps_ret (pe_op (k_catT (K := K) rfl) (pe_op (k_catT (K := K) rfl) (pe_slice (k_slt (K := K) rfl) (pv 0) po_none (po_some (pv 1))) (pe_tup (pa_cons (pe_ix (k_ixt (K := K) rfl) (pv 0) (pe_op op_add (pv 1) pe_int) (fun _ _ => rfl)) (pa_cons (pe_ix (k_ixt (K := K) rfl) (pv 0) (pv 1) (fun _ _ => rfl)) pa_nil)))) (pe_slice (k_slt (K := K) rfl) (pv 0) (po_some (pe_op op_add (pv 1) pe_int)) po_none)))), ?_⟩
    have sl : sizeLine = 16777216 := by decide
    refine ⟨_, rfl, _, rfl, _, rfl, a, _, rfl, hT, fun p1 H1 x1 h1 => ?_⟩
    rw [cutV_to] at h1
    have at_g : ∀ k : Nat, k < ns.length → (ns.map V.int)[k]? = some (.int (ns.getD k 0)) := fun k hk => by rw [List.getElem?_map, getD_some hk]; rfl
    have eg : (g : Int) + 1 = ((g + 1 : Nat) : Int) := by omega
    refine ⟨_, rfl, _, rfl, _, _, rfl, rfl, a, _, _, _, rfl, rfl, x1.sqt hT, by rw [eg]; exact at_of (by omega) (at_g _ hg), ?_⟩
    refine ⟨_, rfl, _, rfl, a, _, _, _, rfl, rfl, x1.sqt hT, at_of (by omega) (at_g g (by omega)), by show 2 ≤ sizeLine; decide, fun t nt => ?_⟩
    have x2 : Ex H1 (upd H1 t (.tup [.int (ns.getD (g + 1) 0), .int (ns.getD g 0)])) := ex_new nt
    refine ⟨p1, t, _, _, rfl, rfl, x2.sqt h1, SqT.of upd_same, by rw [List.length_take, List.length_map, sl]; simp; omega, fun p3 H3 x3 h3 => ?_⟩
    refine ⟨_, rfl, _, rfl, _, _, rfl, rfl, _, rfl, a, _, rfl, (x2.trans x3).sqt (x1.sqt hT), fun p4 H4 x4 h4 => ?_⟩
    rw [show (g : Int) + 2 = ((g + 2 : Nat) : Int) by omega, cutV_from] at h4
    refine ⟨p3, p4, _, _, rfl, rfl, x4.sqt h3, h4, by simp [sl]; omega, fun p5 H5 x5 h5 => ?_⟩
    refine q p5 H5 ((((x1.trans x2).trans x3).trans x4).trans x5) ?_
    unfold swL
    rw [List.map_append, List.map_append, List.map_take, List.map_drop]
    exact h5
def spCheckGap : Sp := fun vs H Q _ => ∃ i m : Int, vs = [.int i, .int m] ∧ 0 ≤ i ∧ i ≤ m - 2 ∧ Q .non H
theorem d_check_gap (F : FnP K "check_gap" s_check_gap f fd) (g : mg "check_gap" = some (.ref f)) (C_is_gap : CallD P w K mg base n "is_gap" ["thing", "many"] spGap) : CallD P w K mg base (n + 1) "check_gap" ["gap", "many"] spCheckGap := by
  refine callD F g sc_check_gap (fun _ _ _ _ _ _ us hl => match us, hl with | [_, _], _ => rfl) (fun vs H Q E h => ?_) (fun cdv A outer s H vs Q E _ hr hG h => ?_)
  · obtain ⟨i, m, rfl, _⟩ := h; rfl
  · obtain ⟨i, m, rfl, h0, h1, q⟩ := h
    refine ⟨_, (pss_one (ps_if (pt_not (pt_val (pe_c C_is_gap hr hG (pa_cons (pv 0) (pa_cons (pv 1) pa_nil)))))
      (pss_one ps_never)
      pss_nil)), ?_⟩
    refine ⟨_, rfl, _, rfl, i, m, rfl, ?_⟩
    rw [decide_eq_true (show 0 ≤ i ∧ i ≤ m - 2 from ⟨h0, h1⟩)]
    refine ⟨_, rfl, ?_⟩
    exact iteF q
def spChanged (K : PySem.W.Frag) (Pt : Addr) : Sp := fun vs H Q _ => ∃ (a : Addr) (ns : List Int) (g : Nat), vs = [.ref a, .int g] ∧ SqT K H a (ns.map V.int) ∧ TabG H Pt ∧ IsRow ns ∧ g + 1 < ns.length ∧ ∀ p H', Ex H H' → SqT K H' p ((swL ns g).map V.int) → Q (.ref p) H'
theorem d_changed {Pt : Addr} (F : FnP K "changed" s_changed f fd) (g : mg "changed" = some (.ref f)) (B : Bl mg) (C_check_row : CallD P w K mg base n "check_row" ["row"] (spCheckRow K Pt)) (C_check_gap : CallD P w K mg base n "check_gap" ["gap", "many"] spCheckGap) (C_swapped : CallD P w K mg base n "swapped" ["row", "gap"] (spSwapped K)) : CallD P w K mg base (n + 1) "changed" ["row", "gap"] (spChanged K Pt) := by
  refine callD F g sc_changed (fun _ _ _ _ _ _ us hl => match us, hl with | [_, _], _ => rfl) (fun vs H Q E h => ?_) (fun cdv A outer s H vs Q E _ hr hG h => ?_)
  · obtain ⟨a, ns, g, rfl, _⟩ := h; rfl
  · obtain ⟨a, ns, g, rfl, hT, hTab, hR, hg, q⟩ := h
    refine ⟨_, (pss_cons (ps_expr (pe_c C_check_row hr hG (pa_cons (pv 0) pa_nil)))
      (pss_cons (ps_expr (pe_c C_check_gap hr hG (pa_cons (pv 1) (pa_cons (pe_callB (k_len (K := K) rfl) (by rfl) B.len PySem.boot_len (pa_cons (pv 0) pa_nil)) pa_nil))))
      (pss_one (ps_ret (pe_c C_swapped hr hG (pa_cons (pv 0) (pa_cons (pv 1) pa_nil))))))), ?_⟩
    refine ⟨.ref a, rfl, a, ns, rfl, hT, hTab, hR, fun H1 x1 => ?_⟩
    refine ⟨_, rfl, .ref a, rfl, a, _, rfl, .inr (x1.sqt hT), (g : Int), ((ns.map V.int).length : Int), rfl, by omega, by rw [List.length_map]; omega, ?_⟩
    exact ⟨.ref a, rfl, _, rfl, a, ns, g, rfl, x1.sqt hT, hg, hR.2.1, fun p H2 x2 h2 => q p H2 (x1.trans x2) h2⟩
end
end K02
namespace MM
open PySem PySem.Spec PyProof.Rows L2 GxR
theorem walk_zipT {K : PySem.W.Frag} {a b : Addr} {xs ys : List V} {n : Nat} (h1 : xs.length = n) (h2 : ys.length = n) : Walk (RZ.ItzT K a b) n (fun H => SqT K H a xs ∧ SqT K H b ys) (YPair (fun i => xs[i]?) (fun i => ys[i]?)) := by
  refine ⟨fun i _ hi q => ?_, fun _ q => ⟨xs, ys, q.1, q.2, by omega⟩, fun i H v H' _ q y => ?_⟩
  · have h1 : i < xs.length := by omega
    have h2 : i < ys.length := by omega
    exact ⟨xs, ys, xs[i], ys[i], q.1, q.2, by simp [h1], by simp [h2]⟩
  · obtain ⟨T, x, z, h1, h2, h3, h4, h5⟩ := y
    exact ⟨T, x, z, h1, h2, h3, h4 xs q.1, h5 ys q.2⟩
/-! ### books, goings, the rows of a going -/
def BookOk (m : Nat) (gs : List Int) : Prop := ∀ x ∈ gs, 0 ≤ x ∧ x + 2 ≤ m
def row0 (n : Nat) : List Int := (List.range n).map Int.ofNat
theorem row0_len (n : Nat) : (row0 n).length = n := by unfold row0; rw [List.length_map, List.length_range]
theorem row0_row {n : Nat} (h1 : 1 ≤ n) (h9 : n ≤ 9) : IsRow (row0 n) := ⟨by rw [row0_len]; exact h1, by rw [row0_len]; exact h9, by rw [row0_len]; exact List.Perm.refl _⟩
def rowAt (r : List Int) (gs : List Int) (cs : List Bool) : Nat → List Int
  | 0 => r
  | k + 1 => if cs.getD k false = true then swL (rowAt r gs cs k) (gs.getD k 0).toNat else rowAt r gs cs k
theorem rowAt_ok {m : Nat} {r gs : List Int} {cs : List Bool} (hr : IsRow r) (hl : r.length = m) (hb : BookOk m gs) : ∀ k, k ≤ gs.length → IsRow (rowAt r gs cs k) ∧ (rowAt r gs cs k).length = m
  | 0, _ => ⟨hr, hl⟩
  | k + 1, hk => by
    obtain ⟨a, b⟩ := rowAt_ok (cs := cs) hr hl hb k (by omega)
    have hg := hb (gs.getD k 0) (by rw [List.getD_eq_getElem?_getD, List.getElem?_eq_getElem (by omega : k < gs.length)]; exact List.getElem_mem _)
    unfold rowAt
    by_cases c : cs.getD k false = true
    · rw [if_pos c]
      exact ⟨sw_row (by rw [b]; omega) a, by rw [sw_len (by rw [b]; omega), b]⟩
    · rw [if_neg c]; exact ⟨a, b⟩
theorem book_at {m : Nat} {gs : List Int} (hb : BookOk m gs) {k : Nat} (hk : k < gs.length) : ∃ g : Nat, gs.getD k 0 = (g : Int) ∧ g + 1 < m := by
  have hg := hb (gs.getD k 0) (by rw [List.getD_eq_getElem?_getD, List.getElem?_eq_getElem hk]; exact List.getElem_mem _)
  exact ⟨(gs.getD k 0).toNat, by omega, by omega⟩
/-- rows in a list: the first n of them -/
structure RowsTo (K : PySem.W.Frag) (H : Hp) (r gs : List Int) (cs : List Bool) (n : Nat) (ts : List Addr) : Prop where
  len : ts.length = n
  at_ : ∀ k t, ts[k]? = some t → SqT K H t ((rowAt r gs cs k).map V.int)
theorem RowsTo.ex {K : PySem.W.Frag} {B : Addr → Prop} {H H' : Hp} {r gs : List Int} {cs : List Bool} {n : Nat} {ts : List Addr} (h : RowsTo K H r gs cs n ts) (e : ExB B H H') : RowsTo K H' r gs cs n ts := ⟨h.len, fun k t a => e.sqt (h.at_ k t a)⟩
theorem RowsTo.push {K : PySem.W.Frag} {H : Hp} {r gs : List Int} {cs : List Bool} {n : Nat} {ts : List Addr} {t : Addr} (h : RowsTo K H r gs cs n ts) (q : SqT K H t ((rowAt r gs cs n).map V.int)) : RowsTo K H r gs cs (n + 1) (ts ++ [t]) := by
  refine ⟨by rw [List.length_append, h.len]; rfl, fun k u hk => ?_⟩
  by_cases hkn : k < ts.length
  · rw [List.getElem?_append_left hkn] at hk; exact h.at_ k u hk
  · rw [List.getElem?_append_right (by omega)] at hk
    have hk0 : k = ts.length := by
      have := (List.getElem?_eq_some_iff.mp hk).1; simp at this; omega
    subst hk0
    simp at hk; subst hk
    rw [h.len]; exact q
def rowsD (r gs : List Int) (cs : List Bool) (n : Nat) : List PyData := (List.range n).map fun k => .tuple ((rowAt r gs cs k).map PyData.int)
theorem dp_row1 {K : PySem.W.Frag} {H : Hp} {t : Addr} {ns : List Int} (h : SqT K H t (ns.map V.int)) : Dp K H (.ref t) (.tuple (ns.map PyData.int)) := dp_row h
theorem RowsTo.dp {K : PySem.W.Frag} {H : Hp} {r gs : List Int} {cs : List Bool} {n : Nat} {ts : List Addr} {a : Addr} (h : RowsTo K H r gs cs n ts) (ha : H a = some (.lst (ts.map V.ref))) : Dp K H (.ref a) (.list (rowsD r gs cs n)) := by
  refine .lst (SqL.of ha) (dpAll_of (by unfold rowsD; rw [List.length_map, List.length_map, List.length_range, h.len]) fun k v d h1 h2 => ?_)
  rw [List.getElem?_map] at h1
  unfold rowsD at h2
  rw [List.getElem?_map] at h2
  cases e : ts[k]? with
  | none => rw [e] at h1; cases h1
  | some t =>
    rw [e] at h1
    cases h1
    have hk : k < n := by rw [← h.len]; exact (List.getElem?_eq_some_iff.mp e).1
    rw [List.getElem?_range hk] at h2
    cases h2
    exact dp_row (h.at_ k t e)
theorem nice_row {ns : List Int} (r : IsRow ns) : Nice 1 (9 * (51 + 2) + 3) (.tuple (ns.map PyData.int)) := nice_tuple (nice_ints fun i hi => by have := r.mem hi; have := r.2.1; omega) (by rw [List.length_map]; exact r.2.1)
theorem nice_rows {m : Nat} {r gs : List Int} {cs : List Bool} (hr : IsRow r) (hl : r.length = m) (hb : BookOk m gs) (hn : gs.length ≤ 100) : Nice 2 (101 * (9 * (51 + 2) + 3 + 2) + 3) (.list (rowsD r gs cs (gs.length + 1))) := nice_list (fun d hd => by
  unfold rowsD at hd
  obtain ⟨k, hk, rfl⟩ := List.mem_map.mp hd
  exact nice_row (rowAt_ok hr hl hb k (by have := List.mem_range.mp hk; omega)).1) (by unfold rowsD; rw [List.length_map, List.length_range]; omega)
end MM
namespace K02
open PySem PySem.Spec PyProof.Rows L2 GxR MM
section
variable {P : Program} {w : World} {K : PySem.W.Frag} {mg : Str → Option Value} {base : Heap} {f : Addr} {fd : FuncData} {n : Nat}
theorem at_neg {xs : List V} {i : Nat} (h : xs.length = i + 1) : atI xs (-1) = xs[i]? := by
  have e : ixN xs.length (-1) = some i := by
    unfold ixN
    rw [if_neg (by decide), if_pos (by omega), show ((-1 : Int) + (xs.length : Int)).toNat = i by omega]
  unfold atI
  rw [e]; rfl
def spCheckMany : Sp := fun vs H Q _ => ∃ i : Int, vs = [.int i] ∧ 1 ≤ i ∧ i ≤ 9 ∧ Q .non H
theorem d_check_many (F : FnP K "check_many" s_check_many f fd) (g : mg "check_many" = some (.ref f)) (C_is_many : CallD P w K mg base n "is_many" ["thing"] spMany) : CallD P w K mg base (n + 1) "check_many" ["many"] spCheckMany := by
  refine callD F g sc_check_many (fun _ _ _ _ _ _ us hl => match us, hl with | [_], _ => rfl) (fun vs H Q E h => ?_) (fun cdv A outer s H vs Q E _ hr hG h => ?_)
  · obtain ⟨i, rfl, _⟩ := h; rfl
  · obtain ⟨i, rfl, h1, h9, q⟩ := h
    refine ⟨_, (pss_one (ps_if (pt_not (pt_val (pe_c C_is_many hr hG (pa_cons (pv 0) pa_nil))))
      (pss_one ps_never)
      pss_nil)), ?_⟩
    refine ⟨_, rfl, i, rfl, ?_⟩
    rw [decide_eq_true (⟨h1, h9⟩ : 1 ≤ i ∧ i ≤ 9)]
    exact ⟨_, rfl, iteF q⟩
def spBook (K : PySem.W.Frag) (Pb : Addr) : Sp := fun vs H Q _ => ∃ (a : Addr) (gs : List Int) (m : Nat), vs = [.ref a, .int m] ∧ SqT K H a (gs.map V.int) ∧ TabG H Pb ∧ 1 ≤ m ∧ m ≤ 9 ∧ BookOk m gs ∧ ∀ H', Ex H H' → Q (.bl true) H'
theorem d_is_book {c Pb fG fW : Addr} {fdG fdW : FuncData} (F : FnP K "is_book" s_is_book f fd) (g : mg "is_book" = some (.ref f)) (B : Bl mg) (C_check_many : CallD P w K mg base n "check_many" ["many"] spCheckMany) (FG : FnP K "is_gap" s_is_gap fG fdG) (gG : mg "is_gap" = some (.ref fG)) (FW : FnP K "is_whole" s_is_whole fW fdW) (gW : mg "is_whole" = some (.ref fW))
    (TB : TabB base mg c Pb) (hc : ∀ oc od fd osl, K.lookup f = some ⟨oc, od, .func fd, osl⟩ → fd.code = .ref c) : CallD P w K mg base (n + 1) "is_book" ["thing", "many"] (spBook K Pb) := by
  refine callD F g sc_is_book (fun _ _ _ _ _ _ us hl => match us, hl with | [_, _], _ => rfl) (fun vs H Q E h => ?_) (fun cdv A outer s H vs Q E hcd0 hr hG h => ?_)
  · obtain ⟨a, gs, m, rfl, _⟩ := h; rfl
  · obtain ⟨a, gs, m, rfl, hT, hTab, h1, h9, hB, q⟩ := h
    have hcd : cdv = .ref c := by
      obtain ⟨oc, od, dV, kV, doc, pm, an, cdv', ct, osl, e1, lk, _⟩ := F.ex
      rw [← hcd0 _ _ _ _ lk]; exact hc _ _ _ _ lk
    subst hcd
    refine ⟨_, (pss_cons (ps_expr (pe_c C_check_many hr hG (pa_cons (pv 1) pa_nil)))
      (pss_one (ps_ret (pe_and (pe_callB (k_isi (K := K) rfl) (by rfl) B.isinstance (by decide +kernel) (pa_cons (pv 0) (pa_cons (pe_bltn (v := .ty "tuple") (by rfl) B.tuple (by decide +kernel) rfl) pa_nil))) (pe_one (pe_allT (ok := fun σ H v => (∃ T, Kd _ H v T) ∧ ∃ m : Int, σ[1]? = some (some (.int m))) (pb := gapAt 1) hr (by rfl) B.all (by decide +kernel) TB rfl ⟨rfl, rfl, by decide +kernel, rfl, rfl, fun y hy e => free_one (z := "many") (by decide +kernel) rfl y hy e⟩ (pv 0) (elt_gap FG FW hr gG gW B.isinstance B.int B.bool rfl ⟨_, _, _, _, _, _, _, _, _, _, _, rfl⟩ (fun _ _ _ _ _ _ us hl => match us, hl with | [_, _], _ => rfl) rfl ⟨_, _, _, _, _, _, _, _, _, _, _, ⟨0, 0, 0, 0⟩, rfl⟩ (fun _ _ _ _ _ _ us hl => match us, hl with | [_], _ => rfl) rfl rfl rfl rfl rfl (fun c hc => by cases hc; rfl) rfl) (fun _ => rfl))))))), ?_⟩
    refine ⟨_, rfl, (m : Int), rfl, by omega, by omega, ?_⟩
    refine ⟨.ref a, rfl, .ref a, .ty "tuple", _, _, true, rfl, .ty _, (Kd.tup hT).ty, kd_tuple (Kd.tup hT), true, rfl, ?_⟩
    refine ⟨.ref a, rfl, a, gs.map V.int, rfl, hT, hTab, fun x hx => ⟨by obtain ⟨i, _, rfl⟩ := List.mem_map.mp hx; exact ⟨_, .int i⟩, (m : Int), rfl⟩, fun H2 t2 => ?_⟩
    have e2 : (gs.map V.int).all (gapAt 1 [some (.ref a), some (.int (m : Int))]) = true := by
      rw [List.all_eq_true]; intro x hx; obtain ⟨i, hi, rfl⟩ := List.mem_map.mp hx
      have := hB i hi
      show decide (0 ≤ i ∧ i ≤ (m : Int) - 2) = true
      exact decide_eq_true ⟨this.1, by omega⟩
    have q2 := q H2 (ex_tab hTab t2)
    rw [← e2] at q2
    exact q2
def spCheckBook (K : PySem.W.Frag) (Pb : Addr) : Sp := fun vs H Q _ => ∃ (a : Addr) (gs : List Int) (m : Nat), vs = [.ref a, .int m] ∧ SqT K H a (gs.map V.int) ∧ TabG H Pb ∧ 1 ≤ m ∧ m ≤ 9 ∧ BookOk m gs ∧ ∀ H', Ex H H' → Q .non H'
theorem d_check_book {Pb : Addr} (F : FnP K "check_book" s_check_book f fd) (g : mg "check_book" = some (.ref f)) (C_is_book : CallD P w K mg base n "is_book" ["thing", "many"] (spBook K Pb)) : CallD P w K mg base (n + 1) "check_book" ["book", "many"] (spCheckBook K Pb) := by
  refine callD F g sc_check_book (fun _ _ _ _ _ _ us hl => match us, hl with | [_, _], _ => rfl) (fun vs H Q E h => ?_) (fun cdv A outer s H vs Q E _ hr hG h => ?_)
  · obtain ⟨a, gs, m, rfl, _⟩ := h; rfl
  · obtain ⟨a, gs, m, rfl, hT, hTab, h1, h9, hB, q⟩ := h
    refine ⟨_, (pss_one (ps_if (pt_not (pt_val (pe_c C_is_book hr hG (pa_cons (pv 0) (pa_cons (pv 1) pa_nil)))))
      (pss_one ps_never)
      pss_nil)), ?_⟩
    exact ⟨_, rfl, _, rfl, a, gs, m, rfl, hT, hTab, h1, h9, hB, fun H' x => ⟨_, rfl, iteF (q H' x)⟩⟩
def spRowOf : Sp := fun vs H Q _ => ∃ m : Nat, vs = [.int m] ∧ 1 ≤ m ∧ m ≤ 9 ∧ ∀ p, H p = none → Q (.ref p) (upd H p (.tup ((row0 m).map V.int)))
theorem d_row_of (F : FnP K "row_of" s_row_of f fd) (g : mg "row_of" = some (.ref f)) (B : Bl mg) (C_check_many : CallD P w K mg base n "check_many" ["many"] spCheckMany) : CallD P w K mg base (n + 1) "row_of" ["many"] spRowOf := by
  refine callD F g sc_row_of (fun _ _ _ _ _ _ us hl => match us, hl with | [_], _ => rfl) (fun vs H Q E h => ?_) (fun cdv A outer s H vs Q E _ hr hG h => ?_)
  · obtain ⟨m, rfl, _⟩ := h; rfl
  · obtain ⟨m, rfl, h1, h9, q⟩ := h
    refine ⟨_, (pss_cons (ps_expr (pe_c C_check_many hr hG (pa_cons (pv 0) pa_nil)))
      (pss_one (ps_ret (pe_tupRg rfl (by rfl) B.tuple (prg_1 (by rfl) B.range (pv 0)))))), ?_⟩
    refine ⟨_, rfl, (m : Int), rfl, by omega, by omega, ?_⟩
    refine ⟨_, rfl, _, rfl, RgOk.of_le (Int.le_refl _) (by omega) (by decide) (by omega), fun p np => ?_⟩
    have := q p np
    rw [show (row0 m).map V.int = rgV 0 (m : Int) from (rgV_ints m).symm] at this
    exact this
def spGoing (K : PySem.W.Frag) (Pg : Addr) : Sp := fun vs H Q _ => ∃ (c a : Addr) (cs : List Bool) (gs : List Int), vs = [.ref c, .ref a] ∧ SqT K H c (cs.map V.bl) ∧ SqT K H a (gs.map V.int) ∧ TabG H Pg ∧ cs.length = gs.length ∧ ∀ H', Ex H H' → Q (.bl true) H'
theorem d_is_going {c Pg : Addr} (F : FnP K "is_going" s_is_going f fd) (g : mg "is_going" = some (.ref f)) (B : Bl mg) (TB : TabB base mg c Pg) (hc : ∀ oc od fd osl, K.lookup f = some ⟨oc, od, .func fd, osl⟩ → fd.code = .ref c) : CallD P w K mg base (n + 1) "is_going" ["thing", "book"] (spGoing K Pg) := by
  refine callD F g sc_is_going (fun _ _ _ _ _ _ us hl => match us, hl with | [_, _], _ => rfl) (fun vs H Q E h => ?_) (fun cdv A outer s H vs Q E hcd0 hr hG h => ?_)
  · obtain ⟨a, b, cs, gs, rfl, _⟩ := h; rfl
  · obtain ⟨a, b, cs, gs, rfl, hT, hT2, hTab, hl, q⟩ := h
    have hcd : cdv = .ref c := by
      obtain ⟨oc, od, dV, kV, doc, pm, an, cdv', ct, osl, e1, lk, _⟩ := F.ex
      rw [← hcd0 _ _ _ _ lk]; exact hc _ _ _ _ lk
    subst hcd
    refine ⟨_, (pss_cons (ps_if (PW.pt (pw_or (pt_not (pt_val (pe_callB (k_isi (K := K) rfl) (by rfl) B.isinstance (by decide +kernel) (pa_cons (pv 0) (pa_cons (pe_bltn (v := .ty "tuple") (by rfl) B.tuple (by decide +kernel) rfl) pa_nil))))) (pw_or1 (pt_cmpR op_ne (pe_callB (k_len (K := K) rfl) (by rfl) B.len PySem.boot_len (pa_cons (pv 0) pa_nil)) (pe_callB (k_len (K := K) rfl) (by rfl) B.len PySem.boot_len (pa_cons (pv 1) pa_nil)) (nomark _)))))
      (pss_one (ps_ret pe_bl))
      pss_nil)
      (pss_one (ps_ret (pe_allT (ok := okKd _) (pb := fun _ v => isB v) hr (by rfl) B.all (by decide +kernel) TB rfl ⟨rfl, rfl, by decide +kernel, rfl, rfl, fun y hy e => (nofree_gen rfl y hy e).elim⟩ (pv 0) (elt_isB B.isinstance B.bool rfl rfl rfl rfl) (fun _ => rfl))))), ?_⟩
    refine ⟨.ref a, rfl, .ref a, .ty "tuple", _, _, true, rfl, .ty _, (Kd.tup hT).ty, kd_tuple (Kd.tup hT), true, rfl, iteF ?_⟩
    refine ⟨_, rfl, a, _, rfl, .inr hT, _, rfl, b, _, rfl, .inr hT2, rfl, _, rfl, iteNS (by rw [List.length_map, List.length_map, hl]) ?_⟩
    refine ⟨.ref a, rfl, a, cs.map V.bl, rfl, hT, hTab, fun x hx => by obtain ⟨i, _, rfl⟩ := List.mem_map.mp hx; exact ⟨_, .bl i⟩, fun H2 t2 => ?_⟩
    have e2 : (cs.map V.bl).all isB = true := by
      rw [List.all_eq_true]; intro x hx; obtain ⟨i, hi, rfl⟩ := List.mem_map.mp hx; rfl
    have q2 := q H2 (ex_tab hTab t2)
    rw [← e2] at q2
    exact q2
def spGone (K : PySem.W.Frag) (Pb Pg : Addr) : Sp := fun vs H Q _ => ∃ (a c : Addr) (gs : List Int) (cs : List Bool) (m : Nat), vs = [.ref a, .int m, .ref c] ∧ SqT K H a (gs.map V.int) ∧ SqT K H c (cs.map V.bl) ∧ TabG H Pb ∧ TabG H Pg ∧ 1 ≤ m ∧ m ≤ 9 ∧ BookOk m gs ∧ cs.length = gs.length ∧ gs.length ≤ 40 ∧
  ∀ p ts H', Ex H H' → H p = none → H' p = some (.lst (ts.map V.ref)) → RowsTo K H' (row0 m) gs cs (gs.length + 1) ts → Q (.ref p) H'
theorem d_gone {Pb Pg : Addr} (F : FnP K "gone" s_gone f fd) (g : mg "gone" = some (.ref f)) (B : Bl mg) (C_check_book : CallD P w K mg base n "check_book" ["book", "many"] (spCheckBook K Pb)) (C_is_going : CallD P w K mg base n "is_going" ["thing", "book"] (spGoing K Pg)) (C_row_of : CallD P w K mg base n "row_of" ["many"] spRowOf) (C_swapped : CallD P w K mg base n "swapped" ["row", "gap"] (spSwapped K)) : CallD P w K mg base (n + 1) "gone" ["book", "many", "going"] (spGone K Pb Pg) := by
  refine callD F g sc_gone (fun _ _ _ _ _ _ us hl => match us, hl with | [_, _, _], _ => rfl) (fun vs H Q E h => ?_) (fun cdv A outer s H vs Q E _ hr hG h => ?_)
  · obtain ⟨a, c, gs, cs, m, rfl, _⟩ := h; rfl
  · obtain ⟨a, c, gs, cs, m, rfl, hT, hT2, hTb, hTg, h1, h9, hB, hl, h40, q⟩ := h
    refine ⟨_, (pss_cons (ps_expr (pe_c C_check_book hr hG (pa_cons (pv 0) (pa_cons (pv 1) pa_nil))))
      (pss_cons (ps_if (pt_not (pt_val (pe_c C_is_going hr hG (pa_cons (pv 2) (pa_cons (pv 0) pa_nil)))))
      (pss_one ps_never)
      pss_nil)
      (pss_cons (ps_set (i := 3) sc_gone.nd rfl (Or.inl rfl) (pe_lst (pa_cons (pe_c C_row_of hr hG (pa_cons (pv 1) pa_nil)) pa_nil)))
      (pss_cons (ps_for PassesOwn.never rfl (k_piZA (K := K) rfl (RZ.pi_zipA (by rfl) B.zip (pa_cons (pv 0) (pa_cons (pv 2) pa_nil)))) (k_tup (K := K) rfl (pg_tup rfl (pgs_cons (pg_name (i := 4) sc_gone.nd rfl (Or.inl rfl)) (pgs_cons (pg_name (i := 5) sc_gone.nd rfl (Or.inl rfl)) pgs_nil))))
      (pss_cons (ps_set (i := 6) sc_gone.nd rfl (Or.inl rfl) (pe_ix (k_ixl (K := K) rfl) (pv 3) (pe_un un_neg pe_int) (fun _ _ => rfl)))
      (pss_one (ps_expr (k_bm (K := K) rfl PySem.F.plainAttrs_list PySem.F.slot_list_append PySem.F.type_list_append mt_append (pv 3) (pa_cons (pe_ifExp (pt_val (pv 5)) (pe_c C_swapped hr hG (pa_cons (pv 6) (pa_cons (pv 4) pa_nil))) (pv 6)) pa_nil))))))
      (pss_one (ps_ret (pv 3))))))), ?_⟩
    refine ⟨_, rfl, _, rfl, a, gs, m, rfl, hT, hTb, h1, h9, hB, fun H1 x1 => ?_⟩
    refine ⟨_, rfl, _, rfl, c, a, cs, gs, rfl, x1.sqt hT2, x1.sqt hT, x1.tab hTg, hl, fun H2 x2 => ⟨_, rfl, iteF ?_⟩⟩
    have y2 := x1.trans x2
    refine ⟨_, rfl, m, rfl, h1, h9, fun t0 nt0 => ?_⟩
    have x3 : Ex H2 (upd H2 t0 (.tup ((row0 m).map V.int))) := ex_new nt0
    refine ⟨by show 1 ≤ sizeLine; decide, fun p np => ?_⟩
    have x4 : Ex (upd H2 t0 (.tup ((row0 m).map V.int))) (upd (upd H2 t0 (.tup ((row0 m).map V.int))) p (.lst [.ref t0])) := ex_new np
    have e4 : (upd (upd H2 t0 (.tup ((row0 m).map V.int))) p (.lst [.ref t0])) p = some (.lst ([t0].map V.ref)) := upd_same
    have R4 : RowsTo K (upd (upd H2 t0 (.tup ((row0 m).map V.int))) p (.lst [.ref t0])) (row0 m) gs cs 1 [t0] := ⟨rfl, fun k t hk => by
      cases k with
      | zero => cases hk; exact SqT.of (x4.tup upd_same)
      | succ k => simp at hk⟩
    have npH : H p = none := (y2.trans x3).fresh np
    have y4 := (y2.trans x3).trans x4
    show tSeq _ _ _ _ _
    generalize upd (upd H2 t0 (.tup ((row0 m).map V.int))) p (.lst [.ref t0]) = H4 at e4 R4 y4 ⊢
    refine ⟨_, rfl, _, rfl, a, c, gs.map V.int, cs.map V.bl, rfl, .inr ⟨y4.sqt hT, y4.sqt hT2, ?_⟩⟩
    refine for_it (walk_zipT (n := gs.length) (by rw [List.length_map]) (by rw [List.length_map, hl])) (fun i σ H5 => ∃ (ts : List Addr) (v4 v5 v6 : Option V), σ = [some (.ref a), some (.int m), some (.ref c), some (.ref p), v4, v5, v6] ∧ Ex H H5 ∧ H5 p = some (.lst (ts.map V.ref)) ∧ RowsTo K H5 (row0 m) gs cs (i + 1) ts) ⟨[t0], none, none, none, rfl, y4, e4, R4⟩ (fun i σ H5 _ ⟨_, _, _, _, _, x, _⟩ => ⟨x.sqt hT, x.sqt hT2⟩) ?_ ?_
    · rintro i x σ H5 H5' hi ⟨ts, v4, v5, v6, rfl, x5, e5, R5⟩ ⟨T, x', y', rfl, nT, rfl, g1, g2⟩
      have hi2 : i < cs.length := by omega
      have g1' : x' = .int (gs.getD i 0) := by
        have g1 : (gs.map V.int)[i]? = some x' := g1
        rw [List.getElem?_map, getD_some hi] at g1; exact (Option.some.inj g1).symm
      have g2' : y' = .bl (cs.getD i false) := by
        have g2 : (cs.map V.bl)[i]? = some y' := g2
        rw [List.getElem?_map, List.getElem?_eq_getElem hi2] at g2
        rw [List.getD_eq_getElem?_getD, List.getElem?_eq_getElem hi2]; exact (Option.some.inj g2).symm
      subst g1' g2'
      obtain ⟨gp, eg, hg⟩ := book_at hB hi
      have x6 : Ex H5 (upd H5 T (.tup [.int (gs.getD i 0), .bl (cs.getD i false)])) := ex_new nT
      have y6 := x5.trans x6
      have e6 := Ex.lst x6 e5
      have R6 := R5.ex x6
      refine ⟨T, _, rfl, SqT.of upd_same, rfl, _, _, rfl, _, _, rfl, rfl, ?_⟩
      show tSeq _ _ _ _ _
      generalize upd H5 T (.tup [.int (gs.getD i 0), .bl (cs.getD i false)]) = H6 at e6 R6 y6 ⊢
      have hi3 : i < ts.length := by rw [R6.len]; omega
      have gt : (ts.map V.ref)[i]? = some (.ref ts[i]) := by rw [List.getElem?_map, List.getElem?_eq_getElem hi3]; rfl
      have rt := R6.at_ i _ (List.getElem?_eq_getElem hi3)
      have at_last : atI (ts.map V.ref) (-1) = some (.ref ts[i]) := by
        rw [← gt]; exact at_neg (by rw [List.length_map, R6.len])
      refine ⟨_, rfl, 1, rfl, p, _, _, _, rfl, rfl, SqL.of e6, at_last, ?_⟩
      obtain ⟨hri, hrl⟩ := rowAt_ok (cs := cs) (row0_row h1 h9) (row0_len m) hB i (by omega)
      -- rows.append(..)
      refine ⟨_, rfl, .inl ⟨rfl, _, SqL.of e6⟩, _, rfl, cs.getD i false, rfl, ?_⟩
      have fin : ∀ (t : Addr) (H7 : Hp), Ex H6 H7 → SqT K H7 t ((rowAt (row0 m) gs cs (i + 1)).map V.int) → ∃ xs : List V, H7 p = some (.lst xs) ∧ xs.length < sizeLine ∧ ∃ (ts' : List Addr) (v4 v5 v6 : Option V), [some (V.ref a), some (.int m), some (.ref c), some (.ref p), some (.int (gs.getD i 0)), some (.bl (cs.getD i false)), some (.ref ts[i])] = [some (.ref a), some (.int m), some (.ref c), some (.ref p), v4, v5, v6] ∧ Ex H (upd H7 p (.lst (xs ++ [.ref t]))) ∧ (upd H7 p (.lst (xs ++ [.ref t]))) p = some (.lst (ts'.map V.ref)) ∧ RowsTo K (upd H7 p (.lst (xs ++ [.ref t]))) (row0 m) gs cs (i + 1 + 1) ts' := fun t H7 x7 ht => by
        have e7 := Ex.lst x7 e6
        have x8 : ExB (fun z => z = p) H7 (upd H7 p (.lst (ts.map V.ref ++ [.ref t]))) := ex_set e7
        refine ⟨_, e7, small1000 (by rw [List.length_map, R6.len]; omega), ts ++ [t], _, _, _, rfl, (y6.trans x7).then x8 fun z hz => .inl (hz ▸ npH), by rw [upd_same, List.map_append]; rfl, ?_⟩
        exact ((R6.ex x7).ex x8).push (x8.sqt ht)
      have ev : rowAt (row0 m) gs cs (i + 1) = if cs.getD i false = true then swL (rowAt (row0 m) gs cs i) (gs.getD i 0).toNat else rowAt (row0 m) gs cs i := rfl
      cases hc : cs.getD i false with
      | true =>
        rw [hc] at fin ev
        rw [if_pos rfl, eg, Int.toNat_natCast] at ev
        refine iteT ⟨_, rfl, _, rfl, ts[i], _, gp, by rw [eg]; rfl, rt, by rw [hrl]; exact hg, by rw [hrl]; exact h9, fun t H7 x7 ht => ?_⟩
        rw [← ev] at ht
        obtain ⟨xs, k1, k2, k3⟩ := fin t H7 x7 ht
        exact ⟨p, _, _, rfl, rfl, k1, k2, k3⟩
      | false =>
        rw [hc] at fin ev
        rw [if_neg Bool.false_ne_true] at ev
        rw [← ev] at rt
        obtain ⟨xs, k1, k2, k3⟩ := fin ts[i] H6 ExB.refl rt
        exact iteF ⟨_, rfl, p, _, _, rfl, rfl, k1, k2, k3⟩
    · rintro σ H5 ⟨ts, v4, v5, v6, rfl, x5, e5, R5⟩
      exact ⟨_, rfl, q p ts H5 x5 npH e5 R5⟩
end
end K02
namespace MM
open PySem PySem.Spec PyProof.Rows L2 GxR
/-! ### a row and where each one stands -/
def ofF (n : Nat) (a : Nat → Nat) : List Int := (List.range n).map fun i => (a i : Int)
structure IsInv (n : Nat) (a b : Nat → Nat) : Prop where
  ab : ∀ i, i < n → a i < n ∧ b (a i) = i
  ba : ∀ j, j < n → b j < n ∧ a (b j) = j
theorem IsInv.symm {n : Nat} {a b : Nat → Nat} (h : IsInv n a b) : IsInv n b a := ⟨h.ba, h.ab⟩
theorem ofF_len (n : Nat) (a : Nat → Nat) : (ofF n a).length = n := by unfold ofF; rw [List.length_map, List.length_range]
theorem ofF_get {n : Nat} {a : Nat → Nat} {i : Nat} (h : i < n) : (ofF n a)[i]? = some (a i : Int) := by unfold ofF; rw [List.getElem?_map, List.getElem?_range h]; rfl
theorem ofF_take {n : Nat} {a : Nat → Nat} {i : Nat} (h : i < n) : (ofF n a).take (i + 1) = (ofF n a).take i ++ [(a i : Int)] := by rw [List.take_add_one, ofF_get h]; rfl
theorem index_fact {n : Nat} {a b : Nat → Nat} (h : IsInv n a b) {p : Nat} (hp : p < n) : (ofF n a)[b p]? = some (p : Int) ∧ ∀ (m : Nat) z, m < b p → (ofF n a)[m]? = some z → z ≠ (p : Int) := by
  obtain ⟨h1, h2⟩ := h.ba p hp
  refine ⟨by rw [ofF_get h1, h2], fun m z hm hz e => ?_⟩
  have hmn : m < n := Nat.lt_trans hm h1
  rw [ofF_get hmn] at hz
  have e2 : a m = p := by have := Option.some.inj hz; omega
  have := (h.ab m hmn).2
  rw [e2] at this; omega
def trs (g j : Nat) : Nat := if j = g then g + 1 else if j = g + 1 then g else j
theorem trs_trs (g j : Nat) : trs g (trs g j) = j := by
  unfold trs
  by_cases h1 : j = g
  · subst h1; simp
  · rw [if_neg h1]
    by_cases h2 : j = g + 1
    · subst h2; simp
    · rw [if_neg h2, if_neg h1, if_neg h2]
theorem trs_lt {n g j : Nat} (hg : g + 1 < n) (hj : j < n) : trs g j < n := by
  unfold trs
  split
  · exact hg
  · split <;> omega
theorem IsInv.tr {n g : Nat} {a b : Nat → Nat} (h : IsInv n a b) (hg : g + 1 < n) : IsInv n (fun i => a (trs g i)) (fun j => trs g (b j)) :=
  ⟨fun i hi => by
    obtain ⟨h1, h2⟩ := h.ab _ (trs_lt hg hi)
    exact ⟨h1, by show trs g (b (a (trs g i))) = i; rw [h2, trs_trs]⟩, fun j hj => by
    obtain ⟨h1, h2⟩ := h.ba _ hj
    exact ⟨trs_lt hg h1, by show a (trs g (trs g (b j))) = j; rw [trs_trs, h2]⟩⟩
theorem sw_get {ns : List Int} {g : Nat} (h : g + 1 < ns.length) (k : Nat) : (swL ns g)[k]? = ns[trs g k]? := by
  obtain ⟨l, r, a, b, rfl, rfl⟩ := two_at h
  rw [sw_form]
  unfold trs
  by_cases h1 : k = l.length
  · rw [if_pos h1, h1, List.getElem?_append_right (Nat.le_refl _), List.getElem?_append_right (by omega)]; simp
  · rw [if_neg h1]
    by_cases h2 : k = l.length + 1
    · rw [if_pos h2, h2, List.getElem?_append_right (by omega), List.getElem?_append_right (Nat.le_refl _)]; simp
    · rw [if_neg h2]
      by_cases h3 : k < l.length
      · rw [List.getElem?_append_left h3, List.getElem?_append_left h3]
      · obtain ⟨j, rfl⟩ : ∃ j, k = l.length + (j + 2) := ⟨k - l.length - 2, by omega⟩
        rw [List.getElem?_append_right (by omega), List.getElem?_append_right (by omega), show l.length + (j + 2) - l.length = j + 2 by omega]; rfl
theorem sw_ofF {n g : Nat} {a : Nat → Nat} (hg : g + 1 < n) : swL (ofF n a) g = ofF n fun i => a (trs g i) := by
  apply List.ext_getElem?
  intro k
  rw [sw_get (by rw [ofF_len]; exact hg)]
  by_cases hk : k < n
  · rw [ofF_get (trs_lt hg hk), ofF_get hk]
  · have e : trs g k = k := by unfold trs; rw [if_neg (by omega), if_neg (by omega)]
    rw [e, List.getElem?_eq_none (by rw [ofF_len]; omega), List.getElem?_eq_none (by rw [ofF_len]; omega)]
theorem sw_sw {ns : List Int} {g : Nat} (h : g + 1 < ns.length) : swL (swL ns g) g = ns := by
  apply List.ext_getElem?
  intro k
  rw [sw_get (by rw [sw_len h]; exact h), sw_get h, trs_trs]
theorem row0_ofF (n : Nat) : row0 n = ofF n id := rfl
theorem inv_id (n : Nat) : IsInv n id id := ⟨fun i h => ⟨h, rfl⟩, fun i h => ⟨h, rfl⟩⟩
theorem IsRow.nodup {ns : List Int} (r : IsRow ns) : ns.Nodup := by
  refine r.2.2.nodup_iff.mpr ?_
  rw [List.Nodup, List.pairwise_map]
  exact List.nodup_range.imp fun h e => h (Int.ofNat.inj e)
theorem IsRow.inv {ns : List Int} (r : IsRow ns) : ∃ a b, IsInv ns.length a b ∧ ns = ofF ns.length a := by
  have hm : ∀ i (h : i < ns.length), 0 ≤ ns[i] ∧ ns[i] < ns.length := fun i h => r.mem (List.getElem_mem h)
  have hin : ∀ j, j < ns.length → (j : Int) ∈ ns := fun j h => r.2.2.mem_iff.mpr (List.mem_map.mpr ⟨j, List.mem_range.mpr h, rfl⟩)
  have nd := r.nodup
  refine ⟨fun i => (ns.getD i 0).toNat, fun j => ns.idxOf (j : Int), ⟨fun i hi => ?_, fun j hj => ?_⟩, ?_⟩
  · have e : ns.getD i 0 = ns[i] := by rw [List.getD_eq_getElem?_getD, List.getElem?_eq_getElem hi]; rfl
    have := hm i hi
    refine ⟨by show (ns.getD i 0).toNat < ns.length; rw [e]; omega, ?_⟩
    show ns.idxOf (((ns.getD i 0).toNat : Nat) : Int) = i
    rw [e, Int.toNat_of_nonneg this.1]
    exact nd.idxOf_getElem i hi
  · have hlt : ns.idxOf (j : Int) < ns.length := List.idxOf_lt_length_of_mem (hin j hj)
    refine ⟨hlt, ?_⟩
    show (ns.getD (ns.idxOf (j : Int)) 0).toNat = j
    rw [List.getD_eq_getElem?_getD, List.getElem?_eq_getElem hlt, List.getElem_idxOf hlt]; rfl
  · apply List.ext_getElem?
    intro k
    by_cases hk : k < ns.length
    · rw [ofF_get hk, List.getElem?_eq_getElem hk]
      have := hm k hk
      show some ns[k] = some (((ns.getD k 0).toNat : Nat) : Int)
      rw [List.getD_eq_getElem?_getD, List.getElem?_eq_getElem hk]
      show some ns[k] = some ((ns[k].toNat : Nat) : Int)
      rw [Int.toNat_of_nonneg this.1]
    · rw [List.getElem?_eq_none (by omega), List.getElem?_eq_none (by rw [ofF_len]; omega)]
end MM
namespace K02
open PySem PySem.Spec PyProof.Rows L2 GxR MM
section
variable {P : Program} {w : World} {K : PySem.W.Frag} {mg : Str → Option Value} {base : Heap} {f : Addr} {fd : FuncData} {n : Nat}
def spLawBook (K : PySem.W.Frag) : Sp := fun vs H Q _ => ∃ (b : Addr) (sz mo : Nat) (m : Nat), vs = [.ref b, .int sz, .int mo] ∧ Bag m H b ∧ m + 100 < 1000000 ∧ 1 ≤ sz ∧ sz ≤ 9 ∧ mo ≤ 40 ∧
  ∀ p (gs : List Int) H', BookOk sz gs → gs.length ≤ mo → ExB (At1 b) H H' → H' p = some (.tup (gs.map V.int)) → Bag (m + 41) H' b → Q (.ref p) H'
theorem d_law_book (F : FnP K "_law_book" s_law_book f fd) (g : mg "_law_book" = some (.ref f)) (B : Bl mg) (C_law_dip : CallD P w K mg base n "_law_dip" ["bag", "wide"] spDip) : CallD P w K mg base (n + 1) "_law_book" ["bag", "size", "most"] (spLawBook K) := by
  refine callD F g sc_law_book (fun _ _ _ _ _ _ us hl => match us, hl with | [_, _, _], _ => rfl) (fun vs H Q E h => ?_) (fun cdv A outer s H vs Q E _ hr hG h => ?_)
  · obtain ⟨b, sz, mo, m, rfl, _⟩ := h; rfl
  · obtain ⟨b, sz, mo, m, rfl, hB, hm, h1, h9, h40, q⟩ := h
    refine ⟨_, (pss_cons (ps_if (pt_cmpR op_eq (pv 1) pe_int (nomark _))
      (pss_one (ps_ret (pe_tup pa_nil)))
      pss_nil)
      (pss_one (ps_ret (k_tupOf (K := K) rfl (by rfl) B.tuple (pe_lc (own := [("k", 3)]) (g := gName 3) rfl sc_law_book.nd (pi_range1 rfl B.range (pa_cons (pe_c C_law_dip hr hG (pa_cons (pv 0) (pa_cons (pe_op op_add (pv 2) pe_int) pa_nil))) pa_nil)) (blkOk_by (N := N_law_book) (sc := defScope s_law_book) (by decide +kernel)) (fun _ _ _ _ _ => (pg_name (i := 3) sc_law_book.nd rfl (by first | exact Or.inl rfl | exact Or.inr rfl))) (fun _ _ _ _ _ => pts_nil) (fun _ _ _ _ _ => (pe_c C_law_dip hr hG (pa_cons (pv 0) (pa_cons (pe_op op_sub (pv 1) pe_int) pa_nil))))))))), ?_⟩
    have sl : sizeLine = 16777216 := by decide
    refine ⟨_, rfl, rfl, _, rfl, ?_⟩
    by_cases hs : sz = 1
    · rw [decide_eq_true (show V.int (sz : Int) = V.int 1 by rw [hs]; rfl)]
      refine iteT ⟨Nat.zero_le _, fun p np => ?_⟩
      have x1 : Ex H (upd H p (.tup [])) := ex_new np
      exact q p [] _ (fun _ h => nomatch h) (Nat.zero_le _) x1.of upd_same ((hB.ex x1).mono (by omega))
    · rw [decide_eq_false (show ¬ V.int (sz : Int) = V.int 1 by intro z; injection z with z; omega)]
      refine iteF ?_
      refine ⟨_, rfl, _, rfl, _, _, rfl, rfl, b, _, m, rfl, hB, by omega, by omega, by omega, fun v H1 v0 v1 x1 B1 => ?_⟩
      refine ⟨_, rfl, by omega, by omega, fun D nD => ?_⟩
      have bD : b ≠ D := fun z => by obtain ⟨_, _, _, e, _⟩ := B1; rw [z, nD] at e; cases e
      refine lc_it walk_range (fun i H2 => ∃ gs : List Int, H2 D = some (.lst (gs.map V.int)) ∧ gs.length = i ∧ BookOk sz gs ∧ ExB (At1 b) H H2 ∧ Bag (m + 1 + i) H2 b) ⟨[], upd_same, rfl, (fun _ h => nomatch h), x1.trans (ex_new nD).of, B1.ex (ex_new nD)⟩ (fun _ _ _ _ => trivial) ?_ ?_
      · rintro i x H2 H2' hi ⟨gs, e2, hl, hb, x2, B2⟩ ⟨rfl, rfl⟩
        have hi' : i < 41 := by omega
        refine ⟨rfl, yes_go ⟨_, rfl, _, rfl, _, _, rfl, rfl, b, _, m + 1 + i, rfl, B2, by omega, by omega, by omega, fun u H3 u0 u1 x3 B3 => ?_⟩⟩
        have e3 := x3.lst e2 (fun z => bD z.symm)
        refine ⟨_, e3, small1000 (by rw [List.length_map]; omega), gs ++ [u], by rw [upd_same, List.map_append]; rfl, by rw [List.length_append, hl]; rfl, fun y hy => ?_, (x2.trans x3).then (ex_set e3) fun z hz => .inl (by rw [show z = D from hz]; exact x1.fresh nD), (B3.exB (ex_set e3) bD)⟩
        rcases List.mem_append.mp hy with z | z
        · exact hb y z
        · rw [List.mem_singleton.mp z]; exact ⟨u0, by omega⟩
      · rintro H2 ⟨gs, e2, hl, hb, x2, B2⟩
        refine ⟨D, _, rfl, .inl ⟨SqL.of e2, fun p H3 x3 np e3 => ?_⟩⟩
        exact q p gs H3 hb (by omega) (x2.trans x3.of) e3 ((B2.mono (by omega)).ex x3)
def spSpots (K : PySem.W.Frag) : Sp := fun vs H Q _ => ∃ (s : Addr) (b : Nat → Nat) (m g : Nat) (c : Bool), vs = [.ref s, .int g, .bl c] ∧ SqL K H s ((ofF m b).map V.int) ∧ m ≤ 9 ∧ (∀ j, j < m → b j < m) ∧ (c = true → g + 1 < m) ∧
  ∀ l H', Ex H H' → H l = none → H' l = some (.lst ((ofF m (if c = true then fun j => trs g (b j) else b)).map V.int)) → Q (.ref l) H'
theorem d_law_spots_of (F : FnP K "_law_spots_of" s_law_spots_of f fd) (g : mg "_law_spots_of" = some (.ref f)) (B : Bl mg) : CallD P w K mg base (n + 1) "_law_spots_of" ["spots", "gap", "change"] (spSpots K) := by
  refine callD F g sc_law_spots_of (fun _ _ _ _ _ _ us hl => match us, hl with | [_, _, _], _ => rfl) (fun vs H Q E h => ?_) (fun cdv A outer s H vs Q E _ hr hG h => ?_)
  · obtain ⟨b, a, m, g, c, rfl, _⟩ := h; rfl
  · obtain ⟨s, b, m, g, c, rfl, hS, h9, hb, hg, q⟩ := h
    refine ⟨_, (pss_cons (ps_if (pt_not (pt_val (pv 2)))
      (pss_one (ps_ret (pe_callTy (k_listOf (K := K) rfl) (by rfl) B.list (by decide +kernel) (pa_cons (pv 0) pa_nil))))
      pss_nil)
      (pss_one (ps_ret (pe_lc (own := [("spot", 3)]) (g := gName 3) rfl sc_law_spots_of.nd (k_piL (K := K) rfl (pv 0)) (blkOk_by (N := N_law_spots_of) (sc := defScope s_law_spots_of) (by decide +kernel)) (fun _ _ _ _ _ => (pg_name (i := 3) sc_law_spots_of.nd rfl (by first | exact Or.inl rfl | exact Or.inr rfl))) (fun _ _ _ _ _ => pts_nil) (fun _ _ _ _ _ => (pe_ifExp (pt_cmpR (k_in (K := K) rfl) (pv 3) (pe_tup (pa_cons (pv 1) (pa_cons (pe_op op_add (pv 1) pe_int) pa_nil))) (by rfl)) (pe_op op_sub (pe_op op_add (pe_op op_mulW pe_int (pv 1)) pe_int) (pv 3)) (pv 3))))))), ?_⟩
    refine ⟨_, rfl, c, rfl, ?_⟩
    cases c with
    | false =>
      refine iteT ⟨_, rfl, s, _, rfl, .inl hS, fun l nl => ?_⟩
      exact q l _ (ex_new nl) nl upd_same
    | true =>
      have hg := hg rfl
      rw [if_pos rfl] at q
      refine iteF ?_
      refine ⟨_, rfl, s, rfl, ⟨_, hS⟩, fun D nD => lc_it walk_list (fun i H2 => Ex H H2 ∧ H2 D = some (.lst (((ofF m fun j => trs g (b j)).take i).map V.int))) ⟨ex_new nD, upd_same⟩ (fun i H2 _ y => y.1.sql hS) ?_ ?_⟩
      · rintro i x H2 H2' hi ⟨x2, e2⟩ ⟨rfl, hx⟩
        rw [List.length_map, ofF_len] at hi
        rw [List.getElem?_map, ofF_get hi] at hx
        cases hx
        have hbi := hb i hi
        refine ⟨rfl, yes_go ?_⟩
        refine ⟨_, rfl, _, rfl, _, rfl, _, _, rfl, rfl, by show 2 ≤ sizeLine; decide, fun t nt => ?_⟩
        have x3 : Ex H2' (upd H2' t (.tup [.int (g : Int), .int ((g : Int) + 1)])) := ex_new nt
        have e3 := Ex.lst x3 e2
        refine ⟨t, _, rfl, .inr (SqT.of upd_same), rfl, rfl, _, rfl, ?_⟩
        have fin : ∀ z : Int, z = (trs g (b i) : Nat) → ∃ xs : List V, (upd H2' t (.tup [.int (g : Int), .int ((g : Int) + 1)])) D = some (.lst xs) ∧ xs.length < sizeLine ∧ Ex H (upd (upd H2' t (.tup [.int (g : Int), .int ((g : Int) + 1)])) D (.lst (xs ++ [.int z]))) ∧ (upd (upd H2' t (.tup [.int (g : Int), .int ((g : Int) + 1)])) D (.lst (xs ++ [.int z]))) D = some (.lst (((ofF m fun j => trs g (b j)).take (i + 1)).map V.int)) := fun z hz => by
          refine ⟨_, e3, small1000 (by rw [List.length_map, List.length_take]; omega), (x2.trans x3).then (ex_set e3) fun y hy => .inl (hy ▸ nD), ?_⟩
          rw [upd_same, ofF_take hi, List.map_append, hz]; rfl
        have mw : CMulW 2 (g : Int) := mulW_small (by decide) (Nat.lt_of_le_of_lt (show (g : Int).natAbs ≤ 9 by omega) (by decide))
        show if inV (V.int (b i : Int)) [.int (g : Int), .int ((g : Int) + 1)] = true then _ else _
        by_cases h1 : b i = g ∨ b i = g + 1
        · have e : inV (V.int (b i : Int)) [.int (g : Int), .int ((g : Int) + 1)] = true := by
            unfold inV
            rcases h1 with h | h <;> simp [eqV, h]
          rw [e]
          refine iteT ⟨_, rfl, 2, (g : Int), rfl, rfl, mw, _, _, rfl, rfl, _, rfl, _, _, rfl, rfl, fin _ ?_⟩
          unfold trs
          rcases h1 with h | h
          · rw [if_pos h, h]; omega
          · rw [if_neg (by omega), if_pos h, h]; omega
        · have e : inV (V.int (b i : Int)) [.int (g : Int), .int ((g : Int) + 1)] = false := by
            unfold inV
            have n1 : ¬ (g : Int) = (b i : Int) := by omega
            have n2 : ¬ (g : Int) + 1 = (b i : Int) := by omega
            simp [eqV, n1, n2]
          rw [e]
          refine iteF ⟨_, rfl, fin _ ?_⟩
          unfold trs
          rw [if_neg (by omega), if_neg (by omega)]
      · rintro H2 ⟨x2, e2⟩
        have full : (ofF m fun j => trs g (b j)).take ((ofF m b).map V.int).length = ofF m fun j => trs g (b j) := List.take_of_length_le (by rw [List.length_map, ofF_len, ofF_len]; exact Nat.le_refl _)
        rw [full] at e2
        exact q D H2 x2 nD e2
def spLineOf (K : PySem.W.Frag) : Sp := fun vs H Q _ => ∃ (s : Addr) (a b : Nat → Nat) (m : Nat), vs = [.ref s] ∧ SqL K H s ((ofF m b).map V.int) ∧ m ≤ 9 ∧ IsInv m a b ∧
  ∀ p H', Ex H H' → H' p = some (.tup ((ofF m a).map V.int)) → Q (.ref p) H'
theorem flat_ints (ns : List Int) : (ns.map V.int).all flatV = true := by
  rw [List.all_map]; exact List.all_eq_true.mpr fun _ _ => rfl
theorem d_law_line_of (F : FnP K "_law_line_of" s_law_line_of f fd) (g : mg "_law_line_of" = some (.ref f)) (B : Bl mg) : CallD P w K mg base (n + 1) "_law_line_of" ["spots"] (spLineOf K) := by
  refine callD F g sc_law_line_of (fun _ _ _ _ _ _ us hl => match us, hl with | [_], _ => rfl) (fun vs H Q E h => ?_) (fun cdv A outer s H vs Q E _ hr hG h => ?_)
  · obtain ⟨a, b, m, g, rfl, _⟩ := h; rfl
  · obtain ⟨s, a, b, m, rfl, hS, h9, hI, q⟩ := h
    refine ⟨_, (pss_one (ps_ret (k_tupOf (K := K) rfl (by rfl) B.tuple (pe_lc (own := [("spot", 1)]) (g := gName 1) rfl sc_law_line_of.nd (pi_range1 rfl B.range (pa_cons (pe_callB (k_len (K := K) rfl) (by rfl) B.len PySem.boot_len (pa_cons (pv 0) pa_nil)) pa_nil)) (blkOk_by (N := N_law_line_of) (sc := defScope s_law_line_of) (by decide +kernel)) (fun _ _ _ _ _ => (pg_name (i := 1) sc_law_line_of.nd rfl (by first | exact Or.inl rfl | exact Or.inr rfl))) (fun _ _ _ _ _ => pts_nil) (fun _ _ _ _ _ => (k_bm (K := K) rfl PySem.F.plainAttrs_list PySem.F.slot_list_index PySem.F.type_list_index (k_index (K := K) rfl) (pv 0) (pa_cons (pv 1) pa_nil))))))), ?_⟩
    refine ⟨_, rfl, s, _, rfl, .inl hS, _, rfl, by rw [List.length_map, ofF_len]; omega, by rw [List.length_map, ofF_len]; omega, fun D nD => ?_⟩
    rw [List.length_map, ofF_len, Int.toNat_natCast]
    refine lc_it walk_range (fun i H2 => Ex H H2 ∧ H2 D = some (.lst (((ofF m a).take i).map V.int))) ⟨ex_new nD, upd_same⟩ (fun _ _ _ _ => trivial) ?_ ?_
    · rintro i x H2 H2' hi ⟨x2, e2⟩ ⟨rfl, rfl⟩
      obtain ⟨f1, f2⟩ := index_fact hI.symm hi
      refine ⟨rfl, yes_go ⟨_, rfl, .inl ⟨rfl, _, x2.sql hS⟩, _, rfl, s, _, _, a i, .int (i : Int), rfl, rfl, x2.sql hS, rfl, flat_ints _, by rw [List.getElem?_map, f1]; rfl, by simp [eqV], fun k z' hk hz => ?_, ?_⟩⟩
      · rw [List.getElem?_map] at hz
        cases e : (ofF m b)[k]? with
        | none => rw [e] at hz; cases hz
        | some z =>
          rw [e] at hz
          cases hz
          have := f2 k z hk e
          show (z == 0 + (i : Int)) = false
          exact beq_eq_false_iff_ne.mpr (by omega)
      · refine ⟨_, e2, small1000 (by rw [List.length_map, List.length_take]; omega), x2.then (ex_set e2) fun y hy => .inl (hy ▸ nD), ?_⟩
        rw [upd_same, ofF_take hi, List.map_append]; rfl
    · rintro H2 ⟨x2, e2⟩
      have full : (ofF m a).take m = ofF m a := List.take_of_length_le (by rw [ofF_len]; exact Nat.le_refl _)
      rw [full] at e2
      exact ⟨D, _, rfl, .inl ⟨SqL.of e2, fun p H3 x3 np e3 => q p H3 (x2.trans x3) e3⟩⟩
def spDue (K : PySem.W.Frag) : Sp := fun vs H Q _ => ∃ (a c : Addr) (gs : List Int) (cs : List Bool) (m : Nat), vs = [.ref a, .int m, .ref c] ∧ SqT K H a (gs.map V.int) ∧ SqT K H c (cs.map V.bl) ∧ 1 ≤ m ∧ m ≤ 9 ∧ BookOk m gs ∧ cs.length = gs.length ∧ gs.length ≤ 40 ∧
  ∀ p ts H', Ex H H' → H p = none → H' p = some (.lst (ts.map V.ref)) → RowsTo K H' (row0 m) gs cs (gs.length + 1) ts → Q (.ref p) H'
theorem d_law_due (F : FnP K "_law_due" s_law_due f fd) (g : mg "_law_due" = some (.ref f)) (B : Bl mg) (C_law_spots_of : CallD P w K mg base n "_law_spots_of" ["spots", "gap", "change"] (spSpots K)) (C_law_line_of : CallD P w K mg base n "_law_line_of" ["spots"] (spLineOf K)) : CallD P w K mg base (n + 1) "_law_due" ["deals", "size", "choices"] (spDue K) := by
  refine callD F g sc_law_due (fun _ _ _ _ _ _ us hl => match us, hl with | [_, _, _], _ => rfl) (fun vs H Q E h => ?_) (fun cdv A outer s H vs Q E _ hr hG h => ?_)
  · obtain ⟨a, c, gs, cs, m, rfl, _⟩ := h; rfl
  · obtain ⟨a, c, gs, cs, m, rfl, hT, hT2, h1, h9, hB, hl, h40, q⟩ := h
    refine ⟨_, (pss_cons (ps_set (i := 3) sc_law_due.nd rfl (Or.inl rfl) (pe_listRg rfl (by rfl) B.list (prg_1 (by rfl) B.range (pv 1))))
      (pss_cons (ps_set (i := 4) sc_law_due.nd rfl (Or.inl rfl) (pe_lst (pa_cons (pe_c C_law_line_of hr hG (pa_cons (pv 3) pa_nil)) pa_nil)))
      (pss_cons (ps_for PassesOwn.never rfl (pi_range1 rfl B.range (pa_cons (pe_callB (k_len (K := K) rfl) (by rfl) B.len PySem.boot_len (pa_cons (pv 0) pa_nil)) pa_nil)) (pg_name (i := 5) sc_law_due.nd rfl (Or.inl rfl))
      (pss_cons (ps_set (i := 3) sc_law_due.nd rfl (Or.inl rfl) (pe_c C_law_spots_of hr hG (pa_cons (pv 3) (pa_cons (pe_ix (k_ixt (K := K) rfl) (pv 0) (pv 5) (fun _ _ => rfl)) (pa_cons (pe_ix (k_ixt (K := K) rfl) (pv 2) (pv 5) (fun _ _ => rfl)) pa_nil)))))
      (pss_one (ps_expr (k_bm (K := K) rfl PySem.F.plainAttrs_list PySem.F.slot_list_append PySem.F.type_list_append mt_append (pv 4) (pa_cons (pe_c C_law_line_of hr hG (pa_cons (pv 3) pa_nil)) pa_nil))))))
      (pss_one (ps_ret (pv 4)))))), ?_⟩
    refine ⟨_, rfl, _, rfl, RgOk.of_le (Int.le_refl _) (by omega) (by decide) (by omega), fun sp nsp => ?_⟩
    have x1 : Ex H (upd H sp (.lst (rgV 0 (m : Int)))) := ex_new nsp
    have e1 : (upd H sp (.lst (rgV 0 (m : Int)))) sp = some (.lst ((ofF m id).map V.int)) := by rw [upd_same, rgV_ints]; rfl
    generalize upd H sp (.lst (rgV 0 (m : Int))) = H1 at x1 e1 ⊢
    refine ⟨_, rfl, sp, id, id, m, rfl, SqL.of e1, h9, inv_id m, fun t0 H2 x2 e2 => ?_⟩
    refine ⟨by show 1 ≤ sizeLine; decide, fun p np => ?_⟩
    have x3 : Ex H2 (upd H2 p (.lst [.ref t0])) := ex_new np
    have e3 : (upd H2 p (.lst [.ref t0])) p = some (.lst ([t0].map V.ref)) := upd_same
    have R3 : RowsTo K (upd H2 p (.lst [.ref t0])) (row0 m) gs cs 1 [t0] := ⟨rfl, fun k t hk => by
      cases k with
      | zero => cases hk; exact SqT.of (x3.tup e2)
      | succ k => simp at hk⟩
    have y2 := x1.trans x2
    have npH : H p = none := y2.fresh np
    have y3 := y2.trans x3
    have es3 := Ex.lst x3 (Ex.lst x2 e1)
    show tSeq _ _ _ _ _
    generalize upd H2 p (.lst [.ref t0]) = H3 at e3 R3 y3 es3 ⊢
    refine ⟨_, rfl, a, _, rfl, .inr (y3.sqt hT), _, rfl, by rw [List.length_map]; omega, by rw [List.length_map]; omega, ?_⟩
    rw [List.length_map, Int.toNat_natCast]
    refine for_it walk_range (fun i σ H4 => ∃ (ts : List Addr) (s4 : Addr) (u v : Nat → Nat) (v5 : Option V), σ = [some (.ref a), some (.int m), some (.ref c), some (.ref s4), some (.ref p), v5] ∧ Ex H H4 ∧ H4 p = some (.lst (ts.map V.ref)) ∧ RowsTo K H4 (row0 m) gs cs (i + 1) ts ∧ SqL K H4 s4 ((ofF m v).map V.int) ∧ IsInv m u v ∧ rowAt (row0 m) gs cs i = ofF m u) ⟨[t0], sp, id, id, none, rfl, y3, e3, R3, SqL.of es3, inv_id m, rfl⟩ (fun _ _ _ _ _ => trivial) ?_ ?_
    · rintro i x σ H4 H4' hi ⟨ts, s4, u, v, v5, rfl, x4, e4, R4, S4, I4, r4⟩ ⟨rfl, rfl⟩
      obtain ⟨gp, eg, hg⟩ := book_at hB hi
      have hi2 : i < cs.length := by omega
      have eI : (0 : Int) + (i : Int) = (i : Int) := by omega
      have g1 : (gs.map V.int)[i]? = some (.int (gp : Int)) := by rw [List.getElem?_map, getD_some hi, eg]; rfl
      have g2 : (cs.map V.bl)[i]? = some (.bl (cs.getD i false)) := by
        rw [List.getElem?_map, List.getElem?_eq_getElem hi2, List.getD_eq_getElem?_getD, List.getElem?_eq_getElem hi2]; rfl
      refine ⟨_, rfl, _, rfl, _, rfl, a, _, _, _, rfl, rfl, x4.sqt hT, at_of eI g1, _, rfl, _, rfl, c, _, _, _, rfl, rfl, x4.sqt hT2, at_of eI g2, ?_⟩
      refine ⟨s4, v, m, gp, cs.getD i false, rfl, S4, h9, fun j hj => (I4.ba j hj).1, fun _ => hg, fun l H5 x5 nl e5 => ?_⟩
      have ev : rowAt (row0 m) gs cs (i + 1) = if cs.getD i false = true then swL (rowAt (row0 m) gs cs i) (gs.getD i 0).toNat else rowAt (row0 m) gs cs i := rfl
      have inv5 : IsInv m (if cs.getD i false = true then fun j => u (trs gp j) else u) (if cs.getD i false = true then fun j => trs gp (v j) else v) ∧ rowAt (row0 m) gs cs (i + 1) = ofF m (if cs.getD i false = true then fun j => u (trs gp j) else u) := by
        rw [ev, eg, Int.toNat_natCast, r4]
        by_cases hc : cs.getD i false = true
        · rw [if_pos hc, if_pos hc, if_pos hc]; exact ⟨I4.tr hg, sw_ofF hg⟩
        · rw [if_neg hc, if_neg hc, if_neg hc]; exact ⟨I4, rfl⟩
      obtain ⟨I5, r5⟩ := inv5
      generalize (if cs.getD i false = true then fun j => u (trs gp j) else u) = u5 at I5 r5
      generalize (if cs.getD i false = true then fun j => trs gp (v j) else v) = v5' at I5 e5
      have e6 := Ex.lst x5 e4
      refine ⟨_, rfl, .inl ⟨rfl, _, SqL.of e6⟩, _, rfl, l, u5, v5', m, rfl, SqL.of e5, h9, I5, fun t H6 x6 e7 => ?_⟩
      have e8 := Ex.lst x6 e6
      refine ⟨p, _, _, rfl, rfl, e8, small1000 (by rw [List.length_map, R4.len]; omega), ?_⟩
      have x9 : ExB (fun z => z = p) H6 (upd H6 p (.lst (ts.map V.ref ++ [.ref t]))) := ex_set e8
      have lp : l ≠ p := fun z => by rw [z, e4] at nl; cases nl
      refine ⟨ts ++ [t], l, u5, v5', _, rfl, ((x4.trans x5).trans x6).then x9 fun z hz => .inl (hz ▸ npH), by rw [upd_same, List.map_append]; rfl, ?_, SqL.of (x9.lst (Ex.lst x6 e5) lp), I5, r5⟩
      exact ((R4.ex (x5.trans x6)).ex x9).push (by rw [r5]; exact x9.sqt (SqT.of e7))
    · rintro σ H4 ⟨ts, s4, u, v, v5, rfl, x4, e4, R4, S4, I4, r4⟩
      exact ⟨_, rfl, q p ts H4 x4 npH e4 R4⟩
end
end K02
namespace K02
open PySem PySem.Spec PyProof.Rows L2 GxR MM
theorem cells_c (c : Nat) (h1 : 1 ≤ c) (z : Int) : ∃ N : Nat, (if (if z < (c : Int) then z else (c : Int)) > 1 then (if z < (c : Int) then z else (c : Int)) else 1) = (N : Int) ∧ N ≤ c := by
  by_cases hz : z < (c : Int)
  · rw [if_pos hz]
    by_cases h2 : z > 1
    · rw [if_pos h2]; exact ⟨z.toNat, by omega, by omega⟩
    · rw [if_neg h2]; exact ⟨1, rfl, h1⟩
  · rw [if_neg hz]
    by_cases h2 : (c : Int) > 1
    · rw [if_pos h2]; exact ⟨c, rfl, Nat.le_refl _⟩
    · rw [if_neg h2]; exact ⟨1, rfl, h1⟩
/-- one choice of a going -/
def Cho (K : PySem.W.Frag) (H : Hp) (n : Nat) (t : Addr) : Prop := ∃ cs : List Bool, cs.length = n ∧ SqT K H t (cs.map V.bl)
theorem Cho.ex {K : PySem.W.Frag} {B : Addr → Prop} {H H' : Hp} {n : Nat} {t : Addr} (h : Cho K H n t) (e : ExB B H H') : Cho K H' n t := let ⟨cs, a, b⟩ := h; ⟨cs, a, e.sqt b⟩
theorem dp_bools {K : PySem.W.Frag} {H : Hp} {t : Addr} {cs : List Bool} (h : SqT K H t (cs.map V.bl)) : Dp K H (.ref t) (.tuple (cs.map PyData.bool)) := by
  refine .tup h (dpAll_of (by rw [List.length_map, List.length_map]) fun k v d h1 h2 => ?_)
  rw [List.getElem?_map] at h1 h2
  cases e : cs[k]? with
  | none => rw [e] at h1; cases h1
  | some c => rw [e] at h1 h2; cases h1; cases h2; exact .bl c
theorem nice_asked {m : Nat} {gs : List Int} {cs : List Bool} (hb : BookOk m gs) (h9 : m ≤ 9) (h40 : gs.length ≤ 40) (hl : cs.length = gs.length) : Nice 2 (2 * (40 * (51 + 2) + 3 + 2) + 3) (.list [.tuple (gs.map PyData.int), .tuple (cs.map PyData.bool)]) := nice_list (m := 2) (fun d hd => by
  rcases List.mem_cons.mp hd with e | hd
  · rw [e]; exact nice_tuple (nice_ints fun i hi => by have := hb i hi; omega) (by rw [List.length_map]; exact h40)
  · rw [List.mem_singleton.mp hd]
    exact nice_tuple (m := 40) (L := 51) (fun d hd => by obtain ⟨c, _, rfl⟩ := List.mem_map.mp hd; exact (nice_bool c).mono (by decide) (by decide)) (by rw [List.length_map, hl]; exact h40)) (Nat.le_refl _)
section
variable {P : Program} {w : World} {K : PySem.W.Frag} {mg : Str → Option Value} {base : Heap} {f : Addr} {fd : FuncData} {n : Nat}
def spLaw (K : PySem.W.Frag) (Pt Pb Pg : Addr) : Sp := fun vs H Q _ => ∃ (a : Addr) (ns : List Int), vs = [.ref a] ∧ Script K H a (ns.map V.int) ∧ ns.length ≤ 63 ∧ TabG H Pt ∧ TabG H Pb ∧ TabG H Pg ∧ ∀ H', Q (.bl true) H'
theorem d_law {Pt Pb Pg : Addr} (F : FnP K "law" s_law f fd) (g : mg "law" = some (.ref f)) (B : Bl mg) (C_law_bag : CallD P w K mg base n "_law_bag" ["script", "k"] (spBag K)) (C_law_dip : CallD P w K mg base n "_law_dip" ["bag", "wide"] spDip) (C_law_row : CallD P w K mg base n "_law_row" ["bag", "size"] spRow) (C_law_book : CallD P w K mg base n "_law_book" ["bag", "size", "most"] (spLawBook K)) (C_law_spots_of : CallD P w K mg base n "_law_spots_of" ["spots", "gap", "change"] (spSpots K)) (C_law_line_of : CallD P w K mg base n "_law_line_of" ["spots"] (spLineOf K)) (C_law_due : CallD P w K mg base n "_law_due" ["deals", "size", "choices"] (spDue K)) (C_gone : CallD P w K mg base n "gone" ["book", "many", "going"] (spGone K Pb Pg)) (C_changed : CallD P w K mg base n "changed" ["row", "gap"] (spChanged K Pt)) : CallD P w K mg base (n + 1) "law" ["script"] (spLaw K Pt Pb Pg) := by
  refine callD F g sc_law (fun _ _ _ _ _ _ us hl => match us, hl with | [_], _ => rfl) (fun vs H Q E h => ?_) (fun cdv A outer s H vs Q E _ hr hG h => ?_)
  · obtain ⟨a, ns, rfl, _⟩ := h; rfl
  · obtain ⟨a, ns, rfl, hS, hl, hTt, hTb, hTg, q⟩ := h
    refine ⟨_, (pss_cons (ps_for PassesOwn.never rfl (pi_range1 rfl B.range (pa_cons (pe_callB (call_max2 rfl) (by rfl) B.max (by decide +kernel) (pa_cons pe_int (pa_cons (pe_callB (call_min2 rfl) (by rfl) B.min (by decide +kernel) (pa_cons pe_int (pa_cons (pe_callB (k_len (K := K) rfl) (by rfl) B.len PySem.boot_len (pa_cons (pv 0) pa_nil)) pa_nil))) pa_nil))) pa_nil)) (pg_name (i := 1) sc_law.nd rfl (Or.inl rfl))
      (pss_cons (ps_set (i := 2) sc_law.nd rfl (Or.inr rfl) (pe_c C_law_bag hr hG (pa_cons (pv 0) (pa_cons (pv 1) pa_nil))))
      (pss_cons (ps_set (i := 3) sc_law.nd rfl (Or.inl rfl) (pe_ix (k_ixl (K := K) rfl) (pe_lst (pa_cons (pe_op op_add pe_int (pe_c C_law_dip hr hG (pa_cons (pv 2) (pa_cons pe_int pa_nil)))) (pa_cons (pe_op op_add pe_int (pe_c C_law_dip hr hG (pa_cons (pv 2) (pa_cons pe_int pa_nil)))) pa_nil))) (pe_c C_law_dip hr hG (pa_cons (pv 2) (pa_cons pe_int pa_nil))) (fun _ _ => rfl)))
      (pss_cons (ps_set (i := 4) sc_law.nd rfl (Or.inr rfl) (pe_c C_law_book hr hG (pa_cons (pv 2) (pa_cons (pv 3) (pa_cons pe_int pa_nil)))))
      (pss_cons (ps_setLc (i := 7) (own := [("turn", 5)]) (g := gName 5) rfl sc_law.nd rfl rfl (sw_true rfl rfl rfl (by decide +kernel)) (pi_range1 rfl B.range (pa_cons pe_int pa_nil)) (blkOk_by (N := N_law) (sc := defScope s_law) (by decide +kernel)) (fun _ _ _ _ _ => (pg_name (i := 5) sc_law.nd rfl (by first | exact Or.inl rfl | exact Or.inr rfl))) (fun _ _ _ _ _ => pts_nil) (fun _ _ _ _ _ => (k_tupOf (K := K) rfl (by rfl) B.tuple (pe_lc (own := [("gap", 6)]) (g := gName 6) rfl sc_law.nd (k_piT (K := K) rfl (pv 4)) (blkOk_in (N := N_law) (sc := defScope s_law) rfl rfl (by decide +kernel)) (fun _ _ _ _ _ => (pg_name (i := 6) sc_law.nd rfl (by first | exact Or.inl rfl | exact Or.inr rfl))) (fun _ _ _ _ _ => pts_nil) (fun _ _ _ _ _ => (pe_cmpR op_eq (pe_c C_law_dip hr hG (pa_cons (pv 2) (pa_cons pe_int pa_nil))) pe_int (nomark _)))))))
      (pss_cons (ps_for PassesOwn.never rfl (k_piL (K := K) rfl (pe_op op_cat (pv 7) (pe_lst (pa_cons (pe_op (k_repT (K := K) rfl) (pe_tup (pa_cons pe_bl pa_nil)) (pe_callB (k_len (K := K) rfl) (by rfl) B.len PySem.boot_len (pa_cons (pv 4) pa_nil))) (pa_cons (pe_op (k_repT (K := K) rfl) (pe_tup (pa_cons pe_bl pa_nil)) (pe_callB (k_len (K := K) rfl) (by rfl) B.len PySem.boot_len (pa_cons (pv 4) pa_nil))) pa_nil))))) (pg_name (i := 8) sc_law.nd rfl (Or.inl rfl))
      (pss_cons (ps_set (i := 9) sc_law.nd rfl (Or.inl rfl) (pe_callB (k_repr (K := K) rfl hG hr.units) (by rfl) B.repr (by decide +kernel) (pa_cons (pe_lst (pa_cons (pv 4) (pa_cons (pv 8) pa_nil))) pa_nil)))
      (pss_cons (ps_set (i := 10) sc_law.nd rfl (Or.inl rfl) (pe_c C_law_due hr hG (pa_cons (pv 4) (pa_cons (pv 3) (pa_cons (pv 8) pa_nil)))))
      (pss_one (ps_for PassesOwn.never rfl (pi_range1 rfl B.range (pa_cons pe_int pa_nil)) (pg_name (i := 5) sc_law.nd rfl (Or.inl rfl))
      (pss_cons (ps_set (i := 11) sc_law.nd rfl (Or.inl rfl) (pe_c C_gone hr hG (pa_cons (pv 4) (pa_cons (pv 3) (pa_cons (pv 8) pa_nil)))))
      (pss_cons (ps_if (PW.pt (pw_or (pt_cmpR op_ne (pe_callB (k_repr (K := K) rfl hG hr.units) (by rfl) B.repr (by decide +kernel) (pa_cons (pv 11) pa_nil)) (pe_callB (k_repr (K := K) rfl hG hr.units) (by rfl) B.repr (by decide +kernel) (pa_cons (pv 10) pa_nil)) (nomark _)) (pw_or1 (pt_cmpR op_ne (pe_callB (k_repr (K := K) rfl hG hr.units) (by rfl) B.repr (by decide +kernel) (pa_cons (pe_lst (pa_cons (pv 4) (pa_cons (pv 8) pa_nil))) pa_nil)) (pv 9) (nomark _)))))
      (pss_one (ps_ret pe_bl))
      pss_nil)
      (pss_cons (ps_expr (k_bm (K := K) rfl PySem.F.plainAttrs_list PySem.F.slot_list_append PySem.F.type_list_append mt_append (pv 11) (pa_cons pe_non pa_nil)))
      (pss_one (ps_expr (k_bm0 (K := K) rfl (pe_bm0 PySem.F.plainAttrs_list PySem.F.slot_list_reverse PySem.F.type_list_reverse mt_reverse (pv 11)))))))))))))
      (pss_cons (ps_set (i := 12) sc_law.nd rfl (Or.inr rfl) (pe_c C_law_row hr hG (pa_cons (pv 2) (pa_cons (pv 3) pa_nil))))
      (pss_one (ps_for PassesOwn.never rfl (pi_range1 rfl B.range (pa_cons (pe_op op_sub (pv 3) pe_int) pa_nil)) (pg_name (i := 6) sc_law.nd rfl (Or.inl rfl))
      (pss_cons (ps_set (i := 13) sc_law.nd rfl (Or.inl rfl) (pe_c C_changed hr hG (pa_cons (pv 12) (pa_cons (pv 6) pa_nil))))
      (pss_cons (ps_setLc (i := 14) (own := [("person", 15)]) (g := gName 15) rfl sc_law.nd rfl rfl (sw_true rfl rfl rfl (by decide +kernel)) (pi_range1 rfl B.range (pa_cons (pv 3) pa_nil)) (blkOk_by (N := N_law) (sc := defScope s_law) (by decide +kernel)) (fun _ _ _ _ _ => (pg_name (i := 15) sc_law.nd rfl (by first | exact Or.inl rfl | exact Or.inr rfl))) (fun _ _ _ _ _ => pts_nil) (fun _ _ _ _ _ => (k_bmF PySem.F.plainAttrs_tuple PySem.F.slot_tuple_index PySem.F.type_tuple_index (k_indexT (K := K) rfl) (pv 12) (pa_cons (pv 15) pa_nil))))
      (pss_one (ps_if (PW.pt (pw_or (pt_cmpR op_ne (pe_callB (k_repr (K := K) rfl hG hr.units) (by rfl) B.repr (by decide +kernel) (pa_cons (pv 13) pa_nil)) (pe_callB (k_repr (K := K) rfl hG hr.units) (by rfl) B.repr (by decide +kernel) (pa_cons (pe_c C_law_line_of hr hG (pa_cons (pe_c C_law_spots_of hr hG (pa_cons (pv 14) (pa_cons (pv 6) (pa_cons pe_bl pa_nil)))) pa_nil)) pa_nil)) (nomark _)) (pw_or1 (pt_cmpR (k_ne (K := K) rfl hr.units) (pe_c C_changed hr hG (pa_cons (pv 13) (pa_cons (pv 6) pa_nil))) (pv 12) (nomark _)))))
      (pss_one (ps_ret pe_bl))
      pss_nil)))))))))))))
      (pss_one (ps_ret pe_bl))), ?_⟩
    have sl : sizeLine = 16777216 := by decide
    refine ⟨_, rfl, a, _, rfl, .inl hS.sql, _, _, rfl, _, _, rfl, ?_⟩
    obtain ⟨N, eN, hN4⟩ := cells_c 5 (by decide) (((ns.map V.int).length : Nat) : Int)
    rw [show ((5 : Nat) : Int) = 5 from rfl] at eN
    rw [eN]
    refine ⟨_, rfl, by omega, by omega, ?_⟩
    rw [Int.toNat_natCast]
    refine for_it walk_range (fun i σ H1 => ∃ v1 v2 v3 v4 v5 v6 v7 v8 v9 v10 v11 v12 v13 v14, σ = [some (.ref a), v1, v2, v3, v4, v5, v6, v7, v8, v9, v10, v11, v12, v13, v14, none] ∧ Ex H H1) ⟨none, none, none, none, none, none, none, none, none, none, none, none, none, none, rfl, ExB.refl⟩ (fun _ _ _ _ _ => trivial) ?_ ?_
    · rintro i x σ H1 H1' hi ⟨v1, v2, v3, v4, v5, v6, v7, v8, v9, v10, v11, v12, v13, v14, rfl, x1⟩ ⟨rfl, rfl⟩
      refine ⟨_, rfl, _, rfl, a, ns, 0 + (i : Int), rfl, (hS.ex x1).sql, hl, by omega, by omega, fun b H2 x2 nb B2 => ?_⟩
      have ob : ∀ z, At1 b z → H1' z = none ∨ False := fun z hz => .inl (by rw [show z = b from hz]; exact nb)
      -- size
      refine ⟨_, rfl, b, 9, 0, rfl, B2, by decide, by decide, by decide, fun u1 H3 u10 u11 x3 B3 => ?_⟩
      refine ⟨_, _, rfl, rfl, _, rfl, b, 3, 1, rfl, B3, by decide, by decide, by decide, fun u2 H4 u20 u21 x4 B4 => ?_⟩
      refine ⟨_, _, rfl, rfl, by show 2 ≤ sizeLine; decide, fun l nl => ?_⟩
      have x5 : Ex H4 (upd H4 l (.lst [V.int (1 + u1), V.int (2 + u2)])) := ex_new nl
      have e5 : (upd H4 l (.lst [V.int (1 + u1), V.int (2 + u2)])) l = some (.lst [V.int (1 + u1), V.int (2 + u2)]) := upd_same
      have B5 := B4.ex x5
      have bl : b ≠ l := fun z => by obtain ⟨_, _, _, e, _⟩ := B4; rw [z, nl] at e; cases e
      show ∃ v, _
      generalize upd H4 l (.lst [V.int (1 + u1), V.int (2 + u2)]) = H5 at x5 e5 B5 ⊢
      refine ⟨_, rfl, b, 2, 2, rfl, B5, by decide, by decide, by decide, fun u3 H6 u30 u31 x6 B6 => ?_⟩
      have e6 := x6.lst e5 (fun z => bl z.symm)
      have hsz : ∃ sz : Nat, atI [V.int (1 + u1), V.int (2 + u2)] u3 = some (.int (sz : Int)) ∧ 1 ≤ sz ∧ sz ≤ 9 := by
        by_cases h0 : u3 = 0
        · subst h0
          exact ⟨(1 + u1).toNat, by rw [show ((1 + u1).toNat : Int) = 1 + u1 by omega]; rfl, by omega, by omega⟩
        · have : u3 = 1 := by omega
          subst this
          exact ⟨(2 + u2).toNat, by rw [show ((2 + u2).toNat : Int) = 2 + u2 by omega]; rfl, by omega, by omega⟩
      obtain ⟨sz, hat, sz1, sz9⟩ := hsz
      refine ⟨l, _, _, _, rfl, rfl, SqL.of e6, hat, ?_⟩
      have y6 : Ex H1' H6 := x2.then ((((x3.trans x4).trans x5.of).trans x6)) ob
      -- deals = _law_book(bag, size, 40)
      refine ⟨_, rfl, _, rfl, b, sz, 40, 3, rfl, B6, by decide, sz1, sz9, Nat.le_refl _, fun de gs H7 hgs g40 x7 ede B7 => ?_⟩
      have y7 : Ex H1' H7 := y6.then x7 ob
      -- some
      refine ⟨_, rfl, by decide, by decide, fun D nD => ?_⟩
      have bD : b ≠ D := fun z => by obtain ⟨_, _, _, e, _⟩ := B7; rw [z, nD] at e; cases e
      have xD : Ex H7 (upd H7 D (.lst [])) := ex_new nD
      refine lc_it walk_range (fun t H8 => ∃ ts : List Addr, H8 D = some (.lst (ts.map V.ref)) ∧ ts.length = t ∧ (∀ u ∈ ts, Cho K H8 gs.length u) ∧ Ex H1' H8 ∧ H8 de = some (.tup (gs.map V.int)) ∧ Bag (44 + 40 * t) H8 b) ⟨[], upd_same, rfl, (fun _ h => nomatch h), y7.trans xD, xD.tup ede, B7.ex xD⟩ (fun _ _ _ _ => trivial) ?_ ?_
      · rintro t x H8 H8' ht ⟨ts, e8, hts, C8, x8, ede8, B8⟩ ⟨rfl, rfl⟩
        have ht3 : t < 3 := ht
        refine ⟨rfl, yes_go ⟨_, rfl, de, rfl, ⟨_, SqT.of ede8⟩, fun D2 nD2 => ?_⟩⟩
        have x9 : Ex H8' (upd H8' D2 (.lst [])) := ex_new nD2
        have bD2 : b ≠ D2 := fun z => by obtain ⟨_, _, _, e, _⟩ := B8; rw [z, nD2] at e; cases e
        have nD2H := x8.fresh nD2
        refine lc_it walk_tup (fun j H10 => ∃ cs : List Bool, H10 D2 = some (.lst (cs.map V.bl)) ∧ cs.length = j ∧ ExB (At1 b) H8' H10 ∧ Bag (44 + 40 * t + j) H10 b) ⟨[], upd_same, rfl, x9.of, B8.ex x9⟩ (fun j H10 _ ⟨_, _, _, y, _⟩ => SqT.of (y.tup ede8)) ?_ ?_
        · rintro j x H10 H10' hj ⟨cs, e10, hcs, x10, B10⟩ ⟨rfl, _⟩
          have hj40 : j < 40 := by rw [List.length_map] at hj; omega
          refine ⟨rfl, yes_go ⟨_, rfl, b, 2, 44 + 40 * t + j, rfl, B10, by omega, by decide, by decide, fun u H11 u0 u1 x11 B11 => ?_⟩⟩
          have e11 := x11.lst e10 (fun z => bD2 z.symm)
          refine ⟨rfl, _, e11, small1000 (by rw [List.length_map]; omega), cs ++ [decide (V.int u = V.int 1)], by rw [upd_same, List.map_append]; rfl, by rw [List.length_append, hcs]; rfl, (x10.trans x11).then (ex_set e11) fun z hz => .inl (by rw [show z = D2 from hz]; exact nD2), B11.exB (ex_set e11) bD2⟩
        · rintro H10 ⟨cs, e10, hcs, x10, B10⟩
          rw [List.length_map] at hcs B10
          refine ⟨D2, _, rfl, .inl ⟨SqL.of e10, fun p H11 x11 np e11 => ?_⟩⟩
          have x12 : Ex H1' H11 := (x8.then (x10.trans x11.of) ob)
          have DnH : H8' D = some (.lst (ts.map V.ref)) := e8
          have D_ne : ¬ At1 b D := fun z => bD z.symm
          have e12 : H11 D = some (.lst (ts.map V.ref)) := Ex.lst x11 (x10.lst e8 D_ne)
          refine ⟨_, e12, small1000 (by rw [List.length_map]; omega), ts ++ [p], by rw [upd_same, List.map_append]; rfl, by rw [List.length_append, hts]; rfl, fun z hz => ?_, x12.then (ex_set e12) fun z hz => .inl (by rw [show z = D from hz]; exact y7.fresh nD), ?_, ?_⟩
          · have C11 : Cho K H11 gs.length z := by
              rcases List.mem_append.mp hz with w | w
              · exact ((C8 z w).ex x10).ex x11
              · rw [List.mem_singleton.mp w]; exact ⟨cs, hcs, SqT.of e11⟩
            exact C11.ex (ex_set e12)
          · exact (ex_set e12 : ExB (fun z => z = D) _ _).tup (x11.tup (x10.tup ede8))
          · exact ((B10.mono (by omega)).ex x11).exB (ex_set e12) bD
      · rintro H8 ⟨ts, e8, hts, C8, x8, ede8, B8⟩
        have B8 : Bag 164 H8 b := B8
        have nDH := y7.fresh nD
        -- some + [(True,) * len(deals), (False,) * len(deals)]
        refine ⟨_, rfl, by show 1 ≤ sizeLine; decide, fun t1 nt1 => ?_⟩
        have x9 : Ex H8 (upd H8 t1 (.tup [.bl true])) := ex_new nt1
        refine ⟨_, rfl, de, _, rfl, .inr (SqT.of (x9.tup ede8)), ?_⟩
        rw [List.length_map]
        refine ⟨t1, (gs.length : Int), [.bl true], rfl, rfl, upd_same, (fun z => nomatch z), by omega, by omega, by decide, fun c1 H9 x10 hc1 => ?_⟩
        have y9 := x9.trans x10
        refine ⟨by show 1 ≤ sizeLine; decide, fun t2 nt2 => ?_⟩
        have x11 : Ex H9 (upd H9 t2 (.tup [.bl false])) := ex_new nt2
        refine ⟨_, rfl, de, _, rfl, .inr (SqT.of ((y9.trans x11).tup ede8)), ?_⟩
        rw [List.length_map]
        refine ⟨t2, (gs.length : Int), [.bl false], rfl, rfl, upd_same, (fun z => nomatch z), by omega, by omega, by decide, fun c2 H11 x12 hc2 => ?_⟩
        have y11 := (y9.trans x11).trans x12
        have hc1 := (x11.trans x12).sqt hc1
        have rep : ∀ c : Bool, (List.replicate ((gs.length : Int)).toNat [V.bl c]).flatten = (List.replicate gs.length c).map V.bl := fun c => by
          rw [Int.toNat_natCast, rep_one, List.map_replicate]
        rw [rep] at hc1 hc2
        refine ⟨by show 2 ≤ sizeLine; decide, fun z3 nz3 => ?_⟩
        have x13 : Ex H11 (upd H11 z3 (.lst [.ref c1, .ref c2])) := ex_new nz3
        have e13 : (upd H11 z3 (.lst [.ref c1, .ref c2])) z3 = some (.lst [.ref c1, .ref c2]) := upd_same
        have y13 := y11.trans x13
        have hc1 := x13.sqt hc1
        have hc2 := x13.sqt hc2
        show ∃ l, _
        generalize upd H11 z3 (.lst [.ref c1, .ref c2]) = H13 at e13 y13 hc1 hc2 ⊢
        have eD13 := Ex.lst y13 e8
        refine ⟨D, z3, _, _, rfl, rfl, eD13, e13, by rw [List.length_map, hts, sl]; show 3 + 2 ≤ 16777216; decide, fun ch nch => ?_⟩
        have x14 : Ex H13 (upd H13 ch (.lst (ts.map V.ref ++ [.ref c1, .ref c2]))) := ex_new nch
        have e14 : (upd H13 ch (.lst (ts.map V.ref ++ [.ref c1, .ref c2]))) ch = some (.lst ((ts ++ [c1, c2]).map V.ref)) := by rw [upd_same, List.map_append]; rfl
        have y14 := y13.trans x14
        have C14 : ∀ u ∈ ts ++ [c1, c2], Cho K (upd H13 ch (.lst (ts.map V.ref ++ [.ref c1, .ref c2]))) gs.length u := fun u hu => by
          rcases List.mem_append.mp hu with z | z
          · exact (C8 u z).ex y14
          · simp only [List.mem_cons, List.not_mem_nil, or_false] at z
            rcases z with rfl | rfl
            · exact ⟨_, List.length_replicate, x14.sqt hc1⟩
            · exact ⟨_, List.length_replicate, x14.sqt hc2⟩
        have ede14 := y14.tup ede8
        have B14 := B8.ex y14
        generalize upd H13 ch (.lst (ts.map V.ref ++ [.ref c1, .ref c2])) = H14 at e14 y14 C14 ede14 B14 ⊢
        have z14 : Ex H H14 := x1.trans (x8.trans y14)
        -- for choices in ..
        refine ⟨ch, rfl, ⟨_, SqL.of e14⟩, for_it (walk_list (xs := (ts ++ [c1, c2]).map V.ref)) (fun j σ H15 => ∃ v5 v8 v9 v10 v11, σ = [some (.ref a), some (.int (0 + (i : Int))), some (.ref b), some (.int (sz : Int)), some (.ref de), v5, v6, some (.ref D), v8, v9, v10, v11, v12, v13, v14, none] ∧ Ex H14 H15) ⟨_, _, _, _, _, rfl, ExB.refl⟩ (fun j σ H15 _ ⟨_, _, _, _, _, _, x⟩ => SqL.of (Ex.lst x e14)) ?_ ?_⟩
        · rintro j x σ H15 H15' hj ⟨v5, v8, v9, v10, v11, rfl, x15⟩ ⟨rfl, hx⟩
          rw [List.getElem?_map] at hx
          cases et : (ts ++ [c1, c2])[j]? with
          | none => rw [et] at hx; cases hx
          | some u =>
            rw [et] at hx
            cases hx
            obtain ⟨cs, hcs, hcT⟩ := (C14 u (List.mem_of_getElem? et)).ex x15
            have hde15 := SqT.of (K := K) (x15.tup ede14)
            have na := nice_asked hgs sz9 g40 hcs
            have nr := nice_rows (cs := cs) (row0_row sz1 sz9) (row0_len sz) hgs (by omega)
            have asked : ∀ {H' : Hp} {z : Addr}, Ex H15' H' → H' z = some (.lst [.ref de, .ref u]) → Dp K H' (.ref z) (.list [.tuple (gs.map PyData.int), .tuple (cs.map PyData.bool)]) := fun x e => .lst (SqL.of e) (.cons (dp_row (x.sqt hde15)) (.cons (dp_bools (x.sqt hcT)) .nil))
            -- text = repr([deals, choices])
            refine ⟨_, rfl, _, rfl, by show 2 ≤ sizeLine; decide, fun z nz => ?_⟩
            have x16 : Ex H15' (upd H15' z (.lst [.ref de, .ref u])) := ex_new nz
            refine ⟨_, _, rfl, asked x16 upd_same, na.sho, na.dic, Nat.le_trans na.dep (by decide), Nat.le_trans na.len (by rw [sl]; decide), ?_⟩
            generalize upd H15' z (.lst [.ref de, .ref u]) = H16 at x16 ⊢
            -- due
            refine ⟨_, rfl, _, rfl, _, rfl, de, u, gs, cs, sz, rfl, x16.sqt hde15, x16.sqt hcT, sz1, sz9, hgs, hcs, g40, fun pd td H17 x17 npd epd Rd => ?_⟩
            have y17 := x16.trans x17
            have w17 : Ex H H17 := (z14.trans x15).trans y17
            -- for turn in range(2)
            refine ⟨_, rfl, by decide, by decide, ?_⟩
            refine for_it walk_range (fun t σ H18 => ∃ v5 v11, σ = [some (.ref a), some (.int (0 + (i : Int))), some (.ref b), some (.int (sz : Int)), some (.ref de), v5, v6, some (.ref D), some (.ref u), _, some (.ref pd), v11, v12, v13, v14, none] ∧ Ex H17 H18) ⟨_, _, rfl, ExB.refl⟩ (fun _ _ _ _ _ => trivial) ?_ ?_
            · rintro t x σ H18 H18' ht ⟨v5, v11, rfl, x18⟩ ⟨rfl, rfl⟩
              have y18 := y17.trans x18
              have w18 := w17.trans x18
              refine ⟨_, rfl, _, rfl, _, rfl, de, u, gs, cs, sz, rfl, y18.sqt hde15, y18.sqt hcT, w18.tab hTb, w18.tab hTg, sz1, sz9, hgs, hcs, g40, fun pt tt H19 x19 npt ept Rt => ?_⟩
              have y19 := x18.trans x19
              refine ⟨_, rfl, _, _, rfl, Rt.dp ept, nr.sho, nr.dic, Nat.le_trans nr.dep (by decide), Nat.le_trans nr.len (by rw [sl]; decide), _, rfl, _, _, rfl, (Rd.ex y19).dp (Ex.lst y19 epd), nr.sho, nr.dic, Nat.le_trans nr.dep (by decide), Nat.le_trans nr.len (by rw [sl]; decide), rfl, _, rfl, iteNS rfl ?_⟩
              refine ⟨_, rfl, _, rfl, by show 2 ≤ sizeLine; decide, fun z2 nz2 => ?_⟩
              have x20 : Ex H19 (upd H19 z2 (.lst [.ref de, .ref u])) := ex_new nz2
              refine ⟨_, _, rfl, asked ((y18.trans x19).trans x20) upd_same, na.sho, na.dic, Nat.le_trans na.dep (by decide), Nat.le_trans na.len (by rw [sl]; decide), _, rfl, rfl, _, rfl, iteNS rfl ?_⟩
              have ept20 := Ex.lst x20 ept
              show tSeq _ _ _ _ _
              generalize upd H19 z2 (.lst [.ref de, .ref u]) = H20 at x20 ept20 ⊢
              have x21 : ExB (fun z => z = pt) H20 (upd H20 pt (.lst (tt.map V.ref ++ [V.non]))) := ex_set ept20
              have ept21 : (upd H20 pt (.lst (tt.map V.ref ++ [V.non]))) pt = some (.lst (tt.map V.ref ++ [V.non])) := upd_same
              refine ⟨_, rfl, .inl ⟨rfl, _, SqL.of ept20⟩, pt, _, _, rfl, rfl, ept20, small1000 (by rw [List.length_map, Rt.len]; omega), ?_⟩
              refine ⟨_, rfl, .inl ⟨rfl, _, SqL.of ept21⟩, pt, _, rfl, rfl, ept21, ?_⟩
              refine ⟨_, _, rfl, x18.trans ?_⟩
              exact ((x19.trans x20).then x21 fun z hz => .inl (by rw [show z = pt from hz]; exact npt)).then (ex_set ept21) fun z hz => .inl (by rw [show z = pt from hz]; exact npt)
            · rintro σ H18 ⟨v5, v11, rfl, x18⟩
              exact ⟨_, _, _, _, _, rfl, x15.trans (y17.trans x18)⟩
        · rintro σ H15 ⟨v5, v8, v9, v10, v11, rfl, x15⟩
          have B15 := B14.ex x15
          -- line = _law_row(bag, size)
          refine ⟨_, rfl, _, rfl, b, sz, 164, rfl, B15, by decide, sz1, sz9, fun pl rw H16 hR hlen x16 npl epl B16 => ?_⟩
          have y16 : Ex H1' H16 := ((x8.trans y14).trans x15).then x16 ob
          obtain ⟨ua, va, hI, erw⟩ := hR.inv
          rw [hlen] at hI erw
          -- for gap in range(size - 1)
          refine ⟨_, rfl, _, _, rfl, rfl, _, rfl, by omega, by omega, ?_⟩
          rw [show ((sz : Int) - 1).toNat = sz - 1 by omega]
          refine for_it walk_range (fun g σ H17 => ∃ v6 v13 v14, σ = [some (.ref a), some (.int (0 + (i : Int))), some (.ref b), some (.int (sz : Int)), some (.ref de), v5, v6, some (.ref D), v8, v9, v10, v11, some (.ref pl), v13, v14, none] ∧ Ex H16 H17) ⟨_, _, _, rfl, ExB.refl⟩ (fun _ _ _ _ _ => trivial) ?_ ?_
          · rintro g x σ H17 H17' hg ⟨v6, v13, v14, rfl, x17⟩ ⟨rfl, rfl⟩
            have hg2 : g + 1 < sz := by omega
            have hgr : g + 1 < rw.length := by rw [hlen]; exact hg2
            have w17 : Ex H H17' := (x1.trans y16).trans x17
            have eG : V.int (0 + (g : Int)) = V.int (g : Int) := by rw [Int.zero_add]
            have hpl : SqT K H17' pl (rw.map V.int) := (epl.ex x17).sqt
            refine ⟨_, rfl, _, rfl, pl, rw, g, by simp only [Int.zero_add, List.append_nil], hpl, w17.tab hTt, hR, hgr, fun po H18 x18 ho => ?_⟩
            -- spots
            refine ⟨_, rfl, _, rfl, by omega, by omega, fun D3 nD3 => ?_⟩
            rw [Int.toNat_natCast]
            refine lc_it walk_range (fun k H19 => Ex H18 H19 ∧ H19 D3 = some (.lst (((ofF sz va).take k).map V.int))) ⟨ex_new nD3, upd_same⟩ (fun _ _ _ _ => trivial) ?_ ?_
            · rintro k x H19 H19' hk ⟨x19, e19⟩ ⟨rfl, rfl⟩
              obtain ⟨f1, f2⟩ := index_fact hI hk
              have fpl19 : FTup H19' pl (rw.map V.int) := (epl.ex x17).ex (x18.trans x19)
              have hpl19 : SqT K H19' pl (rw.map V.int) := fpl19.sqt
              refine ⟨rfl, yes_go ⟨_, rfl, ⟨pl, _, rfl, fpl19⟩, _, rfl, pl, _, _, va k, .int (k : Int), rfl, rfl, hpl19, rfl, flat_ints _, by rw [erw, List.getElem?_map, f1]; rfl, by simp [eqV], fun q z' hq hz => ?_, ?_⟩⟩
              · rw [erw, List.getElem?_map] at hz
                cases e : (ofF sz ua)[q]? with
                | none => rw [e] at hz; cases hz
                | some z =>
                  rw [e] at hz
                  cases hz
                  have := f2 q z hq e
                  show (z == 0 + (k : Int)) = false
                  exact beq_eq_false_iff_ne.mpr (by omega)
              · refine ⟨_, e19, small1000 (by rw [List.length_map, List.length_take]; omega), x19.then (ex_set e19) fun y hy => .inl (hy ▸ nD3), ?_⟩
                rw [upd_same, ofF_take hk, List.map_append]; rfl
            · rintro H19 ⟨x19, e19⟩
              have full : (ofF sz va).take sz = ofF sz va := List.take_of_length_le (by rw [ofF_len]; exact Nat.le_refl _)
              rw [full] at e19
              have nsw := nice_row (sw_row hgr hR)
              have nrw := nice_row hR
              have esw : swL rw g = ofF sz fun i => ua (trs g i) := by rw [erw]; exact sw_ofF hg2
              refine ⟨_, rfl, _, _, rfl, dp_row (x19.sqt ho), nsw.sho, nsw.dic, Nat.le_trans nsw.dep (by decide), Nat.le_trans nsw.len (by rw [sl]; decide), ?_⟩
              refine ⟨_, rfl, _, rfl, D3, va, sz, g, true, by simp only [Int.zero_add, List.append_nil], SqL.of e19, sz9, fun j hj => (hI.ba j hj).1, fun _ => hg2, fun l3 H20 x20 nl3 e20 => ?_⟩
              rw [if_pos rfl] at e20
              refine ⟨l3, fun j => ua (trs g j), fun j => trs g (va j), sz, rfl, SqL.of e20, sz9, hI.tr hg2, fun p4 H21 x21 e21 => ?_⟩
              rw [← esw] at e21
              refine ⟨_, _, rfl, dp_row (SqT.of e21), nsw.sho, nsw.dic, Nat.le_trans nsw.dep (by decide), Nat.le_trans nsw.len (by rw [sl]; decide), rfl, _, rfl, iteNS rfl ?_⟩
              have y21 := (x19.trans x20).trans x21
              have w21 := (w17.trans x18).trans y21
              refine ⟨_, rfl, _, rfl, po, swL rw g, g, by simp only [Int.zero_add, List.append_nil], y21.sqt ho, w21.tab hTt, sw_row hgr hR, by rw [sw_len hgr]; exact hgr, fun p5 H22 x22 h22 => ?_⟩
              rw [sw_sw hgr] at h22
              refine ⟨_, rfl, _, _, dp_row h22, dp_row (((x18.trans y21).trans x22).sqt hpl), nrw.shaped (by decide), nrw.shaped (by decide), _, rfl, ?_⟩
              rw [nrw.refl]
              exact iteF ⟨_, _, _, rfl, x17.trans ((x18.trans y21).trans x22)⟩
          · rintro σ H17 ⟨v6, v13, v14, rfl, x17⟩
            exact ⟨_, _, _, _, _, _, _, _, _, _, _, _, _, _, rfl, (x1.trans y16).trans x17⟩
    · rintro σ H1 ⟨v1, v2, v3, v4, v5, v6, v7, v8, v9, v10, v11, v12, v13, v14, rfl, x1⟩
      exact q H1
end
end K02
namespace MM
open PySem PySem.Spec PyProof.Rows L2 GxR
/-! ### the end of a law row whose defs show their data -/
section
variable {P : Program} {w : World} {K : PySem.W.Frag} {mg mb : Str → Option Value} {k : Nat} {fa a : Addr} {cs : List (Addr × Addr)} {x y : Str} {sp : Sp} {s1 : Shared} {vs : List Value} {ns : List Int}
/-- what is tracked at the entry: the script, where the written part does not hold it, and the tables -/
def entryH (K : PySem.W.Frag) (a : Addr) (o : Obj) (ns : List Int) (cs : List (Addr × Addr)) : Hp := fun b => if b ∈ cs.map (·.2) then some (.tbl #[]) else if b = a ∧ K.lookup a = none then some (.frz o (.lst (ns.map V.int))) else none
theorem entry_cases {o : Obj} {b : Addr} {u : HO} (h : entryH K a o ns cs b = some u) : (b ∈ cs.map (·.2) ∧ u = .tbl #[]) ∨ (b = a ∧ K.lookup a = none ∧ u = .frz o (.lst (ns.map V.int))) := by
  unfold entryH at h
  by_cases h1 : b ∈ cs.map (·.2)
  · rw [if_pos h1] at h; cases h; exact .inl ⟨h1, rfl⟩
  · rw [if_neg h1] at h
    by_cases h2 : b = a ∧ K.lookup a = none
    · rw [if_pos h2] at h; cases h; exact .inr ⟨h2.1, h2.2, rfl⟩
    · rw [if_neg h2] at h; cases h
theorem entry_none {o : Obj} {b : Addr} (h1 : b ∉ cs.map (·.2)) (h2 : b = a → K.lookup a ≠ none) : entryH K a o ns cs b = none := by
  unfold entryH; rw [if_neg h1, if_neg fun z => h2 z.1 z.2]
theorem endG (KX : K.In s1.heap) (hns : s1.heap.Ns mainGlobals mg) (hb : s1.heap.Ns builtinsNs mb) (hbb : ∀ x : Str, x ≠ "__name__" → mb x = bootBuiltins x) (hlim : s1.heap.NoLimit) (hg : s1.gens = #[]) (hT : ∀ p ∈ cs, s1.heap.get? p.2 = some { cls := .none, data := .fields #[] }) (nT : ∀ p ∈ cs, K.lookup p.2 = none) (C : ∀ p ∈ cs, PySem.W.CodeHd s1.heap p.1 p.2)
    (hbm : ∃ (bm : Addr) (ob : Obj), mg "__builtins__" = some (.ref bm) ∧ bm ≠ builtinsNs ∧ s1.heap.get? bm = some ob ∧ ob.cls = .type "module" ∧ ob.dict = some builtinsNs ∧ ob.data = .plain) (ha : s1.heap.get? a = some { cls := .type "list", data := .seq vs.toArray }) (hi : IntsAre vs ns) (hl : ns.length ≤ sizeLine) (hr : Room k callerA)
    (F : ∀ base : Heap, K.In base → base.Ns mainGlobals mg → (∀ p ∈ cs, TabB base mg p.1 p.2) → CallD P w K mg base k y [x] sp) (hy : mg y = some (.ref fa))
    (hsp : ∀ H : Hp, (∀ p ∈ cs, H p.2 = some (.tbl #[])) → Script K H a (ns.map V.int) → sp [.ref a] H (fun v _ => v = .bl true) fun _ _ _ => False) :
    codeAny (model P w) callerA (.call (.ref fa) ⟨[.ref a], []⟩) (fun r s' => r = .ok (.ret (.bool true)) ∧ OldK s1.heap s'.heap ∧ s'.os = s1.os ∧ AllBare s'.gens) s1 := by
  have rv := vals_ints hi
  have lenV := hi.length
  have isT : ∀ b : Addr, b ∈ cs.map (·.2) → s1.heap.get? b = some { cls := .none, data := .fields #[] } := fun b hb => by obtain ⟨p, hp, e⟩ := List.mem_map.mp hb; exact e ▸ hT p hp
  have aT : a ∉ cs.map (·.2) := fun z => by have q := isT a z; rw [ha] at q; cases q
  generalize hO : ({ cls := .type "list", data := .seq vs.toArray } : Obj) = oS at ha
  have dO : oS.data = .seq vs.toArray 0 := by rw [← hO]
  generalize hH : entryH K a oS ns cs = H
  have cas : ∀ {b : Addr} {u : HO}, H b = some u → (b ∈ cs.map (·.2) ∧ u = .tbl #[]) ∨ (b = a ∧ K.lookup a = none ∧ u = .frz oS (.lst (ns.map V.int))) := fun {b u} h => entry_cases (by rw [hH]; exact h)
  have non : ∀ {b : Addr}, b ∉ cs.map (·.2) → (b = a → K.lookup a ≠ none) → H b = none := fun {b} h1 h2 => by rw [← hH]; exact entry_none h1 h2
  have plain : ∀ {b : Addr} {o : Obj}, s1.heap.get? b = some o → (∀ vs n, o.data ≠ .seq vs n) → o.data ≠ .fields #[] → H b = none := fun {b o} e h1 h2 =>
    non (fun z => h2 (by have q := isT b z; rw [e] at q; cases q; rfl)) fun z => absurd dO (by rw [z, ha] at e; cases e; exact h1 _ _)
  have atT : ∀ p ∈ cs, H p.2 = some (.tbl #[]) := fun p hp => by rw [← hH]; unfold entryH; rw [if_pos (List.mem_map.mpr ⟨p, hp, rfl⟩)]
  have hScr : Script K H a (ns.map V.int) := by
    cases q : K.lookup a with
    | none => exact .inl ⟨oS, by rw [← hH]; unfold entryH; rw [if_neg aT, if_pos ⟨rfl, q⟩]⟩
    | some o =>
      have e := KX a o q; rw [ha] at e; cases e
      exact .inr ⟨_, vs.toArray, 0, q, by rw [← hO], by rw [← hO], dO, by rw [List.size_toArray, lenV]; exact hl, by simpa using rv⟩
  have ok : HOk P w H s1.heap := fun b u e => by
    rcases cas e with ⟨h1, rfl⟩ | ⟨rfl, _, rfl⟩
    · exact isT b h1
    · exact ⟨ha, by rw [List.length_map]; exact hl, vs, 0, rv, by rw [← hO] at ha; exact ha⟩
  have dic : ∀ {b : Addr} {o : Obj} {es : Array DictEntry} {ep : Nat}, s1.heap.get? b = some o → o.data = .dict es ep → H b = none := fun {b o es ep} e d => plain e (fun vs n z => by rw [d] at z; cases z) fun z => by rw [d] at z; cases z
  have nsK : ∀ {b : Addr} {m : Str → Option Value}, s1.heap.Ns b m → (hidT s1.heap H).Ns b m := fun {b m} ⟨o, es, ep, e, d, r⟩ => ⟨o, es, ep, hidT_get e (dic e d), d, r⟩
  have hKb : K.In (hidT s1.heap H) := fun b o e => hidT_get (KX b o e) (non (fun z => by obtain ⟨p, hp, ep⟩ := List.mem_map.mp z; rw [← ep, nT p hp] at e; cases e) fun z q => by rw [z, q] at e; cases e)
  have hM : L2.Mod K mg (hidT s1.heap H) := ⟨hKb, nsK hns, ⟨mb, nsK hb, hbb⟩, let ⟨mc, h1, h2⟩ := hlim; ⟨mc, nsK h1, h2⟩⟩
  have TB : ∀ p ∈ cs, TabB (hidT s1.heap H) mg p.1 p.2 := fun p hp => by
    have hTp := hT p hp
    refine ⟨?_, ?_, fun z => ?_⟩
    · obtain ⟨o, us, file, tf, flags, tg, inF, text, tt, e1, r1, r2, r3, r⟩ := C p hp
      exact ⟨o, us, file, tf, flags, tg, inF, text, tt, hidT_get e1 (plain e1 (fun vs n z => by rw [r2] at z; cases z) fun z => by rw [r2] at z; cases z; simp at r3), r1, r2, r3, r⟩
    · obtain ⟨bm, ob, b1, b2, b3, b4, b5, b6⟩ := hbm
      refine ⟨bm, ob, b1, b2, fun q => ?_, fun q => ?_, hidT_get b3 (plain b3 (fun vs n z => by rw [b6] at z; cases z) fun z => by rw [b6] at z; cases z), b4, b5, b6⟩
      · obtain ⟨o, es, ep, e, hd, _⟩ := hns; rw [q, e] at b3; cases b3; rw [hd] at b6; cases b6
      · rw [q, hTp] at b3; cases b3; cases b6
    · obtain ⟨o, es, ep, e, hd, _⟩ := hns; rw [z, hTp] at e; cases e; cases hd
  have e0 : Env0 P w K mg (hidT s1.heap H) callerA [] s1 H := ⟨rfl, hM, fun b o e => of_hidT e, Nat.le_of_eq (hidT_size _ _), trivial, (fun b hb => nomatch (show b ∈ ([] : List Addr) from hb)), ok, .of_eq hg⟩
  obtain ⟨f', fd, FG, hf', _, hbind⟩ := F _ hKb (nsK hns) TB
  rw [hy] at hf'
  cases hf'
  refine codeAny_mono (FG.run callerA [] s1 H ⟨[.ref a], []⟩ [.ref a] [.ref a] _ _ hr rfl e0 (hbind s1 [.ref a] KX rfl) (.cons rfl .nil) (hsp H atT hScr)) fun r s' h => ?_
  match r, h with
  | .error e, h => exact False.elim h
  | .ok (.ret u), ⟨v, H', os, bare, un, hok', r', q⟩ =>
    obtain rfl : v = .bl true := q
    obtain rfl : u = Value.bool true := r'
    have key : ∀ b o, b ∉ cs.map (·.2) → s1.heap.get? b = some o → s'.heap.get? b = some o := fun b o nb e => by
      cases q : H b with
      | none => exact un.keep b o e q (fun z => nomatch (show b ∈ ([] : List Addr) from z)) (by simp)
      | some u =>
        rcases cas q with ⟨z, _⟩ | ⟨rfl, _, rfl⟩
        · exact absurd z nb
        · obtain ⟨e2, _⟩ := hok' b _ (un.frzs b oS _ q)
          rw [ha] at e; cases e; exact e2
    have grown : ∀ b, b ∈ cs.map (·.2) → ∃ more : Array Value, s'.heap.get? b = some { cls := .none, data := .fields more } := fun b hb => by
      obtain ⟨p, hp, rfl⟩ := List.mem_map.mp hb
      obtain ⟨more, z⟩ := un.tbls p.2 #[] (atT p hp)
      exact ⟨_, hok' p.2 _ z⟩
    refine ⟨rfl, ⟨fun b o e => ?_, fun b o e => ?_⟩, os, bare⟩
    · by_cases hb : b ∈ cs.map (·.2)
      · obtain ⟨more, hm⟩ := grown b hb
        obtain ⟨p, hp, rfl⟩ := List.mem_map.mp hb
        rw [hT p hp] at e; cases e
        exact .inr (.inl ⟨((C p hp).tab (hT p hp)).isCodeTable, rfl, #[], more, rfl, by rw [Array.empty_append]; exact hm⟩)
      · exact .inl (key b o hb e)
    · by_cases hb : b ∈ cs.map (·.2)
      · obtain ⟨more, hm⟩ := grown b hb; exact ⟨_, hm⟩
      · exact ⟨o, key b o hb e⟩
end
/-- what is known of the law's promise at the head's heap h -/
def LawG (l : PySem.W.OpenLaw) (w : World) (K : PySem.W.Frag) (k n : Nat) (y x : Str) (mg : Str → Option Value) (h : Heap) : Prop :=
  ∃ (cs : List (Addr × Addr)) (sp : Sp), (∀ p ∈ cs, h.get? p.2 = some { cls := .none, data := .fields #[] }) ∧ (∀ p ∈ cs, K.lookup p.2 = none) ∧ (∀ p ∈ cs, PySem.W.CodeHd h p.1 p.2) ∧
    (∀ (H : Hp) (a : Addr) (ns : List Int), ns.length ≤ n → (∀ z ∈ ns, Builtin.Int.intBits z ≤ 1048576) → (∀ p ∈ cs, H p.2 = some (.tbl #[])) → Script K H a (ns.map V.int) → sp [.ref a] H (fun v _ => v = .bl true) fun _ _ _ => False) ∧
    ∀ base : Heap, K.In base → base.Ns mainGlobals mg → (∀ p ∈ cs, TabB base mg p.1 p.2) → CallD l.prog w K mg base k y [x] sp
theorem walkG {l : PySem.W.OpenLaw} {n k : Nat} {q : Program} {loose : List Str} {XP : (Str → Option Value) → Heap → Prop} {YP : World → Heap → Prop} {d : DefRec} {x : Str} (hn : l.most = some n) (hn2 : n ≤ sizeLine) (hdf : d.params.defaults = []) (hr : Room k callerA)
    (F : ∀ (w : World) (mg : Str → Option Value) (fa : Addr) (h : Heap), YP w h → h.Ns mainGlobals mg → mg d.name = some (.ref fa) → ∃ K : PySem.W.Frag, K.In h ∧ LawG l w K k n d.name x mg h) :
    PySem.W.WalkO q loose XP YP l.row.toRowW d [] (fun f vs => PySem.call f vs) := by
  refine Att.attach_callB hn hdf fun w s₀ s₁ mg mb fa o pm cd doc a vs ns G Y ho hd hcd hmg hobj hints hlen hbits hg => ?_
  obtain ⟨K, KX, cs, sp, hT, nT, C, hsp, hF⟩ := F w mg fa _ Y G.T.g hmg
  exact endG KX G.T.g G.T.b G.T.builtins G.T.nolimit hg hT nT C G.T.bmain hobj hints (Nat.le_trans hlen hn2) hr hF hmg fun H hH hS => hsp H a ns hlen hbits hH hS
end MM
namespace K02
open PySem PySem.Spec PyProof.Rows L2 GxR MM
/-! ### the head: facts by names, the run -/
def dd (x : Str) (st : Stmt) : He.DefD := ⟨(x, none), x, x, defArgs st, defBody st, defScope st, [], []⟩
def fns : List He.DefD := [dd "is_whole" s_is_whole, dd "is_many" s_is_many, dd "is_gap" s_is_gap, dd "is_row" s_is_row, dd "check_many" s_check_many, dd "is_book" s_is_book, dd "check_row" s_check_row, dd "check_book" s_check_book, dd "check_gap" s_check_gap, dd "row_of" s_row_of, dd "swapped" s_swapped, dd "changed" s_changed, dd "is_going" s_is_going, dd "gone" s_gone, dd "_law_bag" s_law_bag, dd "_law_dip" s_law_dip, dd "_law_row" s_law_row, dd "_law_book" s_law_book, dd "_law_spots_of" s_law_spots_of, dd "_law_line_of" s_law_line_of, dd "_law_due" s_law_due, dd "law" s_law]
def fas : List He.Fa := [.int "MOST_PEOPLE" 9, .glo "is_whole", .glo "is_many", .glo "is_gap", .glo "is_row", .glo "check_many", .glo "is_book", .glo "check_row",
  .glo "check_book", .glo "check_gap", .glo "row_of", .glo "swapped", .glo "changed", .glo "is_going", .glo "gone", .glo "_law_bag",
  .glo "_law_dip", .glo "_law_row", .glo "_law_book", .glo "_law_spots_of", .glo "_law_line_of", .glo "_law_due", .glo "law", .free "isinstance",
  .free "int", .free "bool", .free "tuple", .free "len", .free "all", .free "sorted", .free "list", .free "range",
  .free "max", .free "min", .free "abs", .free "repr", .free "enumerate", .free "zip", .free "sum", .free "any"]
def tfs : List He.Defn := [("is_row", none), ("is_book", none), ("is_going", none)]
abbrev Rw : PySem.W.OpenRow := PySem.W.OpenLaw.row PySem.Challenge.rw_maymeet_k02_goings_gone
abbrev hk : PySem.W.Hook := He.hookX 4 fas fns [] tfs fun _ => true
def ob (s : PySem.W.SharedT) : He.AlX := He.obsX 4 fas fns [] tfs (fun _ => true) (HandSHeadRun.getT s)
theorem ob_eq (s : PySem.W.SharedT) : ob s = hk.obs s.abs := He.obsX_eq (HandSHeadRun.getT_eq s)
def others : List Str := (["MeetError", "NoMany", "NoRow", "NoBook", "NoGoing", "NoGap", "MOST_PEOPLE", "is_whole", "is_many", "is_gap", "is_row", "check_many", "is_book", "check_row", "check_book", "check_gap", "row_of", "swapped", "changed", "is_going"] : List Str) ++ (["gone", "_law_bag", "_law_dip", "_law_row", "_law_book", "_law_spots_of", "_law_line_of", "_law_due"] : List Str)
theorem run (w : World) : HandSHeadRun.RunEq Rw (PySem.W.view Rw.prog [31]) hk ob 6000 others w := by
  intro os
  kernel_rfl
section
variable {P : Program} {w : World} {K : PySem.W.Frag} {h base : Heap} {mg : Str → Option Value} {f : Addr}
theorem bl_of (X : K.In h) (G : h.Ns mainGlobals mg) (c : He.SaysD fas fns K) : Bl mg :=
  ⟨He.free_ok X G (c.fact 23), He.free_ok X G (c.fact 24), He.free_ok X G (c.fact 25), He.free_ok X G (c.fact 26), He.free_ok X G (c.fact 27), He.free_ok X G (c.fact 28), He.free_ok X G (c.fact 29), He.free_ok X G (c.fact 30), He.free_ok X G (c.fact 31), He.free_ok X G (c.fact 32), He.free_ok X G (c.fact 33), He.free_ok X G (c.fact 34), He.free_ok X G (c.fact 35), He.free_ok X G (c.fact 36), He.free_ok X G (c.fact 37), He.free_ok X G (c.fact 38), He.free_ok X G (c.fact 39)⟩
theorem code_is_row {f : Addr} {fd : FuncData} (F : FnP K "is_row" s_is_row f fd) (e : f = He.fAd K ("is_row", none)) : ∀ oc od fd osl, K.lookup f = some ⟨oc, od, .func fd, osl⟩ → fd.code = .ref (He.cT K ("is_row", none)).1 := fun oc od fd osl lk => by
  obtain ⟨oc', od', dV, kV, doc, pm, an, cdv', ct, osl', e1, lk', hcd, _⟩ := F.ex
  subst e1
  rw [lk'] at lk
  cases lk
  obtain ⟨c, rfl⟩ := He.codeIn_ref hcd
  rw [e] at lk'
  show Value.ref c = Value.ref (He.codeOf K ("is_row", none))
  rw [He.codeOf_eq lk' rfl]
theorem code_is_book {f : Addr} {fd : FuncData} (F : FnP K "is_book" s_is_book f fd) (e : f = He.fAd K ("is_book", none)) : ∀ oc od fd osl, K.lookup f = some ⟨oc, od, .func fd, osl⟩ → fd.code = .ref (He.cT K ("is_book", none)).1 := fun oc od fd osl lk => by
  obtain ⟨oc', od', dV, kV, doc, pm, an, cdv', ct, osl', e1, lk', hcd, _⟩ := F.ex
  subst e1
  rw [lk'] at lk
  cases lk
  obtain ⟨c, rfl⟩ := He.codeIn_ref hcd
  rw [e] at lk'
  show Value.ref c = Value.ref (He.codeOf K ("is_book", none))
  rw [He.codeOf_eq lk' rfl]
theorem code_is_going {f : Addr} {fd : FuncData} (F : FnP K "is_going" s_is_going f fd) (e : f = He.fAd K ("is_going", none)) : ∀ oc od fd osl, K.lookup f = some ⟨oc, od, .func fd, osl⟩ → fd.code = .ref (He.cT K ("is_going", none)).1 := fun oc od fd osl lk => by
  obtain ⟨oc', od', dV, kV, doc, pm, an, cdv', ct, osl', e1, lk', hcd, _⟩ := F.ex
  subst e1
  rw [lk'] at lk
  cases lk
  obtain ⟨c, rfl⟩ := He.codeIn_ref hcd
  rw [e] at lk'
  show Value.ref c = Value.ref (He.codeOf K ("is_going", none))
  rw [He.codeOf_eq lk' rfl]
theorem facts (X : K.In h) (G : h.Ns mainGlobals mg) (c : He.SaysD fas fns K) (TB0 : TabB h mg (He.cT K ("is_row", none)).1 (He.cT K ("is_row", none)).2) (TB1 : TabB h mg (He.cT K ("is_book", none)).1 (He.cT K ("is_book", none)).2) (TB2 : TabB h mg (He.cT K ("is_going", none)).1 (He.cT K ("is_going", none)).2) : CallD P w K mg h 7 "law" ["script"] (spLaw K (He.cT K ("is_row", none)).2 (He.cT K ("is_book", none)).2 (He.cT K ("is_going", none)).2) := by
  have B := bl_of X G c
  obtain ⟨tk0, m_MOST_PEOPLE⟩ := He.int_ok X G (c.fact 0 (f := .int "MOST_PEOPLE" 9) rfl)
  obtain ⟨_, F_is_whole⟩ := c.def_ 0 (d := dd "is_whole" s_is_whole) rfl
  obtain ⟨_, F_is_many⟩ := c.def_ 1 (d := dd "is_many" s_is_many) rfl
  obtain ⟨_, F_is_gap⟩ := c.def_ 2 (d := dd "is_gap" s_is_gap) rfl
  obtain ⟨_, F_is_row⟩ := c.def_ 3 (d := dd "is_row" s_is_row) rfl
  obtain ⟨_, F_check_many⟩ := c.def_ 4 (d := dd "check_many" s_check_many) rfl
  obtain ⟨_, F_is_book⟩ := c.def_ 5 (d := dd "is_book" s_is_book) rfl
  obtain ⟨_, F_check_row⟩ := c.def_ 6 (d := dd "check_row" s_check_row) rfl
  obtain ⟨_, F_check_book⟩ := c.def_ 7 (d := dd "check_book" s_check_book) rfl
  obtain ⟨_, F_check_gap⟩ := c.def_ 8 (d := dd "check_gap" s_check_gap) rfl
  obtain ⟨_, F_row_of⟩ := c.def_ 9 (d := dd "row_of" s_row_of) rfl
  obtain ⟨_, F_swapped⟩ := c.def_ 10 (d := dd "swapped" s_swapped) rfl
  obtain ⟨_, F_changed⟩ := c.def_ 11 (d := dd "changed" s_changed) rfl
  obtain ⟨_, F_is_going⟩ := c.def_ 12 (d := dd "is_going" s_is_going) rfl
  obtain ⟨_, F_gone⟩ := c.def_ 13 (d := dd "gone" s_gone) rfl
  obtain ⟨_, F__law_bag⟩ := c.def_ 14 (d := dd "_law_bag" s_law_bag) rfl
  obtain ⟨_, F__law_dip⟩ := c.def_ 15 (d := dd "_law_dip" s_law_dip) rfl
  obtain ⟨_, F__law_row⟩ := c.def_ 16 (d := dd "_law_row" s_law_row) rfl
  obtain ⟨_, F__law_book⟩ := c.def_ 17 (d := dd "_law_book" s_law_book) rfl
  obtain ⟨_, F__law_spots_of⟩ := c.def_ 18 (d := dd "_law_spots_of" s_law_spots_of) rfl
  obtain ⟨_, F__law_line_of⟩ := c.def_ 19 (d := dd "_law_line_of" s_law_line_of) rfl
  obtain ⟨_, F__law_due⟩ := c.def_ 20 (d := dd "_law_due" s_law_due) rfl
  obtain ⟨_, F_law⟩ := c.def_ 21 (d := dd "law" s_law) rfl
  have g_is_whole := He.glo_ok X G (c.fact 1 (f := .glo "is_whole") rfl)
  have g_is_many := He.glo_ok X G (c.fact 2 (f := .glo "is_many") rfl)
  have g_is_gap := He.glo_ok X G (c.fact 3 (f := .glo "is_gap") rfl)
  have g_is_row := He.glo_ok X G (c.fact 4 (f := .glo "is_row") rfl)
  have g_check_many := He.glo_ok X G (c.fact 5 (f := .glo "check_many") rfl)
  have g_is_book := He.glo_ok X G (c.fact 6 (f := .glo "is_book") rfl)
  have g_check_row := He.glo_ok X G (c.fact 7 (f := .glo "check_row") rfl)
  have g_check_book := He.glo_ok X G (c.fact 8 (f := .glo "check_book") rfl)
  have g_check_gap := He.glo_ok X G (c.fact 9 (f := .glo "check_gap") rfl)
  have g_row_of := He.glo_ok X G (c.fact 10 (f := .glo "row_of") rfl)
  have g_swapped := He.glo_ok X G (c.fact 11 (f := .glo "swapped") rfl)
  have g_changed := He.glo_ok X G (c.fact 12 (f := .glo "changed") rfl)
  have g_is_going := He.glo_ok X G (c.fact 13 (f := .glo "is_going") rfl)
  have g_gone := He.glo_ok X G (c.fact 14 (f := .glo "gone") rfl)
  have g__law_bag := He.glo_ok X G (c.fact 15 (f := .glo "_law_bag") rfl)
  have g__law_dip := He.glo_ok X G (c.fact 16 (f := .glo "_law_dip") rfl)
  have g__law_row := He.glo_ok X G (c.fact 17 (f := .glo "_law_row") rfl)
  have g__law_book := He.glo_ok X G (c.fact 18 (f := .glo "_law_book") rfl)
  have g__law_spots_of := He.glo_ok X G (c.fact 19 (f := .glo "_law_spots_of") rfl)
  have g__law_line_of := He.glo_ok X G (c.fact 20 (f := .glo "_law_line_of") rfl)
  have g__law_due := He.glo_ok X G (c.fact 21 (f := .glo "_law_due") rfl)
  have g_law := He.glo_ok X G (c.fact 22 (f := .glo "law") rfl)
  have C_is_whole := d_is_whole (P := P) (w := w) (base := h) (n := 0) F_is_whole g_is_whole B
  have C_is_many := d_is_many (P := P) (w := w) (base := h) (n := 1) F_is_many g_is_many (C_is_whole.le (by decide)) m_MOST_PEOPLE
  have C_is_gap := d_is_gap (P := P) (w := w) (base := h) (n := 1) F_is_gap g_is_gap (C_is_whole.le (by decide))
  have C_is_row := d_is_row (P := P) (w := w) (base := h) (n := 2) F_is_row g_is_row B (C_is_many.le (by decide)) F_is_whole g_is_whole TB0 (code_is_row F_is_row rfl)
  have C_check_many := d_check_many (P := P) (w := w) (base := h) (n := 2) F_check_many g_check_many (C_is_many.le (by decide))
  have C_is_book := d_is_book (P := P) (w := w) (base := h) (n := 3) F_is_book g_is_book B (C_check_many.le (by decide)) F_is_gap g_is_gap F_is_whole g_is_whole TB1 (code_is_book F_is_book rfl)
  have C_check_row := d_check_row (P := P) (w := w) (base := h) (n := 3) F_check_row g_check_row (C_is_row.le (by decide))
  have C_check_book := d_check_book (P := P) (w := w) (base := h) (n := 4) F_check_book g_check_book (C_is_book.le (by decide))
  have C_row_of := d_row_of (P := P) (w := w) (base := h) (n := 3) F_row_of g_row_of B (C_check_many.le (by decide))
  have C_swapped := d_swapped (P := P) (w := w) (base := h) (n := 0) F_swapped g_swapped 
  have C_check_gap := d_check_gap (P := P) (w := w) (base := h) (n := 2) F_check_gap g_check_gap (C_is_gap.le (by decide))
  have C_changed := d_changed (P := P) (w := w) (base := h) (n := 4) F_changed g_changed B (C_check_row.le (by decide)) (C_check_gap.le (by decide)) (C_swapped.le (by decide))
  have C_is_going := d_is_going (P := P) (w := w) (base := h) (n := 0) F_is_going g_is_going B TB2 (code_is_going F_is_going rfl)
  have C_gone := d_gone (P := P) (w := w) (base := h) (n := 5) F_gone g_gone B (C_check_book.le (by decide)) (C_is_going.le (by decide)) (C_row_of.le (by decide)) (C_swapped.le (by decide))
  have C__law_bag := d_law_bag (P := P) (w := w) (base := h) (n := 0) F__law_bag g__law_bag B
  have C__law_dip := d_law_dip (P := P) (w := w) (base := h) (n := 0) F__law_dip g__law_dip 
  have C__law_row := d_law_row (P := P) (w := w) (base := h) (n := 1) F__law_row g__law_row B (C__law_dip.le (by decide))
  have C__law_book := d_law_book (P := P) (w := w) (base := h) (n := 1) F__law_book g__law_book B (C__law_dip.le (by decide))
  have C__law_spots_of := d_law_spots_of (P := P) (w := w) (base := h) (n := 0) F__law_spots_of g__law_spots_of B
  have C__law_line_of := d_law_line_of (P := P) (w := w) (base := h) (n := 0) F__law_line_of g__law_line_of B
  have C__law_due := d_law_due (P := P) (w := w) (base := h) (n := 1) F__law_due g__law_due B (C__law_spots_of.le (by decide)) (C__law_line_of.le (by decide))
  have C_law := d_law (P := P) (w := w) (base := h) (n := 6) F_law g_law B (C__law_bag.le (by decide)) (C__law_dip.le (by decide)) (C__law_row.le (by decide)) (C__law_book.le (by decide)) (C__law_spots_of.le (by decide)) (C__law_line_of.le (by decide)) (C__law_due.le (by decide)) (C_gone.le (by decide)) (C_changed.le (by decide))
  exact C_law
end
end K02
open PySem PySem.W PySem.Calls PyProof.Rows
theorem PySem.Challenge.cw_maymeet_k02_goings_gone_holds : PySem.Challenge.rw_maymeet_k02_goings_gone.Holds := by
  w_on; o_law
  refine HandSHeadRun.head_any (r := K02.Rw) (q := view K02.Rw.prog [31]) (H := K02.hk) (ob := K02.ob) (M := 6000) (loose := K02.others) (d := HandSHeadRun.topDef K02.Rw.prog 31) (kwd := []) K02.ob_eq
    (by kernel_rfl) (fun s => by kernel_rfl) K02.run (by kernel_rfl) (by kernel_rfl) (by kernel_rfl) (by rfl) (by first | assumption | decide +kernel) (by decide +kernel) ⟨rfl, rfl, rfl, rfl, rfl, by decide +kernel⟩ ?hw ?hc
  case hw => w_witness2
  case hc =>
    refine MM.walkG (l := PySem.Challenge.rw_maymeet_k02_goings_gone) (n := 63) (k := 7) (x := "script") rfl (by decide) (by kernel_rfl) ⟨rfl, by decide, by decide⟩ ?F
    intro w mg fa h Y G hmg0
    obtain ⟨K, KX, c⟩ := Y
    have e : (HandSHeadRun.topDef K02.Rw.prog 31).name = ("law" : PySem.Str) := by kernel_rfl
    rw [e]
    refine ⟨K, KX, [He.cT K ("is_row", none), He.cT K ("is_book", none), He.cT K ("is_going", none)], K02.spLaw K (He.cT K ("is_row", none)).2 (He.cT K ("is_book", none)).2 (He.cT K ("is_going", none)).2, List.forall_mem_cons.mpr ⟨c.empty _ List.mem_cons_self, List.forall_mem_cons.mpr ⟨c.empty _ (List.mem_cons_of_mem _ List.mem_cons_self), List.forall_mem_singleton.mpr (c.empty _ (List.mem_cons_of_mem _ (List.mem_cons_of_mem _ List.mem_cons_self)))⟩⟩, List.forall_mem_cons.mpr ⟨c.out _ List.mem_cons_self, List.forall_mem_cons.mpr ⟨c.out _ (List.mem_cons_of_mem _ List.mem_cons_self), List.forall_mem_singleton.mpr (c.out _ (List.mem_cons_of_mem _ (List.mem_cons_of_mem _ List.mem_cons_self)))⟩⟩, List.forall_mem_cons.mpr ⟨PySem.W.codeHd_of_K KX (c.hd _ List.mem_cons_self), List.forall_mem_cons.mpr ⟨PySem.W.codeHd_of_K KX (c.hd _ (List.mem_cons_of_mem _ List.mem_cons_self)), List.forall_mem_singleton.mpr (PySem.W.codeHd_of_K KX (c.hd _ (List.mem_cons_of_mem _ (List.mem_cons_of_mem _ List.mem_cons_self))))⟩⟩, fun H a ns hl hb hT hS => ⟨a, ns, rfl, hS, hl, ⟨#[], hT _ List.mem_cons_self, trivial⟩, ⟨#[], hT _ (List.mem_cons_of_mem _ List.mem_cons_self), trivial⟩, ⟨#[], hT _ (List.mem_cons_of_mem _ (List.mem_cons_of_mem _ List.mem_cons_self)), trivial⟩, fun _ => rfl⟩, fun base KB GB TB => K02.facts KB GB c.t.d (TB _ List.mem_cons_self) (TB _ (List.mem_cons_of_mem _ List.mem_cons_self)) (TB _ (List.mem_cons_of_mem _ (List.mem_cons_of_mem _ List.mem_cons_self)))⟩
