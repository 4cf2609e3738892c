import PyProof.Rows.All
import Wide.All
import OpenK.AllK
import Wide.FinOn
import HandS.ForMost
import HandS.Wide
import HandS.Gcd
import HandS.IsInst
import HandS.Conv
import HandS.TupAny
import HandS.TupMul
import HandS.Zip
import HandS.Walk
import HandS.Evl
import HandS.DictComp
import HandS.DictTup
import HandS.SortInts
import HandS.EndTab
import HandS.AnyAll
import KE.SortData
import KE.GoesEnum
import HandS.NamedTupSort
import PyProof.GenCompD
import HandS.WideBits
import HandS.RaiseMore
import KE.DataMinMax
import KE.GoesNew
import HandS.Style
import PyProof.ReprRoads
import PyProof.Rows.StrOr
import HandS.TupSets
import PySem.Challenge.RW_stagecuts_k07_whole_shares_and_forms
set_option Elab.async false
set_option linter.all false
set_option maxRecDepth 100000
set_option maxHeartbeats 4000000
namespace SC
open PySem PySem.Spec PyProof.Rows L2

/-! ## heaps -/
/-- the heap without the addresses of D -/
def hid (D : List Addr) (H : Hp) : Hp := fun a => if a ∈ D then none else H a
theorem hid_in {D : List Addr} {H : Hp} {a : Addr} (h : a ∈ D) : hid D H a = none := if_pos h
theorem hid_out {D : List Addr} {H : Hp} {a : Addr} (h : a ∉ D) : hid D H a = H a := if_neg h
theorem hid_same {D : List Addr} {H : Hp} : Same (hid D H) H := fun a o e => by
  by_cases h : a ∈ D
  · rw [hid_in h] at e; cases e
  · rw [hid_out h] at e; exact e
theorem hid_nil {H : Hp} : hid [] H = H := by
  funext a
  exact hid_out (by simp)
theorem same_hid {D : List Addr} {H H' : Hp} (s : Same H H') : Same (hid D H) (hid D H') := fun a o e => by
  by_cases h : a ∈ D
  · rw [hid_in h] at e; cases e
  · rw [hid_out h] at e ⊢; exact s a o e
theorem hid_upd {D : List Addr} {H : Hp} {a : Addr} {o : HO} (h : a ∈ D) : hid D (upd H a o) = hid D H := by
  funext b
  by_cases hb : b ∈ D
  · rw [hid_in hb, hid_in hb]
  · rw [hid_out hb, hid_out hb, upd_ne (fun e => hb (by rw [e]; exact h))]
theorem same_new {H : Hp} {p : Addr} {o : HO} (h : H p = none) : Same H (upd H p o) := fun b x e => by
  rw [upd_ne (ne_of_none e h)]
  exact e
theorem hid_mono {D D' : List Addr} {H : Hp} (h : ∀ a ∈ D, a ∈ D') : Same (hid D' H) (hid D H) := fun a o e => by
  by_cases ha : a ∈ D'
  · rw [hid_in ha] at e; cases e
  · rw [hid_out ha] at e
    rw [hid_out (fun z => ha (h a z))]
    exact e
/-- what is written stands outside of what was known -/
theorem same_mut {H H' : Hp} {p : Addr} {o : HO} (s : Same H H') (h : H p = none) : Same H (upd H' p o) := fun b x e => by
  rw [upd_ne (ne_of_none e h)]
  exact s b x e
theorem none_back {H H' : Hp} {p : Addr} (s : Same H H') (h : H' p = none) : H p = none := s.free h
theorem same_t {K : PySem.W.Frag} {H H' : Hp} {a : Addr} {xs : List V} (s : Same H H') (h : SqT K H a xs) : SqT K H' a xs := by
  rcases h with (h | ⟨o, h⟩) | h
  · exact .inl (.inl (s _ _ h))
  · exact .inl (.inr ⟨o, s _ _ h⟩)
  · exact .inr h
section
variable {K : PySem.W.Frag} {H H' : Hp}
mutual
theorem dp_same (s : Same H H') : ∀ {v : V} {d : PyData}, Dp K H v d → Dp K H' v d
  | _, _, .non => .non
  | _, _, .bl b => .bl b
  | _, _, .int i => .int i
  | _, _, .str x => .str x
  | _, _, .lst h1 h2 => .lst (s.seq h1) (dps_same s h2)
  | _, _, .tup h1 h2 => .tup (same_t s h1) (dps_same s h2)
theorem dps_same (s : Same H H') : ∀ {vs : List V} {ds : List PyData}, DpAll K H vs ds → DpAll K H' vs ds
  | _, _, .nil => .nil
  | _, _, .cons h1 h2 => .cons (dp_same s h1) (dps_same s h2)
end
theorem dps_len : ∀ {vs : List V} {ds : List PyData}, DpAll K H vs ds → vs.length = ds.length
  | _, _, .nil => rfl
  | _, _, .cons _ h => congrArg (· + 1) (dps_len h)
theorem dps_get : ∀ {vs : List V} {ds : List PyData} {i : Nat} {v : V}, DpAll K H vs ds → vs[i]? = some v → ∃ d, ds[i]? = some d ∧ Dp K H v d
  | _, _, i, _, .nil, e => by simp at e
  | _, _, 0, v, .cons h _, e => by
    simp at e; subst e
    exact ⟨_, rfl, h⟩
  | _, _, i + 1, v, .cons _ h, e => by
    obtain ⟨d, h1, h2⟩ := dps_get (i := i) h (by simpa using e)
    exact ⟨d, by simpa using h1, h2⟩
theorem dps_app : ∀ {vs ws : List V} {ds es : List PyData}, DpAll K H vs ds → DpAll K H ws es → DpAll K H (vs ++ ws) (ds ++ es)
  | _, _, _, _, .nil, h => h
  | _, _, _, _, .cons h1 h2, h => .cons h1 (dps_app h2 h)
theorem dps_map {α : Type} {f : α → V} {g : α → PyData} : ∀ {l : List α}, (∀ x ∈ l, Dp K H (f x) (g x)) → DpAll K H (l.map f) (l.map g)
  | [], _ => .nil
  | x :: l, h => .cons (h x (List.mem_cons_self ..)) (dps_map fun y hy => h y (List.mem_cons_of_mem _ hy))
end

/-! ## defs that run where no display is under way -/
structure FnG (P : Program) (w : World) (K : PySem.W.Frag) (mg : Str → Option Value) (base : Heap) (k : Nat) (f : Addr) (fd : FuncData) (ps : List Str) (sp : Sp) : Prop where
  len : ∀ vs H Q E, sp vs H Q E → vs.length = ps.length
  run : ∀ (A : Around) (outer : List Env) (s : Shared) (H : Hp) (args : Args) (us : List Value) (vs : List V) (Q : VK),
    A.guards = some [] → Room k A → Env0 P w K mg base A outer s H → BindsTo s fd args (ps.zip us) → Vals vs us → sp vs H Q E0 →
    codeAny (model P w) A (.call (.ref f) args)
      (CR CX0 outer P w H s Q E0) s
theorem FnG.of_ok {P : Program} {w : World} {K : PySem.W.Frag} {mg : Str → Option Value} {base : Heap} {k : Nat} {f : Addr} {fd : FuncData} {ps : List Str} {sp : Sp}
    (F : FnOk P w K mg base CX0 k f fd ps sp) : FnG P w K mg base k f fd ps sp :=
  ⟨F.len, fun A outer s H args us vs Q _ hr he hb hv hs => F.run A outer s H args us vs Q E0 hr he hb hv hs⟩

/-- the rule for such a def -/
theorem FnG.mk' {P : Program} {w : World} {K : PySem.W.Frag} {mg : Str → Option Value} {base : Heap} {x qual : Str} {st : Stmt} {f : Addr} {fd : FuncData} {N ps : List Str} {k : Nat} {sp : Sp}
    (F : Fun K x qual st f fd) (S : FnScope N ps (defScope st)) (len : ∀ vs H Q E, sp vs H Q E → vs.length = ps.length)
    (hbody : ∀ (cdv : Value) (A : Around) (outer : List Env) (s : Shared) (H : Hp) (vs : List V) (Q : VK), A.guards = some [] →
      Room k (A.deeper (envOfC qual (defScope st) s.heap.objs.size f cdv)) → sp vs H Q E0 →
      ∃ t, PSs (cxOf CX0 P w K mg base N qual (defScope st) f cdv A outer s H E0).nox (defBody st) t ∧
        t { nx := fun _ H' => Q .non H', rt := Q } (start N vs) H) :
    FnG P w K mg base (k + 1) f fd ps sp := by
  obtain ⟨oc, od, kV, doc, pm, an, cdv, ct, osl, rfl, lk, hcd⟩ := F.ex
  refine ⟨len, fun A outer s H args us vs Q hg hr e0 hb r hsp => ?_⟩
  have hl := len _ _ _ _ hsp
  have KX : K.In s.heap := e0.mod.kin.keeps fun b o e => (e0.bs b o e).1
  have lim : s.heap.NoLimit := e0.mod.nolimit.keeps fun b o e => (e0.bs b o e).1
  refine codeAny_call_function hr.depth (KX _ _ lk) rfl S.co S.gen rfl (PySem.W.codeRec_of KX hcd) (hb _ _ _ _ ?_)
  refine wpAny_newFunctionEnv_cells S.kind (fun y hy => ?_) fun env he s1 z => ?_
  · rcases S.par y.1 (List.of_mem_zip hy).1 with q | q
    · exact .inl q
    · exact .inr ⟨q, PySem.W.cellsFrom_some _ _ _ (.inl q)⟩
  subst he
  refine ⟨lim.keeps z.toInCall.keep, codeAny_func ?_⟩
  obtain ⟨t, ht, hq⟩ := hbody cdv A outer s H vs Q hg (hr.deeper _) hsp
  have I := inv_start (CX := CX0) (E := E0) S hr.hd e0 hl r z
  refine wpAny_mono (ht.nox.run [] s1 (start N vs) H _ I hq) (fun fl s' hs => ?_) fun e s' hs => hs
  cases fl with
  | ret u =>
    obtain ⟨v, σ', H', J, rv, q⟩ := hs
    exact ⟨v, H', J.os, J.bare, J.base, J.hok, rv, q⟩
  | next =>
    obtain ⟨σ', H', J, q⟩ := hs
    exact ⟨V.non, H', J.os, J.bare, J.base, J.hok, rfl, q⟩
  | brk => exact hs.elim fun _ h => h.elim fun _ h => False.elim h.2
  | cont => exact hs.elim fun _ h => h.elim fun _ h => False.elim h.2

section
variable {X : Cx} {k : Nat} {f : Addr} {fd : FuncData} {ps ks : List Str} {sp : Sp} {dvs : List V} {ds : List Value} {x : Str} {p pos : Pos} {e : Expr} {es : List Expr} {t tk : TA} {kws : List Keyword}
  {g : List Value → List Value → List Value} {gV : List V → List V → List V}
/-- it comes back with a value -/
def RetP (Q : Value → Shared → Prop) (r : Result) (s' : Shared) : Prop := match r with
  | .ok (.ret u) => Q u s'
  | _ => False
theorem after_run {pins : List (Addr × Obj)} {σ : L2.St} {H : Hp} {s s' : Shared} {Q : VK} {r : Result} (I : Inv X pins σ H s) (h : CR CX0 X.stack X.prog X.w H s Q E0 r s') : RetP (EP X pins σ Q) r s' := by
  cases r with
  | error e => exact h
  | ok fl => cases fl with
    | ret u => exact I.after h
    | next => exact h
    | brk => exact h
    | cont => exact h
theorem run_g {pins : List (Addr × Obj)} {σ : L2.St} {H : Hp} {s : Shared} {Q : VK} {us : List Value} {vs : List V} {args : Args} (F : FnG X.prog X.w X.K X.mg X.base k f fd ps sp) (hg : X.A.guards = some []) (hr : Room k X.A)
    (I : Inv X pins σ H s) (hb : BindsTo s fd args (ps.zip us)) (r : Vals vs us) (h : sp vs H Q E0) :
    codeAny (model X.prog X.w) X.A (.call (.ref f) args) (RetP (EP X pins σ Q)) s :=
  codeAny_mono (F.run X.A X.stack s H args us vs Q hg hr I.env0 hb r h) fun _ _ hq => after_run I hq
theorem pe_callG (F : FnG X.prog X.w X.K X.mg X.base k f fd ps sp) (hgd : X.A.guards = some []) (hr : Room k X.A) (hg : Gl X x) (hm : X.mg x = some (.ref f)) (hk : PySem.W.keepIn X.K (.ref f) = true)
    (hb : Binds X.K fd ps ds) (hd : Vals dvs ds) (ha : PA X (e :: es) t) (hdb : (x == ("__debug__" : Str)) = false := by decide)
    (he : starEach (e :: es) X.env = (false, eval e X.env) :: starEach es X.env := by rfl)
    (hpl : (backTo pos (starEach es X.env)).any (·.1) = false := by rfl) :
    PE X (.Call (.Name x p) (e :: es) [] pos) (tCall sp dvs E0 t) := by
  refine ⟨fun pins s σ H Q I h => wpAny_Call_Name_kw (ld_glob I hg hm ?_ hdb)⟩
  refine PySem.W.callWith_K (h₀ := X.base) I.ok.mod.kin hk (thn (ha.run pos pins s σ H _ I h) fun us s1 ⟨vs, H1, I1, r, q⟩ => ⟨I1.kIn, ?_⟩) he hpl
  have r2 : Vals (vs ++ dvs) (us ++ ds) := r.append hd
  have hl : (us ++ ds).length = ps.length := by
    rw [← r2.length]
    exact F.len _ _ _ _ q
  refine wpAny_call (codeAny_mono (run_g F hgd hr I1 (hb s1 us I1.kIn hl) r2 q) fun R s' hq => ?_)
  cases R with
  | error e => exact False.elim hq
  | ok fl => cases fl with
    | ret u => exact hq
    | next => exact False.elim hq
    | brk => exact False.elim hq
    | cont => exact False.elim hq
/-- f(k = v, ..): keywords alone -/
theorem pe_kw (F : FnOk X.prog X.w X.K X.mg X.base CX0 k f fd ps sp) (hr : Room k X.A) (hg : Gl X x) (hm : X.mg x = some (.ref f)) (hk : PySem.W.keepIn X.K (.ref f) = true)
    (hb : KBinds X.K fd ps ks g gV) (hkw : PK X kws tk)
    (hall : (backToKw pos (keywordEach kws X.env)).all (·.1.isSome) = true := by rfl)
    (hks : (backToKw pos (keywordEach kws X.env)).filterMap (·.1) = ks := by rfl)
    (hdb : (x == ("__debug__" : Str)) = false := by decide)
    (hpl : (backToKw pos (keywordEach kws X.env)).any (·.1.isNone) = false := by rfl) :
    PE X (.Call (.Name x p) [] kws pos) (tCallK sp gV E0 tNil tk) := by
  refine ⟨fun pins s σ H Q I h => wpAny_Call_Name_kw (ld_glob I hg hm ?_ hdb)⟩
  refine PySem.W.callWith_KW0 (h₀ := X.base) I.ok.mod.kin hk hall ?_ hpl
  refine thn (hkw.run pos pins s σ H _ I h) fun ws s2 ⟨zs, H2, I2, rz, q2⟩ => ⟨I2.kIn, ?_⟩
  rw [hks]
  exact run_fnk F hr hb pass0 I2 .nil rz q2
end
end SC
namespace SC
open PySem PySem.Spec PyProof.Rows L2 StrLaws

/-! ## how long a text is, how deep a datum -/
mutual
def nd : PyData → Nat
  | .none => 1
  | .bool _ => 1
  | .int _ => 1
  | .str x => 1 + x.cps.size
  | .list xs => 1 + ndAll xs
  | .tuple xs => 1 + ndAll xs
  | .dict _ => 1
def ndAll : List PyData → Nat
  | [] => 0
  | x :: xs => nd x + ndAll xs
end
mutual
/-- no dict, ints below 10 ^ 62, signs of texts below 16 ^ 8 -/
def okD : PyData → Bool
  | .none => true
  | .bool _ => true
  | .int i => decide (i.natAbs < 10 ^ 62)
  | .str x => x.cps.toList.all fun c => decide (c < 16 ^ 8)
  | .list xs => okAll xs
  | .tuple xs => okAll xs
  | .dict _ => false
def okAll : List PyData → Bool
  | [] => true
  | x :: xs => okD x && okAll xs
end
theorem log_small {m : Nat} (h : m < 10 ^ 62) : m.log2 < 1920 := log2_small (Nat.lt_trans h (by decide +kernel))
mutual
theorem ok_facts : ∀ d : PyData, okD d = true → d.shown.length + 5 ≤ 72 * nd d ∧ d.showable = true ∧ d.hasDict = false
  | .none, _ => by
    refine ⟨?_, by simp only [PyData.showable], by simp only [PyData.hasDict]⟩
    have e : (PyData.shown .none).length = 4 := rfl
    simp only [nd]; omega
  | .bool b, _ => by
    refine ⟨?_, by simp only [PyData.showable], by simp only [PyData.hasDict]⟩
    have e : (PyData.shown (.bool b)).length ≤ 5 := by cases b <;> decide
    simp only [nd]; omega
  | .int i, h => by
    have h1 : i.natAbs < 10 ^ 62 := by simpa only [okD, decide_eq_true_eq] using h
    refine ⟨?_, by simp only [PyData.showable, decide_eq_true_eq]; exact log_small h1, by simp only [PyData.hasDict]⟩
    have e := int_text_length_le10 (k := 62) (by decide) h1
    have e2 : (PyData.shown (.int i)).length ≤ 63 := by
      show (Str.ofString (toString i)).length ≤ 63
      rw [PySem.ofString_length]
      exact e
    simp only [nd]; omega
  | .str x, h => by
    have hx : ∀ c ∈ x.cps.toList, c < 16 ^ 8 := by simpa only [okD, List.all_eq_true, decide_eq_true_eq] using h
    have e := reprText_len x hx
    have e2 : x.length = x.cps.size := rfl
    refine ⟨?_, by simp only [PyData.showable], by simp only [PyData.hasDict]⟩
    simp only [PyData.shown, nd]
    omega
  | .list xs, h => by
    have h1 := ok_factsA xs (by simpa only [okD] using h)
    have h2 := listText_len_le (PyData.shownAll xs)
    have h3 := PyData.shownAll_length xs
    refine ⟨?_, by simp only [PyData.showable]; exact h1.2.1, by simp only [PyData.hasDict]; exact h1.2.2⟩
    simp only [PyData.shown, nd]
    omega
  | .tuple xs, h => by
    have h1 := ok_factsA xs (by simpa only [okD] using h)
    have h2 := tupleText_len_le (PyData.shownAll xs)
    have h3 := PyData.shownAll_length xs
    refine ⟨?_, by simp only [PyData.showable]; exact h1.2.1, by simp only [PyData.hasDict]; exact h1.2.2⟩
    simp only [PyData.shown, nd]
    omega
  | .dict kvs, h => by simp only [okD] at h; cases h
theorem ok_factsA : ∀ xs : List PyData, okAll xs = true → ((PyData.shownAll xs).map (·.length)).sum + 5 * xs.length ≤ 72 * ndAll xs ∧ PyData.showableAll xs = true ∧ PyData.hasDictAll xs = false
  | [], _ => ⟨by simp only [PyData.shownAll, ndAll, List.map_nil, List.sum_nil, List.length_nil]; omega, by simp only [PyData.showableAll], by simp only [PyData.hasDictAll]⟩
  | x :: xs, h => by
    have h' : okD x = true ∧ okAll xs = true := by simpa only [okAll, Bool.and_eq_true] using h
    have h1 := ok_facts x h'.1
    have h2 := ok_factsA xs h'.2
    refine ⟨?_, by simp only [PyData.showableAll, h1.2.1, h2.2.1, Bool.and_self], by simp only [PyData.hasDictAll, h1.2.2, h2.2.2, Bool.or_self]⟩
    simp only [PyData.shownAll, ndAll, List.map_cons, List.sum_cons, List.length_cons]
    omega
end
/-- a datum that repr shows -/
structure Shows (d : PyData) : Prop where
  ok : okD d = true
  many : nd d ≤ 200000
  deep : d.depth ≤ 60

section
variable {X : Cx}
/-- repr of a list, a tuple -/
def rRepr (K : PySem.W.Frag) : List V → Hp → VK → Prop := fun xs H Q => ∃ (a : Addr) (d : PyData), xs = [.ref a] ∧ Dp K H (.ref a) d ∧ Shows d ∧ Q (.str d.shown) H
theorem call_repr (hgd : X.A.guards = some []) (hu : X.A.units + 70 < cLine) : CallR X (.builtin "repr") (rRepr X.K) := by
  intro pins s σ H xs us Q I r h
  obtain ⟨a, d, rfl, hd, hs, q⟩ := h
  obtain ⟨u, rfl, rx⟩ := vals1 r
  cases rx
  obtain ⟨as, rd⟩ := Dp.reads I d _ _ hd rfl
  obtain ⟨f1, f2, f3⟩ := ok_facts d hs.ok
  have hm := hs.many
  have hp := hs.deep
  refine repr_of_reads' rd f2 (PyData.noDict_hsm f3) hgd (by omega) (fun _ _ e => e) (fun h' u tk hk => ?_) (by rw [sizeLine_eq]; omega)
  exact ⟨.str _, H, I.kept (t' := tk) hk, ⟨_, rfl⟩, q⟩
end

/-! ## enumerate(t), t a tuple -/
set_option maxHeartbeats 1000000 in
theorem meets_enum1 {v : Value} {o : Obj} {G : Heap → Prop} (B : Begins v o G) :
    Meets (Builtin.«enumerate.__new__» ⟨[.type "enumerate", v], []⟩) (fun _ R s => G s.heap ∧
      R (.ok (.ret (.ref (s.heap.push o).objs.size)))
        { s with heap := (s.heap.push o).push { cls := .type "enumerate", data := .fields #[.none, .bool false, .ref s.heap.objs.size, rawInt 0, .none, .none] } }) :=
  .of_wp fun prog w A R s h => by
    obtain ⟨hp, g, d, tk, os⟩ := s; obtain ⟨h1, h2⟩ := h
    have hsub := sub_enumerate
    have q1 : ∀ {A' : Around} {E Q : Value → Shared → Prop}, Q (.ref hp.objs.size) ⟨hp.push o, g, d, tk, os⟩ → wpAny (model prog w) A' (pyIter v) Q E ⟨hp, g, d, tk, os⟩ :=
      fun z => B.iter prog w _ _ ⟨hp, g, d, tk, os⟩ _ h1 z
    wp_walk using q1
    refine wpAny_stack_any fun st => wpAny_pure ?_
    split
    · rename_i c _ _ _ _ _
      cases (c == Value.type "enumerate") <;> (wp_walk using q1; exact ⟨_, rfl, h2⟩)
    · wp_walk using q1
      exact ⟨_, rfl, h2⟩
theorem enum_one {prog : Program} {w : World} {A : Around} {E : Value → Shared → Prop} {s : Shared} {v : Value} {o : Obj} {G : Heap → Prop} {Q : Value → Shared → Prop} (B : Begins v o G) (h1 : G s.heap)
    (h : ∀ h', IsEnum h' (s.heap.objs.size + 1) s.heap.objs.size 0 .none → h'.get? s.heap.objs.size = some o → h'.objs.size = s.heap.objs.size + 2 →
      (∀ b u, s.heap.get? b = some u → h'.get? b = some u) → Q (.ref (s.heap.objs.size + 1)) { s with heap := h' }) :
    wpAny (model prog w) A (call (.type "enumerate") [v]) Q E s := by
  refine callType_new F.called_enumerate (by decide) (F.typeCall_enumerate_1 _) (F.newCall_enumerate_1 _) (fun obj => F.args_object_init_2 obj _) F.entry_enumerate_new (meets_enum1 B) ⟨h1, ?_⟩
  have hz : (s.heap.push o).objs.size = s.heap.objs.size + 1 := Heap.size_push ..
  show _ ∧ _
  rw [hz]
  have he : IsEnum ((s.heap.push o).push { cls := .type "enumerate", data := .fields #[.none, .bool false, .ref s.heap.objs.size, rawInt 0, .none, .none] }) (s.heap.objs.size + 1) s.heap.objs.size 0 .none := by
    have z := Heap.get?_push_size (s.heap.push o) (o := { cls := .type "enumerate", data := .fields #[.none, .bool false, .ref s.heap.objs.size, rawInt 0, .none, .none] }) rfl
    rw [hz] at z
    exact z
  refine ⟨⟨_, he, rfl⟩, h _ he ?_ (by rw [Heap.size_push, hz]) fun b u x => Heap.get?_push_of_some _ (Heap.get?_push_of_some _ x)⟩
  exact Heap.get?_push_of_some _ (Heap.get?_push_size _ B.free)

/-- the tuple at a, each item with its place in a new pair -/
def Itet (K : PySem.W.Frag) (a : Addr) : It :=
  ⟨fun i H => ∃ (xs : List V) (x : V), SqT K H a xs ∧ xs[i]? = some x,
    fun i H v H' => ∃ T x, v = .ref T ∧ H T = none ∧ H' = upd H T (.tup [.int (i : Nat), x]) ∧ ∀ xs, SqT K H a xs → xs[i]? = some x,
    fun i H => ∃ xs : List V, SqT K H a xs ∧ xs.length = i⟩
theorem turn_enumT {P : Program} {w : World} {K : PySem.W.Frag} {elts : List Expr} {kk : Nat} {tpos : Pos} (a e it : Addr) :
    Turn P w K (.Tuple elts kk tpos) (Itet K a) [e, it] e (fun i h => (∃ old, IsEnum h e it ((i : Nat) : Int) old) ∧ h.IsTupleIter it a i ∧ e ≠ it ∧ e ≠ a ∧ it ≠ a) where
  mem := by simp
  obj := fun i h st b hb => by
    obtain ⟨⟨old, he⟩, ⟨o, ho, hc, hd⟩, _⟩ := st
    rcases (by simpa using hb : b = e ∨ b = it) with z | z
    · rw [z]; exact ⟨_, he, fun v q => nomatch q⟩
    · rw [z]; exact ⟨o, ho, fun v q => by rw [hd] at q; cases q⟩
  keep := fun i h h' st k => let ⟨⟨old, he⟩, hi, hne⟩ := st; ⟨⟨old, k e (by simp) _ he⟩, hi.at fun o q => k it (by simp) o q, hne⟩
  item := by
    intro X hP hw hK hc i pins s σ H E I hf st hg
    subst hP hw hK
    obtain ⟨⟨old, he⟩, hit, hne, hea, hia⟩ := st
    obtain ⟨xs, x, hq, hx⟩ := hg
    obtain ⟨its, rv, ht, hz⟩ := I.tuple hq
    obtain ⟨u, hu, ru⟩ := rv.get hx
    have hel : e < s.heap.objs.size := Heap.lt_size he
    have hil : it < s.heap.objs.size := by obtain ⟨_, q, _⟩ := hit; exact Heap.lt_size q
    have hlt : i < its.toArray.size := by
      have := (List.getElem?_eq_some_iff.mp hu).1
      simpa using this
    refine wpAny_pyNext_enum_itemC (Draws.tuple (A := X.A.in1) (show X.A.in1.handled = none from I.ok.hd hc) it a (Ne.symm hia) its.toArray) he ⟨hit, ht⟩ hlt hne (by simp [hne, hea]) fun y h' tk hy ho hst hT hsz hk => ?_
    have ey : y = u := by
      have z : its[i]? = some y := by simpa using hy
      rw [hu] at z
      exact (Option.some.inj z).symm
    subst ey
    refine ⟨_, rfl, wpAny_letOwnedTupleGo_enum (s := { s with heap := h', toks := tk + 1 }) ho fun h2 he2 sb => ?_⟩
    have hT2 : h2.get? s.heap.objs.size = some { cls := .type "tuple", data := .seq #[.int i tk, y] } := (sb.2 _ (Nat.ne_of_gt hel)).trans hT
    have new : ObjOk X.prog X.w (upd H s.heap.objs.size (.tup [.int (i : Nat), x])) h2 s.heap.objs.size (.tup [.int (i : Nat), x]) :=
      ⟨by show 2 ≤ sizeLine; decide, [.int i tk, y], .cons ⟨_, rfl⟩ (.cons ru .nil), ⟨_, hT2, rfl, _, rfl⟩⟩
    have I1 : Inv X pins σ (upd H s.heap.objs.size (.tup [.int (i : Nat), x])) { s with heap := h2, toks := tk + 1 } :=
      I.turnedNew (ch := [e, it]) (fun b ob hb q => (sb.2 b (fun z => hb (by simp [z]))).trans (hk b ob (fun z => hb (by simp [z])) (fun z => hb (by simp [z])) q)) hf (Nat.le_refl _) new
    refine ⟨.ref s.heap.objs.size, _, I1, rfl, ⟨_, x, rfl, I.hok.fresh (Nat.le_refl _), rfl, fun ys hy => by rw [I.tuple_inj hy hq]; exact hx⟩, ⟨⟨y, ?_⟩, hst.1.at fun o q => (sb.2 it (Ne.symm hne)).trans q, hne, hea, hia⟩, fun b hb => ?_⟩
    · have e1 : ((i + 1 : Nat) : Int) = (i : Int) + 1 := by omega
      rw [e1]; exact he2
    · have hb' : b < s.heap.objs.size := by
        rcases (by simpa using hb : b = e ∨ b = it) with z | z
        · rw [z]; exact hel
        · rw [z]; exact hil
      rw [upd_ne (Nat.ne_of_lt hb')]
      exact (hf b hb).1
  done := by
    intro X hP hw hK hc i pins s σ H E I hf st hg
    subst hP hw hK
    obtain ⟨⟨old, he⟩, hit, hne, hea, hia⟩ := st
    obtain ⟨xs, hq, hx⟩ := hg
    obtain ⟨its, rv, ht, hz⟩ := I.tuple hq
    obtain ⟨f0, f1, f2, f3, f4, f5⟩ := hf it (by simp)
    have hl := rv.length
    have hl2 : its.toArray.size = i := by rw [List.size_toArray]; omega
    refine wpAny_pyNext_enum_endD (Draws.tuple (A := X.A.in1) (show X.A.in1.handled = none from I.ok.hd hc) it a (Ne.symm hia) its.toArray) he ⟨by rw [hl2]; exact hit, ht⟩ fun h' eb => ⟨rfl, I.turned (t' := s.toks) (fun b o hb q => eb b o hb q) f0 f1 f3 f4 f5⟩
  self := fun A i s Q E st h => let ⟨⟨_, he⟩, _⟩ := st; wpAny_pyIter_enum he h
end SC
namespace SC
open PySem PySem.Spec PyProof.Rows L2 StrLaws

/-! ## steps of a reading -/
section
variable {σ : L2.St} {H : Hp} {Q : VK} {QB : Bool → Hp → Prop} {QA : List V → Hp → Prop} {D : Ends} {i j : Nat} {v x y : V} {ta tb te : TE} {t u : TS} {c : TT} {tl tr : TA} {r : R2} {b : Bool} {K : PySem.W.Frag}
theorem g_seq (q : t { D with nx := u D } σ H) : tSeq t u D σ H := q
theorem g_asg (q : te σ H fun x H1 => D.nx (σ.set i (some x)) H1) : tAsg te (gName i) D σ H := q
theorem g_asg2 {g : TG} (q : te σ H fun x H1 => g x σ H1 D.nx) : tAsg te g D σ H := q
theorem g_ret (q : te σ H D.rt) : tRet te D σ H := q
theorem g_drop (q : te σ H fun _ H1 => D.nx σ H1) : tDrop te D σ H := q
theorem g_next (q : D.nx σ H) : tNext D σ H := q
theorem g_ifs (q : c σ H fun b H1 => if b = true then t D σ H1 else u D σ H1) : tIfS c t u D σ H := q
theorem g_par (q : tl σ H fun vs H1 => ∃ v w, vs = [v, w] ∧ D.nx ((σ.set i (some v)).set j (some w)) H1) : tPar i j tl D σ H := q
theorem g_var (h : σ[i]? = some (some v)) (q : Q v H) : tVar i σ H Q := ⟨v, h, q⟩
theorem g_c (q : Q v H) : tC v σ H Q := q
theorem g_op (q : ta σ H fun x H1 => tb σ H1 fun y H2 => r x y H2 Q) : tOp r ta tb σ H Q := q
theorem g_un {r : V → Hp → VK → Prop} (q : ta σ H fun x H1 => r x H1 Q) : tUn r ta σ H Q := q
theorem g_cons (q : ta σ H fun x H1 => tr σ H1 fun xs H2 => QA (x :: xs) H2) : tCons ta tr σ H QA := q
theorem g_nil (q : QA [] H) : tNil σ H QA := q
theorem g_cb {r : List V → Hp → VK → Prop} (q : tl σ H fun vs H1 => r vs H1 Q) : tCB r tl σ H Q := q
theorem g_call {sp : Sp} {dvs : List V} {E : XK} (q : tl σ H fun vs H1 => sp (vs ++ dvs) H1 Q E) : tCall sp dvs E tl σ H Q := q
theorem g_test (q : te σ H fun x H1 => ∃ k, x = .bl k ∧ QB k H1) : tTest te σ H QB := q
theorem g_b (q : te σ H fun x H1 => ∃ k, x = .bl k ∧ QB k H1) : tB te σ H QB := q
theorem g_not {c : TT} (q : c σ H fun b H1 => QB (!b) H1) : tNot c σ H QB := q
theorem g_and {c d : TT} (q : c σ H fun b H1 => if b = true then d σ H1 QB else QB false H1) : tAnd c d σ H QB := q
theorem g_or {c d : TT} (q : c σ H fun b H1 => if b = true then QB true H1 else d σ H1 QB) : tOr c d σ H QB := q
theorem g_ifx (q : c σ H fun b H1 => if b = true then ta σ H1 Q else tb σ H1 Q) : tIf c ta tb σ H Q := q
theorem g_isN (q : ta σ H fun x H1 => Q (.bl (decide (x = .non))) H1) : tIsN ta σ H Q := q
theorem g_notN (q : ta σ H fun x H1 => Q (.bl (!decide (x = .non))) H1) : tNotN ta σ H Q := q
theorem g_andV (q : ta σ H fun x H1 => ∃ c, x = .bl c ∧ if c = true then tb σ H1 Q else Q (.bl false) H1) : tAndV ta tb σ H Q := q
theorem g_bm {T : String} {r : V → List V → Hp → VK → Prop} (q : ta σ H fun x H1 => tyV K T x H1 ∧ tl σ H1 fun xs H2 => r x xs H2 Q) : tBM K T r ta tl σ H Q := q
theorem g_bm0 {T : String} {r : V → List V → Hp → VK → Prop} (q : ta σ H fun x H1 => tyV K T x H1 ∧ r x [] H1 Q) : tBM0 K T r ta σ H Q := q
theorem g_sl {r : V → Option Int → Option Int → Hp → VK → Prop} {l h : TO} (q : te σ H fun x H1 => l σ H1 fun lo H2 => h σ H2 fun hi H3 => r x lo hi H3 Q) : tSl r te l h σ H Q := q
theorem g_part {QO : Option Int → Hp → Prop} (q : te σ H fun x H1 => ∃ i, x = .int i ∧ QO (some i) H1) : tPart te σ H QO := q
theorem g_nopart {QO : Option Int → Hp → Prop} (q : QO none H) : tNoPart σ H QO := q
theorem g_dget (q : ta σ H fun x H1 => tb σ H1 fun y H2 => ∃ a v, x = .ref a ∧ DGet H2 a y (some v) ∧ Q v H2) : tDGet ta tb σ H Q := q
theorem g_dput (q : te σ H fun v H1 => ta σ H1 fun x H2 => tb σ H2 fun y H3 => ∃ a H4, x = .ref a ∧ DPut H3 a y v H4 ∧ D.nx σ H4) : sDPut ta tb te D σ H := q
theorem g_tup (q : tl σ H fun xs H1 => xs.length ≤ sizeLine ∧ ∀ p, H1 p = none → Q (.ref p) (upd H1 p (.tup xs))) : tTup tl σ H Q := q
theorem g_lst (q : tl σ H fun xs H1 => xs.length ≤ sizeLine ∧ ∀ p, H1 p = none → Q (.ref p) (upd H1 p (.lst xs))) : tLst tl σ H Q := q
theorem g_yes (q : QB true H) : tYes σ H QB := q
theorem g_name {QS : L2.St → Hp → Prop} (q : QS (σ.set i (some v)) H) : gName i v σ H QS := q
theorem g_iList {R : It → Hp → Prop} (q : te σ H fun x H1 => ∃ a, x = .ref a ∧ (∃ xs, SqL K H1 a xs) ∧ R (Itl K a) H1) : iList K te σ H R := q
theorem g_iTup {R : It → Hp → Prop} (q : te σ H fun x H1 => ∃ a, x = .ref a ∧ (∃ xs, SqT K H1 a xs) ∧ R (Itt K a) H1) : iTup K te σ H R := q

/-! leaves -/
theorem l_bl {P : Bool → Prop} (q : P b) : ∃ k, V.bl b = V.bl k ∧ P k := ⟨b, rfl, q⟩
theorem l_int {n : Int} {P : Int → Prop} (q : P n) : ∃ k, V.int n = V.int k ∧ P k := ⟨n, rfl, q⟩
theorem l_two {P : V → V → Prop} (q : P x y) : ∃ v w, [x, y] = [v, w] ∧ P v w := ⟨x, y, rfl, q⟩
theorem l_I0 {g : Int → Int → V} {m n : Int} (q : Q (g m n) H) : rI0 g (.int m) (.int n) H Q := ⟨m, n, rfl, rfl, q⟩
theorem l_I {g : Int → Int → V} {C : Int → Int → Prop} {m n : Int} (h : C m n) (q : Q (g m n) H) : rI C g (.int m) (.int n) H Q := ⟨m, n, rfl, rfl, h, q⟩
theorem l_U {g : Int → V} {m : Int} (q : Q (g m) H) : rU g (.int m) H Q := ⟨m, rfl, q⟩
theorem l_eq (h : scal x y = true) (q : Q (.bl (decide (x = y))) H) : rEq x y H Q := ⟨h, q⟩
theorem l_ne (h : scal x y = true) (q : Q (.bl (!decide (x = y))) H) : rNe x y H Q := ⟨h, q⟩
theorem l_ixL {a : Addr} {xs : List V} {n : Int} (h : SqL K H a xs) (ha : atI xs n = some v) (q : Q v H) : rIxL K (.ref a) (.int n) H Q := ⟨a, xs, n, v, rfl, rfl, h, ha, q⟩
theorem l_ixT {a : Addr} {xs : List V} {n : Int} (h : SqT K H a xs) (ha : atI xs n = some v) (q : Q v H) : rIxT K (.ref a) (.int n) H Q := ⟨a, xs, n, v, rfl, rfl, h, ha, q⟩
theorem l_tyL {a : Addr} {xs : List V} {P : Prop} (h : SqL K H a xs) (q : P) : tyV K "list" (.ref a) H ∧ P := ⟨.inl ⟨rfl, _, h⟩, q⟩
theorem l_app {a : Addr} {xs : List V} (h : H a = some (.lst xs)) (hl : xs.length < sizeLine) (q : Q .non (upd H a (.lst (xs ++ [x])))) : rAppend (.ref a) [x] H Q := ⟨a, xs, x, rfl, rfl, h, hl, q⟩
theorem l_pop {a : Addr} {xs : List V} (h : H a = some (.lst (xs ++ [x]))) (q : Q x (upd H a (.lst xs))) : rPop (.ref a) [] H Q := by
  refine ⟨a, xs ++ [x], x, rfl, rfl, h, by simp, ?_⟩
  rw [List.dropLast_concat]
  exact q
theorem l_ext {a b : Addr} {xs ys : List V} (h : H a = some (.lst xs)) (h2 : H b = some (.lst ys)) (hl : xs.length + ys.length ≤ sizeLine) (q : Q .non (upd H a (.lst (xs ++ ys)))) : rExtend (.ref a) [.ref b] H Q := ⟨a, b, xs, ys, rfl, rfl, h, h2, hl, q⟩
theorem sq_l {a : Addr} {xs : List V} (h : H a = some (.lst xs)) : SqL K H a xs := .inl (.inl h)
theorem sq_t {a : Addr} {xs : List V} (h : H a = some (.tup xs)) : SqT K H a xs := .inl (.inl h)
theorem iteB {p : Prop} [Decidable p] {A B : Prop} (h1 : p → A) (h2 : ¬ p → B) : if decide p = true then A else B := by
  by_cases h : p
  · rw [if_pos (decide_eq_true h)]; exact h1 h
  · rw [if_neg (by rw [decide_eq_false h]; exact Bool.false_ne_true)]; exact h2 h
theorem iteNB {p : Prop} [Decidable p] {A B : Prop} (h1 : ¬ p → A) (h2 : p → B) : if (!decide p) = true then A else B := by
  by_cases h : p
  · rw [decide_eq_true h]; exact iteF (h2 h)
  · rw [decide_eq_false h]; exact iteT (h1 h)
theorem iteBo {A B : Prop} (h1 : b = true → A) (h2 : b = false → B) : if b = true then A else B := by
  cases b with
  | true => exact iteT (h1 rfl)
  | false => exact iteF (h2 rfl)
end
theorem sz {n : Nat} (h : n ≤ 1000000) : n ≤ sizeLine := by rw [sizeLine_eq]; omega
theorem sz1 {n : Nat} (h : n < 1000000) : n < sizeLine := by rw [sizeLine_eq]; omega

/-! ## data of numbers alone -/
mutual
def numD : PyData → Bool
  | .none => true
  | .bool _ => true
  | .int _ => true
  | .str x => (PyData.str x).canLay0
  | .list xs => numAll xs
  | .tuple xs => numAll xs
  | .dict _ => false
def numAll : List PyData → Bool
  | [] => true
  | x :: xs => numD x && numAll xs
end
mutual
theorem num_lay : ∀ d : PyData, numD d = true → d.canLay0 = true
  | .none, _ => by simp only [PyData.canLay0]
  | .bool _, _ => by simp only [PyData.canLay0]
  | .int _, _ => by simp only [PyData.canLay0]
  | .str _, h => by simpa only [numD] using h
  | .list xs, h => by simp only [PyData.canLay0]; exact num_layA xs (by simpa only [numD] using h)
  | .tuple xs, h => by simp only [PyData.canLay0]; exact num_layA xs (by simpa only [numD] using h)
  | .dict _, h => by simp only [numD] at h; cases h
theorem num_layA : ∀ ds : List PyData, numAll ds = true → PyData.canLayAll0 ds = true
  | [], _ => by simp only [PyData.canLayAll0]
  | x :: xs, h => by
    have h' : numD x = true ∧ numAll xs = true := by simpa only [numAll, Bool.and_eq_true] using h
    simp only [PyData.canLayAll0, num_lay x h'.1, num_layA xs h'.2, Bool.and_self]
end
theorem num_shaped {d : PyData} (h : numD d = true) (hd : d.depth ≤ 64) : SeqAt.shaped d = true := by
  unfold SeqAt.shaped
  rw [num_lay d h, decide_eq_true hd] <;> rfl
theorem numAll_mem {ds : List PyData} : numAll ds = true ↔ ∀ d ∈ ds, numD d = true := by
  induction ds with
  | nil => simp [numAll]
  | cons x xs ih => simp only [numAll, Bool.and_eq_true, ih, List.mem_cons, forall_eq_or_imp]
theorem depthAll_le {ds : List PyData} {n : Nat} : PyData.depthAll ds ≤ n ↔ ∀ d ∈ ds, d.depth ≤ n := by
  induction ds with
  | nil => simp [PyData.depthAll]
  | cons x xs ih =>
    simp only [PyData.depthAll, List.mem_cons, forall_eq_or_imp, ← ih]
    omega
theorem depth_list (ds : List PyData) : (PyData.list ds).depth = PyData.depthAll ds + 1 := by simp only [PyData.depth]
theorem depth_tuple (ds : List PyData) : (PyData.tuple ds).depth = PyData.depthAll ds + 1 := by simp only [PyData.depth]
theorem eqv_nil (ds : List PyData) : PyData.eqv (.list ds) (.list []) = ds.isEmpty := by
  cases ds with
  | nil => simp only [PyData.eqv, PyData.eqvAll]; rfl
  | cons x xs => simp only [PyData.eqv, PyData.eqvAll]; rfl
section
variable {K : PySem.W.Frag} {H : Hp} {Q : VK}
/-- xs != [] -/
theorem l_neNil {a b : Addr} {xs : List V} {ds : List PyData} (h : SqL K H a xs) (hd : DpAll K H xs ds) (hn : numAll ds = true) (hz : PyData.depthAll ds ≤ 60) (h2 : H b = some (.lst [])) (q : Q (.bl (!xs.isEmpty)) H) :
    rNeD K (.ref a) (.ref b) H Q := by
  refine ⟨.list ds, .list [], .lst h hd, .lst (sq_l h2) .nil, num_shaped (by simp only [numD]; exact hn) (by rw [depth_list]; omega), by decide +kernel, ?_⟩
  rw [eqv_nil]
  have e : ds.isEmpty = xs.isEmpty := by
    have := dps_len hd
    cases xs <;> cases ds <;> simp_all
  rw [e]
  exact q
theorem dps_ints : ∀ ns : List Int, DpAll K H (ns.map V.int) (ns.map PyData.int)
  | [] => .nil
  | n :: r => .cons (.int n) (dps_ints r)
theorem num_ints (ns : List Int) : numAll (ns.map PyData.int) = true := numAll_mem.mpr fun d hd => by
  obtain ⟨n, _, rfl⟩ := List.mem_map.mp hd
  simp only [numD]
theorem depth_ints (ns : List Int) : PyData.depthAll (ns.map PyData.int) = 0 := Nat.le_zero.mp (depthAll_le.mpr fun d hd => by
  obtain ⟨n, _, rfl⟩ := List.mem_map.mp hd
  simp only [PyData.depth]; omega)
theorem l_dget {a : Addr} {kvs : List (L2.Key × V)} {z : Str} {v : V} {P : V → Prop} (h : H a = some (.dK kvs)) (hk : valV kvs (.inr z) = some v) (q : P v) : ∃ a' v', V.ref a = V.ref a' ∧ DGet H a' (.str z) (some v') ∧ P v' := by
  refine ⟨a, v, rfl, ?_, q⟩
  have g := DGet.k (k := Sum.inr z) h
  rw [hk] at g
  exact g
theorem l_dput {a : Addr} {kvs : List (L2.Key × V)} {z : Str} {v : V} {P : Hp → Prop} (h : H a = some (.dK kvs)) (hl : kvs.length < sizeLine) (q : P (upd H a (.dK (putK kvs (.inr z) v)))) : ∃ a' H4, V.ref a = V.ref a' ∧ DPut H a' (.str z) v H4 ∧ P H4 :=
  ⟨a, _, rfl, DPut.k (k := Sum.inr z) h hl, q⟩
end
/-! ## the deck -/
abbrev dkv (gr : Addr) (mx tn : Int) : List (L2.Key × V) := [(.inr ("great" : Str), .ref gr), (.inr ("mixed" : Str), .int mx), (.inr ("turns" : Str), .int tn)]
theorem dk_great {gr : Addr} {mx tn : Int} : valV (dkv gr mx tn) (.inr ("great" : Str)) = some (.ref gr) := by rfl
theorem dk_mixed {gr : Addr} {mx tn : Int} : valV (dkv gr mx tn) (.inr ("mixed" : Str)) = some (.int mx) := by rfl
theorem dk_turns {gr : Addr} {mx tn : Int} : valV (dkv gr mx tn) (.inr ("turns" : Str)) = some (.int tn) := by rfl
theorem dk_pmixed {gr : Addr} {mx tn z : Int} : putK (dkv gr mx tn) (.inr ("mixed" : Str)) (.int z) = dkv gr z tn := by rfl
theorem dk_pturns {gr : Addr} {mx tn z : Int} : putK (dkv gr mx tn) (.inr ("turns" : Str)) (.int z) = dkv gr mx z := by rfl
structure DeckAt (H : Hp) (dk gr : Addr) (gs : List Int) (mx tn : Int) : Prop where
  d : H dk = some (.dK (dkv gr mx tn))
  g : H gr = some (.lst (gs.map V.int))
  few : gs.length ≤ 63
  mx0 : 0 ≤ mx
  mx1 : mx < 4294967291
def Deck (H : Hp) (dk gr : Addr) : Prop := ∃ gs mx tn, DeckAt H dk gr gs mx tn
end SC
namespace SC
open PySem PySem.Spec PyProof.Rows L2 StrLaws

theorem hid_none {D : List Addr} {H : Hp} {a : Addr} (h : H a = none) : hid D H a = none := by
  by_cases ha : a ∈ D
  · exact hid_in ha
  · rw [hid_out ha]; exact h
/-- a new object of ours is written -/
theorem hid_mut {D : List Addr} {H H' : Hp} {p : Addr} {o : HO} (s : Same (hid D H) (hid D H')) (h : hid D H p = none) : Same (hid D H) (hid D (upd H' p o)) := fun b x e => by
  have z := s b x e
  by_cases hb : b ∈ D
  · rw [hid_in hb] at e; cases e
  · rw [hid_out hb] at z ⊢
    rw [upd_ne (ne_of_none e h)]
    exact z
theorem hid_get {D : List Addr} {H : Hp} {a : Addr} {o : HO} (h : hid D H a = some o) : a ∉ D ∧ H a = some o := by
  by_cases ha : a ∈ D
  · rw [hid_in ha] at h; cases h
  · rw [hid_out ha] at h; exact ⟨ha, h⟩
theorem hid_put {D : List Addr} {H : Hp} {a : Addr} {o : HO} (ha : a ∉ D) (h : H a = some o) : hid D H a = some o := by rw [hid_out ha]; exact h
/-- a datum of numbers, not too deep -/
def Nm (K : PySem.W.Frag) (H : Hp) (x : V) : Prop := ∃ d, Dp K H x d ∧ numD d = true ∧ d.depth ≤ 40
theorem Nm.same {K : PySem.W.Frag} {H H' : Hp} {x : V} (s : Same H H') (h : Nm K H x) : Nm K H' x := by
  obtain ⟨d, h1, h2⟩ := h
  exact ⟨d, dp_same s h1, h2⟩
theorem nms {K : PySem.W.Frag} {H : Hp} : ∀ {xs : List V}, (∀ x ∈ xs, Nm K H x) → ∃ ds, DpAll K H xs ds ∧ numAll ds = true ∧ PyData.depthAll ds ≤ 40
  | [], _ => ⟨[], .nil, rfl, by simp [PyData.depthAll]⟩
  | x :: xs, h => by
    obtain ⟨d, h1, h2, h3⟩ := h x (List.mem_cons_self ..)
    obtain ⟨ds, k1, k2, k3⟩ := nms fun y hy => h y (List.mem_cons_of_mem _ hy)
    refine ⟨d :: ds, .cons h1 k1, by simp only [numAll, h2, k2, Bool.and_self], ?_⟩
    simp only [PyData.depthAll]
    omega
theorem nm_int {K : PySem.W.Frag} {H : Hp} (i : Int) : Nm K H (.int i) := ⟨.int i, .int i, by simp only [numD], by simp only [PyData.depth]; omega⟩
theorem nm_non {K : PySem.W.Frag} {H : Hp} : Nm K H .non := ⟨.none, .non, by simp only [numD], by simp only [PyData.depth]; omega⟩
section
variable {K : PySem.W.Frag} {H : Hp} {Q : VK}
/-- xs != [], xs a list of numbers' data -/
theorem l_neN {a b : Addr} {xs : List V} (h : SqL K H a xs) (hd : ∀ x ∈ xs, Nm K H x) (h2 : H b = some (.lst [])) (q : Q (.bl (!xs.isEmpty)) H) : rNeD K (.ref a) (.ref b) H Q := by
  obtain ⟨ds, k1, k2, k3⟩ := nms hd
  exact l_neNil h k1 k2 (by omega) h2 q
theorem l_popAt {a : Addr} {xs : List V} {i : Int} {k : Nat} {y : V} (h : H a = some (.lst xs)) (e : i = (k : Int)) (hk : xs[k]? = some y) (hz : xs.length ≤ 1000000) (q : Q y (upd H a (.lst (xs.eraseIdx k)))) : rPopAt (.ref a) [.int i] H Q := by
  have hl : k < xs.length := (List.getElem?_eq_some_iff.mp hk).1
  refine ⟨a, xs, i, k, y, rfl, rfl, h, by omega, by omega, ?_, hk, q⟩
  have g : ixN xs.length i = some k := by
    rw [e]
    unfold ixN
    rw [if_pos (by omega), if_pos (by omega)]
    simp
  exact (ixN_seq g).1
theorem len_seq {K : PySem.W.Frag} {a : Addr} {xs : List V} {P : Int → Prop} (h : SqL K H a xs) (q : P (xs.length : Nat)) : ∃ p ys, [V.ref a] = [.ref p] ∧ (SqL K H p ys ∨ SqT K H p ys) ∧ P (ys.length : Nat) := ⟨a, xs, rfl, .inl h, q⟩
end
theorem same_seq {K : PySem.W.Frag} {H H' : Hp} {a : Addr} {xs : List V} (s : Same H H') (h : SqL K H a xs) : SqL K H' a xs := s.seq h
theorem g_for {wi : TI} {g : TG} {tb : TS} {D : Ends} {σ : L2.St} {H : Hp} (q : wi σ H fun J H1 => ∃ W : Nat → Nat → L2.St → Hp → Prop, (∃ m, W 0 m σ H1) ∧ ∀ i m σ H, W i m σ H →
    (J.stop i H ∧ D.nx σ H) ∨ (J.go i H ∧ ∃ N : L2.St → Hp → Prop, (∀ σ' H', N σ' H' → ∃ m', m' < m ∧ W (i + 1) m' σ' H') ∧
      ∀ x H', J.yld i H x H' → g x σ H' fun σ2 H2 => tb { D with nx := N, ct := N, bk := D.nx } σ2 H2)) : tFor wi g tb D σ H := q
theorem g_lc {wi : TI} {g : TG} {tt : TT} {te : TE} {vs : List Nat} {σ : L2.St} {H : Hp} {Q : VK} (q : wi σ H fun J H1 => ∀ D, H1 D = none → ∃ W : Nat → Nat → Hp → Prop, (∃ m, W 0 m (upd H1 D (.lst []))) ∧ ∀ i m H, W i m H →
    (J.stop i H ∧ Q (.ref D) H) ∨ (J.go i H ∧ ∃ Nx : Hp → Prop, (∀ H', Nx H' → ∃ m', m' < m ∧ W (i + 1) m' H') ∧
      ∀ x H', J.yld i H x H' → g x (wipe σ vs) H' fun σ2 H2 => wipe σ2 vs = wipe σ vs ∧ tt σ2 H2 fun b H3 =>
        if b = true then te σ2 H3 fun y H4 => ∃ acc, H4 D = some (.lst acc) ∧ acc.length < sizeLine ∧ Nx (upd H4 D (.lst (acc ++ [y]))) else Nx H3)) : tLc wi g tt te vs σ H Q := q
theorem g_rng1 {tl : TA} {σ : L2.St} {H : Hp} {R : It → Hp → Prop} (q : tl σ H fun vs H1 => ∃ j : Int, vs = [.int j] ∧ -(2 ^ 62) ≤ j ∧ j < 2 ^ 62 ∧ R (Itr 0 j.toNat) H1) : iRng1 tl σ H R := q
/-! loops, what follows told apart -/
section
variable {K : PySem.W.Frag} {a b : Addr} {xs ys : List V} {g : TG} {tb : TS} {nx : L2.St → Hp → Prop} {rt : VK} {σ : L2.St} {H : Hp}
abbrev ForGoal (J : It) (g : TG) (tb : TS) (nx : L2.St → Hp → Prop) (rt : VK) (σ : L2.St) (H : Hp) : Prop :=
  ∃ W : Nat → Nat → L2.St → Hp → Prop, (∃ m, W 0 m σ H) ∧ ∀ i m σ H, W i m σ H →
    (J.stop i H ∧ nx σ H) ∨ (J.go i H ∧ ∃ N : L2.St → Hp → Prop, (∀ σ' H', N σ' H' → ∃ m', m' < m ∧ W (i + 1) m' σ' H') ∧
      ∀ x H', J.yld i H x H' → g x σ H' fun σ2 H2 => tb { nx := N, rt := rt, bk := nx, ct := N } σ2 H2)
theorem for_L (Pv : Nat → L2.St → Hp → Prop) (h0 : Pv 0 σ H) (hl : ∀ i σ H, i ≤ xs.length → Pv i σ H → SqL K H a xs)
    (hs : ∀ i x σ H, xs[i]? = some x → Pv i σ H → g x σ H fun σ2 H2 => tb { nx := Pv (i + 1), rt := rt, bk := nx, ct := Pv (i + 1) } σ2 H2)
    (hd : ∀ σ H, Pv xs.length σ H → nx σ H) : ForGoal (Itl K a) g tb nx rt σ H := for_list (D := ⟨nx, rt, nx, nx⟩) Pv h0 hl hs hd
theorem for_T (Pv : Nat → L2.St → Hp → Prop) (h0 : Pv 0 σ H) (hl : ∀ i σ H, i ≤ xs.length → Pv i σ H → SqT K H a xs)
    (hs : ∀ i x σ H, xs[i]? = some x → Pv i σ H → g x σ H fun σ2 H2 => tb { nx := Pv (i + 1), rt := rt, bk := nx, ct := Pv (i + 1) } σ2 H2)
    (hd : ∀ σ H, Pv xs.length σ H → nx σ H) : ForGoal (Itt K a) g tb nx rt σ H := for_tup (D := ⟨nx, rt, nx, nx⟩) Pv h0 hl hs hd
theorem for_R {lo : Int} {n : Nat} (Pv : Nat → L2.St → Hp → Prop) (h0 : Pv 0 σ H)
    (hs : ∀ i σ H, i < n → Pv i σ H → g (.int (lo + i)) σ H fun σ2 H2 => tb { nx := Pv (i + 1), rt := rt, bk := nx, ct := Pv (i + 1) } σ2 H2)
    (hd : ∀ σ H, Pv n σ H → nx σ H) : ForGoal (Itr lo n) g tb nx rt σ H := for_range (D := ⟨nx, rt, nx, nx⟩) Pv h0 hs hd
theorem for_W {J : It} {n : Nat} {G : Hp → Prop} {Y : Nat → Hp → V → Hp → Prop} (w : Walk J n G Y) (Pv : Nat → L2.St → Hp → Prop) (h0 : Pv 0 σ H) (hG : ∀ i σ H, i ≤ n → Pv i σ H → G H)
    (hs : ∀ i x σ H H', i < n → Pv i σ H → Y i H x H' → g x σ H' fun σ2 H2 => tb { nx := Pv (i + 1), rt := rt, bk := nx, ct := Pv (i + 1) } σ2 H2)
    (hd : ∀ σ H, Pv n σ H → nx σ H) : ForGoal J g tb nx rt σ H := for_it w (D := ⟨nx, rt, nx, nx⟩) Pv h0 hG hs hd
theorem walk_enumT : Walk (Itet K a) xs.length (fun H => SqT K H a xs) (YPair (fun i => some (.int (i : Nat))) (fun i => xs[i]?)) :=
  ⟨fun i _ hi q => ⟨xs, xs[i], q, by simp [hi]⟩, fun _ q => ⟨xs, q, rfl⟩, fun i H v H' _ q y => by
    obtain ⟨T, x, h1, h2, h3, h4⟩ := y
    exact ⟨T, .int (i : Nat), x, h1, h2, h3, rfl, h4 xs q⟩⟩
end
theorem g_cut {t u : TS} {D : Ends} {σ : L2.St} {H : Hp} (Mid : L2.St → Hp → Prop) (h1 : t { D with nx := Mid } σ H) (h2 : ∀ σ' H', Mid σ' H' → u D σ' H') : Evl.tCut t u D σ H := ⟨Mid, h1, h2⟩
theorem g_while {c : TT} {tb : TS} {D : Ends} {σ : L2.St} {H : Hp} (W : Nat → L2.St → Hp → Prop) (m0 : Nat) (h0 : W m0 σ H)
    (hs : ∀ m σ H, W m σ H → c σ H fun b H1 => if b = true then ∃ N : L2.St → Hp → Prop, (∀ σ' H', N σ' H' → ∃ m', m' < m ∧ W m' σ' H') ∧ tb { D with nx := N, ct := N, bk := D.nx } σ H1 else D.nx σ H1) :
    tWhile c tb D σ H := ⟨W, ⟨m0, h0⟩, hs⟩
theorem g_pc {σ : L2.St} {H : Hp} {ta tb : TE} {r : List (TE × TE)} {Q : List (V × V) → Hp → Prop} (q : ta σ H fun k H1 => tb σ H1 fun v H2 => tPairs r σ H2 fun ps H3 => Q ((k, v) :: ps) H3) : tPairs ((ta, tb) :: r) σ H Q := q
theorem g_pn {σ : L2.St} {H : Hp} {Q : List (V × V) → Hp → Prop} (q : Q [] H) : tPairs [] σ H Q := q
theorem abs_ite (i : Int) : (if i < 0 then -i else i) = (i.natAbs : Int) := by split <;> omega
theorem perm_erase {α : Type} : ∀ {xs : List α} {k : Nat} {y : α}, xs[k]? = some y → (y :: xs.eraseIdx k).Perm xs
  | [], _, _, h => by simp at h
  | x :: xs, 0, y, h => by simp at h; subst h; exact List.Perm.refl _
  | x :: xs, k + 1, y, h => by
    have g := perm_erase (xs := xs) (k := k) (by simpa using h)
    exact (List.Perm.swap x y _).trans (g.cons x)
theorem erase_len {α : Type} {xs : List α} {k : Nat} (h : k < xs.length) : (xs.eraseIdx k).length + 1 = xs.length := by
  rw [List.length_eraseIdx, if_pos h]; omega
end SC
namespace SC
open PySem PySem.Spec PyProof.Rows L2 StrLaws

/-! ## things: inputs, stages -/
inductive Th where
  | inp (i : Int)
  | st (n c : Int) (ps : List (Int × Th))
mutual
theorem Th.ind {P : Th → Prop} (h1 : ∀ i, P (.inp i)) (h2 : ∀ n c ps, (∀ p ∈ ps, P p.2) → P (.st n c ps)) : ∀ t, P t
  | .inp i => h1 i
  | .st n c ps => h2 n c ps (Th.indL h1 h2 ps)
theorem Th.indL {P : Th → Prop} (h1 : ∀ i, P (.inp i)) (h2 : ∀ n c ps, (∀ p ∈ ps, P p.2) → P (.st n c ps)) : ∀ ps : List (Int × Th), ∀ p ∈ ps, P p.2
  | [], _, h => by cases h
  | (w, t) :: r, p, h => by
    rcases List.mem_cons.mp h with e | e
    · rw [e]; exact Th.ind h1 h2 t
    · exact Th.indL h1 h2 r p e
end
mutual
/-- how many inputs -/
def Th.nIn : Th → Nat
  | .inp _ => 1
  | .st _ _ ps => nInL ps
def nInL : List (Int × Th) → Nat
  | [] => 0
  | (_, t) :: r => t.nIn + nInL r
end
mutual
/-- how many stages -/
def Th.nSt : Th → Nat
  | .inp _ => 0
  | .st _ _ ps => nStL ps + 1
def nStL : List (Int × Th) → Nat
  | [] => 0
  | (_, t) :: r => t.nSt + nStL r
end
mutual
/-- how deep -/
def Th.dep : Th → Nat
  | .inp _ => 0
  | .st _ _ ps => depL ps + 1
def depL : List (Int × Th) → Nat
  | [] => 0
  | (_, t) :: r => max t.dep (depL r)
end
mutual
/-- no stage without parts -/
def Th.full : Th → Bool
  | .inp _ => true
  | .st _ _ ps => !ps.isEmpty && fullL ps
def fullL : List (Int × Th) → Bool
  | [] => true
  | (_, t) :: r => t.full && fullL r
end
mutual
/-- the shape as a datum -/
def Th.shD : Th → PyData
  | .inp _ => .none
  | .st _ _ ps => .list (shDL ps)
def shDL : List (Int × Th) → List PyData
  | [] => []
  | (_, t) :: r => t.shD :: shDL r
end
mutual
/-- the thing as a datum -/
def Th.toD : Th → PyData
  | .inp i => .int i
  | .st n c ps => .tuple [.int n, .int c, .tuple (toDL ps)]
def toDL : List (Int × Th) → List PyData
  | [] => []
  | (w, t) :: r => .tuple [.int w, t.toD] :: toDL r
end
theorem nInL_eq : ∀ ps : List (Int × Th), nInL ps = (ps.map fun p => p.2.nIn).sum
  | [] => by simp only [nInL, List.map_nil, List.sum_nil]
  | (w, t) :: r => by simp only [nInL, List.map_cons, List.sum_cons, nInL_eq r]
theorem nStL_eq : ∀ ps : List (Int × Th), nStL ps = (ps.map fun p => p.2.nSt).sum
  | [] => by simp only [nStL, List.map_nil, List.sum_nil]
  | (w, t) :: r => by simp only [nStL, List.map_cons, List.sum_cons, nStL_eq r]
theorem shDL_eq : ∀ ps : List (Int × Th), shDL ps = ps.map fun p => p.2.shD
  | [] => by simp only [shDL, List.map_nil]
  | (w, t) :: r => by simp only [shDL, List.map_cons, shDL_eq r]
theorem toDL_eq : ∀ ps : List (Int × Th), toDL ps = ps.map fun p => .tuple [.int p.1, p.2.toD]
  | [] => by simp only [toDL, List.map_nil]
  | (w, t) :: r => by simp only [toDL, List.map_cons, toDL_eq r]
theorem depL_le {n : Nat} : ∀ {ps : List (Int × Th)}, depL ps ≤ n ↔ ∀ p ∈ ps, p.2.dep ≤ n
  | [] => by simp [depL]
  | (w, t) :: r => by
    simp only [depL, List.mem_cons, forall_eq_or_imp, ← depL_le (ps := r)]
    omega
theorem fullL_iff : ∀ {ps : List (Int × Th)}, fullL ps = true ↔ ∀ p ∈ ps, p.2.full = true
  | [] => by simp [fullL]
  | (w, t) :: r => by simp only [fullL, Bool.and_eq_true, List.mem_cons, forall_eq_or_imp, fullL_iff (ps := r)]
theorem sh_num : ∀ t : Th, numD t.shD = true := Th.ind (fun i => by simp only [Th.shD, numD]) fun n c ps ih => by
  simp only [Th.shD, numD, shDL_eq]
  exact numAll_mem.mpr fun d hd => by
    obtain ⟨p, hp, rfl⟩ := List.mem_map.mp hd
    exact ih p hp
theorem sh_depth : ∀ t : Th, t.shD.depth ≤ t.dep := Th.ind (fun i => by simp only [Th.shD, PyData.depth]; omega) fun n c ps ih => by
  simp only [Th.shD, Th.dep, depth_list, shDL_eq]
  have h : PyData.depthAll (ps.map fun p => p.2.shD) ≤ depL ps := depthAll_le.mpr fun d hd => by
    obtain ⟨p, hp, rfl⟩ := List.mem_map.mp hd
    exact Nat.le_trans (ih p hp) (depL_le.mp (Nat.le_refl _) p hp)
  omega
theorem nIn_pos : ∀ t : Th, t.full = true → 1 ≤ t.nIn := Th.ind (fun i _ => by simp only [Th.nIn]; omega) fun n c ps ih h => by
  simp only [Th.full, Bool.and_eq_true, Bool.not_eq_true'] at h
  simp only [Th.nIn]
  cases ps with
  | nil => simp at h
  | cons p r =>
    have := ih p (List.mem_cons_self ..) (fullL_iff.mp h.2 p (List.mem_cons_self ..))
    simp only [nInL]
    omega
theorem len_le_nIn : ∀ {ps : List (Int × Th)}, fullL ps = true → ps.length ≤ nInL ps
  | [], _ => Nat.zero_le _
  | (w, t) :: r, h => by
    simp only [fullL, Bool.and_eq_true] at h
    have h1 := nIn_pos t h.1
    have h2 := len_le_nIn (ps := r) h.2
    simp only [nInL, List.length_cons]
    omega

/-! a stage of things at values -/
abbrev stOf (L : List (V × Th)) : Th := .st 0 0 (L.map fun p => ((0 : Int), p.2))
def stS (L : List (V × Th)) : Nat := (L.map fun p => p.2.nSt).sum
def inS (L : List (V × Th)) : Nat := (L.map fun p => p.2.nIn).sum
theorem stS_app (L M : List (V × Th)) : stS (L ++ M) = stS L + stS M := by unfold stS; rw [List.map_append, List.sum_append]
theorem inS_app (L M : List (V × Th)) : inS (L ++ M) = inS L + inS M := by unfold inS; rw [List.map_append, List.sum_append]
theorem stS_one (p : V × Th) : stS [p] = p.2.nSt := by unfold stS; simp
theorem inS_one (p : V × Th) : inS [p] = p.2.nIn := by unfold inS; simp
theorem stS_perm {L M : List (V × Th)} (h : L.Perm M) : stS L = stS M := (h.map _).sum_nat
theorem inS_perm {L M : List (V × Th)} (h : L.Perm M) : inS L = inS M := (h.map _).sum_nat
theorem stOf_st (L : List (V × Th)) : (stOf L).nSt = stS L + 1 := by simp only [stOf, Th.nSt, nStL_eq, List.map_map, stS]; rfl
theorem stOf_in (L : List (V × Th)) : (stOf L).nIn = inS L := by simp only [stOf, Th.nIn, nInL_eq, List.map_map, inS]; rfl
theorem stOf_dep {L : List (V × Th)} {n : Nat} (h : ∀ p ∈ L, p.2.dep ≤ n) : (stOf L).dep ≤ n + 1 := by
  simp only [stOf, Th.dep]
  refine Nat.succ_le_succ (depL_le.mpr fun p hp => ?_)
  obtain ⟨q, hq, rfl⟩ := List.mem_map.mp hp
  exact h q hq
theorem stOf_full {L : List (V × Th)} (h0 : L ≠ []) (h : ∀ p ∈ L, p.2.full = true) : (stOf L).full = true := by
  simp only [stOf, Th.full, Bool.and_eq_true, Bool.not_eq_true']
  refine ⟨?_, fullL_iff.mpr fun p hp => ?_⟩
  · cases L with
    | nil => exact absurd rfl h0
    | cons a b => rfl
  · obtain ⟨q, hq, rfl⟩ := List.mem_map.mp hp
    exact h q hq
theorem stOf_sh (L : List (V × Th)) : (stOf L).shD = .list (L.map fun p => p.2.shD) := by
  simp only [stOf, Th.shD, shDL_eq, List.map_map]
  rfl
theorem flat_rep {α : Type} (x : α) : ∀ k : Nat, (List.replicate k [x]).flatten = List.replicate k x
  | 0 => rfl
  | k + 1 => by rw [List.replicate_succ, List.flatten_cons, flat_rep x k, List.replicate_succ]; rfl
theorem stS_rep (k : Nat) : stS (List.replicate k (V.non, Th.inp 0)) = 0 := by
  unfold stS
  induction k with
  | zero => rfl
  | succ k ih => rw [List.replicate_succ, List.map_cons, List.sum_cons, ih]; simp only [Th.nSt]
theorem inS_rep (k : Nat) : inS (List.replicate k (V.non, Th.inp 0)) = k := by
  unfold inS
  induction k with
  | zero => rfl
  | succ k ih => rw [List.replicate_succ, List.map_cons, List.sum_cons, ih]; simp only [Th.nIn]; omega

/-! ## what was made behind a heap -/
def hidP (S : Addr → Bool) (H : Hp) : Hp := fun a => if S a = true then none else H a
/-- the heap's new objects alone -/
abbrev fresh (H H' : Hp) : Hp := hidP (fun a => (H a).isSome) H'
theorem hidP_in {S : Addr → Bool} {H : Hp} {a : Addr} (h : S a = true) : hidP S H a = none := if_pos h
theorem hidP_out {S : Addr → Bool} {H : Hp} {a : Addr} (h : S a = false) : hidP S H a = H a := if_neg (by rw [h]; exact Bool.false_ne_true)
theorem hidP_get {S : Addr → Bool} {H : Hp} {a : Addr} {o : HO} (h : hidP S H a = some o) : S a = false ∧ H a = some o := by
  cases e : S a with
  | true => rw [hidP_in e] at h; cases h
  | false => rw [hidP_out e] at h; exact ⟨rfl, h⟩
theorem hidP_same {S : Addr → Bool} {H : Hp} : Same (hidP S H) H := fun a o e => (hidP_get e).2
/-- what a call with the mutables D leaves, of what is told apart from D -/
theorem hidP_of {D : List Addr} {S : Addr → Bool} {H H' : Hp} (hD : ∀ d ∈ D, S d = true) (s : Same (hid D H) (hid D H')) : Same (hidP S H) (hidP S H') := fun a o e => by
  obtain ⟨h1, h2⟩ := hidP_get e
  have ha : a ∉ D := fun z => by rw [hD a z] at h1; cases h1
  rw [hidP_out h1]
  exact (hid_get (s a o (hid_put ha h2))).2
theorem hidP_more {S S' : Addr → Bool} {H H' : Hp} (s : Same H H') (h : ∀ a, S a = false → S' a = false) : Same (hidP S H) (hidP S' H') := fun a o e => by
  obtain ⟨h1, h2⟩ := hidP_get e
  rw [hidP_out (h a h1)]
  exact s a o h2
theorem hidP_mut {S : Addr → Bool} {H H' : Hp} {p : Addr} {o : HO} (s : Same (hidP S H) (hidP S H')) (h : hidP S H p = none) : Same (hidP S H) (hidP S (upd H' p o)) := fun b x e => by
  have z := s b x e
  obtain ⟨h1, h2⟩ := hidP_get z
  rw [hidP_out h1, upd_ne (ne_of_none e h)]
  exact h2
theorem hidP_hid {D : List Addr} {S : Addr → Bool} {H : Hp} (hD : ∀ d ∈ D, S d = true) : Same (hidP S H) (hid D H) := fun a o e => by
  obtain ⟨h1, h2⟩ := hidP_get e
  exact hid_put (fun z => by rw [hD a z] at h1; cases h1) h2
/-- what was tracked is tracked -/
theorem stay {D : List Addr} {H H' : Hp} (s : Same (hid D H) (hid D H')) (hD : ∀ d ∈ D, (H' d).isSome = true) {a : Addr} (h : (H a).isSome = true) : (H' a).isSome = true := by
  by_cases ha : a ∈ D
  · exact hD a ha
  · obtain ⟨o, e⟩ := Option.isSome_iff_exists.mp h
    rw [(hid_get (s a o (hid_put ha e))).2]
    rfl
theorem deck_some {H : Hp} {dk gr : Addr} (d : Deck H dk gr) : ∀ a ∈ [dk, gr], (H a).isSome = true := by
  obtain ⟨gs, mx, tn, d⟩ := d
  intro a ha
  rcases List.mem_cons.mp ha with e | e
  · rw [e, d.d]; rfl
  · rw [List.mem_singleton.mp e, d.g]; rfl
theorem some_of {H : Hp} {a : Addr} {o : HO} (h : H a = some o) : (H a).isSome = true := by rw [h]; rfl
theorem perm_map {α β : Type} {f : α → β} : ∀ {L : List α} {ys : List β}, ys.Perm (L.map f) → ∃ L' : List α, L'.Perm L ∧ ys = L'.map f
  | [], ys, h => ⟨[], List.Perm.refl _, by simpa using h⟩
  | a :: L, ys, h => by
    have hm : f a ∈ ys := h.mem_iff.mpr (by simp)
    obtain ⟨y1, y2, rfl⟩ := List.append_of_mem hm
    have h2 : (y1 ++ y2).Perm (L.map f) := by
      have := List.perm_middle.symm.trans (h.trans (List.Perm.of_eq (List.map_cons)))
      exact this.cons_inv
    obtain ⟨L2, p2, e2⟩ := perm_map h2
    have e3 : y1 = (L2.take y1.length).map f := by
      have := congrArg (List.take y1.length) e2
      simpa using this
    have e4 : y2 = (L2.drop y1.length).map f := by
      have := congrArg (List.drop y1.length) e2
      simpa using this
    refine ⟨L2.take y1.length ++ a :: L2.drop y1.length, ?_, ?_⟩
    · refine List.perm_middle.trans ((List.Perm.of_eq ?_).trans (p2.cons a))
      rw [List.take_append_drop]
    · rw [List.map_append, List.map_cons, ← e3, ← e4]
end SC
namespace SC
open PySem PySem.Spec PyProof.Rows L2 StrLaws

theorem g_gtup {K : PySem.W.Frag} {n : Nat} {t : TGs} {a : Addr} {xs : List V} {σ : L2.St} {H : Hp} {Q : L2.St → Hp → Prop} (h : SqT K H a xs) (hn : xs.length = n) (q : t xs σ H Q) : gTup K n t (.ref a) σ H Q := ⟨a, xs, rfl, h, hn, q⟩
theorem g_gcons {t : TG} {u : TGs} {v : V} {r : List V} {σ : L2.St} {H : Hp} {Q : L2.St → Hp → Prop} (q : t v σ H fun σ' H' => u r σ' H' Q) : gCons t u (v :: r) σ H Q := ⟨v, r, rfl, q⟩
theorem g_gnil {σ : L2.St} {H : Hp} {Q : L2.St → Hp → Prop} (q : Q σ H) : gNil [] σ H Q := ⟨rfl, q⟩
theorem g_iZip {K : PySem.W.Frag} {ta : TA} {σ : L2.St} {H : Hp} {R : It → Hp → Prop} (q : ta σ H fun vs H1 => ∃ a b xs ys, vs = [.ref a, .ref b] ∧ SqL K H1 a xs ∧ SqL K H1 b ys ∧ R (Itz K a b) H1) : iZip K ta σ H R := q
theorem for_Z {K : PySem.W.Frag} {a b : Addr} {xs ys : List V} {g : TG} {tb : TS} {nx : L2.St → Hp → Prop} {rt : VK} {σ : L2.St} {H : Hp} (hl : xs.length = ys.length) (Pv : Nat → L2.St → Hp → Prop) (h0 : Pv 0 σ H)
    (hq : ∀ i σ H, Pv i σ H → SqL K H a xs ∧ SqL K H b ys)
    (hs : ∀ i x y T σ H, xs[i]? = some x → ys[i]? = some y → Pv i σ H → H T = none → g (.ref T) σ (upd H T (.tup [x, y])) fun σ2 H2 => tb { nx := Pv (i + 1), rt := rt, bk := nx, ct := Pv (i + 1) } σ2 H2)
    (hd : ∀ σ H, Pv xs.length σ H → nx σ H) : ForGoal (Itz K a b) g tb nx rt σ H :=
  for_W (walk_zip (n := xs.length) (xs := xs) (ys := ys) (by omega)) Pv h0 (fun i σ H _ p => hq i σ H p) (fun i x σ H H' hi p y => by
    obtain ⟨T, u, v, rfl, h1, rfl, h3, h4⟩ := y
    exact hs i u v T σ H h3 h4 p h1) hd

/-! ## the greatest common divisor of integers, one behind another -/
def gcdL (ws : List Int) : Nat := ws.foldl (fun g w => Nat.gcd g w.natAbs) 0
theorem gcd_fold (d : Nat) : ∀ (ws : List Int) (g : Nat), d ∣ ws.foldl (fun g w => Nat.gcd g w.natAbs) g ↔ d ∣ g ∧ ∀ w ∈ ws, d ∣ w.natAbs
  | [], g => by simp
  | w :: r, g => by
    rw [List.foldl_cons, gcd_fold d r, Nat.dvd_gcd_iff]
    simp only [List.mem_cons, forall_eq_or_imp]
    exact and_assoc
theorem dvd_gcdL {d : Nat} {ws : List Int} : d ∣ gcdL ws ↔ ∀ w ∈ ws, d ∣ w.natAbs := by
  unfold gcdL
  rw [gcd_fold]
  simp
theorem gcdL_snoc (ws : List Int) (w : Int) : gcdL (ws ++ [w]) = Nat.gcd (gcdL ws) w.natAbs := by
  unfold gcdL
  rw [List.foldl_append]
  rfl
theorem gcdL_take {ws : List Int} {i : Nat} {w : Int} (h : ws[i]? = some w) : gcdL (ws.take (i + 1)) = Nat.gcd (gcdL (ws.take i)) w.natAbs := by
  rw [List.take_succ, h]
  exact gcdL_snoc _ _
theorem gcdL_pos {ws : List Int} (hne : ws ≠ []) (h : ∀ w ∈ ws, w ≠ 0) : 0 < gcdL ws := by
  cases ws with
  | nil => exact absurd rfl hne
  | cons w r =>
    refine Nat.pos_of_ne_zero fun e => ?_
    have := (dvd_gcdL (d := gcdL (w :: r)) (ws := w :: r)).mp (Nat.dvd_refl _) w (List.mem_cons_self ..)
    rw [e] at this
    have := Nat.eq_zero_of_zero_dvd this
    exact h w (List.mem_cons_self ..) (Int.natAbs_eq_zero.mp this)
theorem gcdL_le {ws : List Int} {w : Int} (hm : w ∈ ws) (h : w ≠ 0) : gcdL ws ≤ w.natAbs :=
  Nat.le_of_dvd (by omega) ((dvd_gcdL (ws := ws)).mp (Nat.dvd_refl _) w hm)
/-- the integers by their greatest common divisor -/
theorem gcdL_div {ws : List Int} (hne : ws ≠ []) (h : ∀ w ∈ ws, w ≠ 0) : gcdL (ws.map fun w => w / (gcdL ws : Int)) = 1 ∧ ∀ w ∈ ws, w / (gcdL ws : Int) ≠ 0 ∧ (w / (gcdL ws : Int)).natAbs ≤ w.natAbs := by
  have hp := gcdL_pos hne h
  generalize eg : gcdL ws = g at hp
  have hd : ∀ w ∈ ws, (g : Int) ∣ w := fun w hw => by
    have := (dvd_gcdL (d := g) (ws := ws)).mp (by rw [eg]; exact Nat.dvd_refl _) w hw
    exact Int.ofNat_dvd_left.mpr this
  have he : ∀ w ∈ ws, (w / (g : Int)).natAbs * g = w.natAbs := fun w hw => by
    have := Int.ediv_mul_cancel (hd w hw)
    have h2 := congrArg Int.natAbs this
    rw [Int.natAbs_mul, Int.natAbs_natCast] at h2
    exact h2
  refine ⟨?_, fun w hw => ⟨fun z => ?_, ?_⟩⟩
  · generalize ee : gcdL (ws.map fun w => w / (g : Int)) = e
    have h1 : ∀ w ∈ ws, e * g ∣ w.natAbs := fun w hw => by
      rw [← he w hw]
      refine Nat.mul_dvd_mul_right ?_ g
      exact (dvd_gcdL (d := e)).mp (by rw [ee]; exact Nat.dvd_refl _) _ (List.mem_map.mpr ⟨w, hw, rfl⟩)
    have h2 : e * g ∣ g := by
      have := (dvd_gcdL (d := e * g) (ws := ws)).mpr h1
      rwa [eg] at this
    have h3 := Nat.le_of_dvd hp h2
    have h4 : e ≤ 1 := by
      refine Nat.le_of_not_lt fun z => ?_
      have := Nat.mul_le_mul_right g z
      omega
    have h5 : e ≠ 0 := fun z => by
      rw [z, Nat.zero_mul] at h2
      have := Nat.eq_zero_of_zero_dvd h2
      omega
    omega
  · have := he w hw
    rw [z] at this
    simp at this
    exact h w hw (Int.natAbs_eq_zero.mp this.symm)
  · have := he w hw
    rw [← this]
    exact Nat.le_mul_of_pos_right _ hp
/-- weights of a stage -/
structure WsOk (ws : List Int) : Prop where
  nz : ∀ w ∈ ws, w ≠ 0 ∧ w.natAbs ≤ 10 ^ 30
  one : gcdL ws = 1
theorem big30 : (10 : Int) ^ 30 = 1000000000000000000000000000000 := by decide
end SC
namespace SC
open PySem PySem.Spec PyProof.Rows L2 StrLaws
section
variable {K : PySem.W.Frag}
theorem dp_lst {H : Hp} {a : Addr} {ds : List PyData} (h : Dp K H (.ref a) (.list ds)) : ∃ xs, SqL K H a xs ∧ DpAll K H xs ds := by
  cases h with
  | lst h1 h2 => exact ⟨_, h1, h2⟩
theorem dp_tup {H : Hp} {a : Addr} {ds : List PyData} (h : Dp K H (.ref a) (.tuple ds)) : ∃ xs, SqT K H a xs ∧ DpAll K H xs ds := by
  cases h with
  | tup h1 h2 => exact ⟨_, h1, h2⟩
theorem dp_non {H : Hp} {v : V} (h : Dp K H v .none) : v = .non := by
  cases h with
  | non => rfl
theorem dp_int {H : Hp} {v : V} {i : Int} (h : Dp K H v (.int i)) : v = .int i := by
  cases h with
  | int => rfl
theorem dp_list {H : Hp} {v : V} {ds : List PyData} (h : Dp K H v (.list ds)) : ∃ a, v = .ref a := by
  cases h with
  | lst h1 h2 => exact ⟨_, rfl⟩
theorem dp_tuple {H : Hp} {v : V} {ds : List PyData} (h : Dp K H v (.tuple ds)) : ∃ a, v = .ref a := by
  cases h with
  | tup h1 h2 => exact ⟨_, rfl⟩
theorem mem_le_sum : ∀ {l : List Nat} {x : Nat}, x ∈ l → x ≤ l.sum
  | [], _, h => by cases h
  | y :: r, x, h => by
    rw [List.sum_cons]
    rcases List.mem_cons.mp h with e | e
    · omega
    · have := mem_le_sum e; omega
theorem nIn_le {ps : List (Int × Th)} {p : Int × Th} (h : p ∈ ps) : p.2.nIn ≤ nInL ps := by
  rw [nInL_eq]
  exact mem_le_sum (List.mem_map.mpr ⟨p, h, rfl⟩)
theorem nSt_le {ps : List (Int × Th)} {p : Int × Th} (h : p ∈ ps) : p.2.nSt ≤ nStL ps := by
  rw [nStL_eq]
  exact mem_le_sum (List.mem_map.mpr ⟨p, h, rfl⟩)
theorem sh_at {H : Hp} {ps : List (Int × Th)} {xs : List V} {i : Nat} {x : V} (h : DpAll K H xs (shDL ps)) (hx : xs[i]? = some x) : ∃ p, ps[i]? = some p ∧ Dp K H x p.2.shD := by
  obtain ⟨d, h1, h2⟩ := dps_get h hx
  rw [shDL_eq, List.getElem?_map] at h1
  cases e : ps[i]? with
  | none => rw [e] at h1; cases h1
  | some p =>
    rw [e] at h1
    have e2 : p.2.shD = d := Option.some.inj h1
    exact ⟨p, rfl, e2 ▸ h2⟩
theorem take_map {α β : Type} {f : α → β} {l : List α} {i : Nat} {x : α} (h : l[i]? = some x) : (l.take i).map f ++ [f x] = (l.take (i + 1)).map f := by
  rw [List.take_succ, h, List.map_append]
  rfl
end

/-! ## what stands in tuples stays, whatever lists and dicts become -/
def isT : HO → Bool
  | .tup _ => true
  | .frz _ _ => true
  | _ => false
def TSame (H H' : Hp) : Prop := ∀ a o, H a = some o → isT o = true → H' a = some o
theorem TSame.refl (H : Hp) : TSame H H := fun _ _ e _ => e
theorem TSame.trans {H1 H2 H3 : Hp} (h : TSame H1 H2) (g : TSame H2 H3) : TSame H1 H3 := fun a o e z => g a o (h a o e z) z
theorem ts_same {H H' : Hp} (s : Same H H') : TSame H H' := fun a o e _ => s a o e
theorem ts_hid {D : List Addr} {H H' : Hp} (hD : ∀ d ∈ D, ∀ o, H d = some o → isT o = false) (s : Same (hid D H) (hid D H')) : TSame H H' := fun a o e z => by
  by_cases ha : a ∈ D
  · rw [hD a ha o e] at z; cases z
  · exact (hid_get (s a o (hid_put ha e))).2
theorem ts_mut {H : Hp} {a : Addr} {o : HO} (h : ∀ o, H a = some o → isT o = false) : TSame H (upd H a o) := fun b x e z => by
  rw [upd_ne fun q => ?_]
  · exact e
  · subst q
    rw [h x e] at z; cases z
theorem ts_lst {H : Hp} {a : Addr} {xs : List V} {o : HO} (h : H a = some (.lst xs)) : TSame H (upd H a o) := ts_mut fun o e => by
  rw [h] at e; cases e; rfl
theorem deck_nt {H : Hp} {dk gr : Addr} (d : Deck H dk gr) : ∀ a ∈ [dk, gr], ∀ o, H a = some o → isT o = false := by
  obtain ⟨gs, mx, tn, d⟩ := d
  intro a ha o e
  rcases List.mem_cons.mp ha with z | z
  · rw [z, d.d] at e; cases e; rfl
  · rw [List.mem_singleton.mp z, d.g] at e; cases e; rfl
theorem ts_deck {H H' : Hp} {dk gr : Addr} (d : Deck H dk gr) (s : Same (hid [dk, gr] H) (hid [dk, gr] H')) : TSame H H' := ts_hid (deck_nt d) s
mutual
/-- no list, no dict -/
def tupD : PyData → Bool
  | .none => true
  | .bool _ => true
  | .int _ => true
  | .str _ => true
  | .list _ => false
  | .tuple xs => tupAll xs
  | .dict _ => false
def tupAll : List PyData → Bool
  | [] => true
  | x :: xs => tupD x && tupAll xs
end
theorem ts_t {K : PySem.W.Frag} {H H' : Hp} {a : Addr} {xs : List V} (s : TSame H H') (h : SqT K H a xs) : SqT K H' a xs := by
  rcases h with (h | ⟨o, h⟩) | h
  · exact .inl (.inl (s _ _ h rfl))
  · exact .inl (.inr ⟨o, s _ _ h rfl⟩)
  · exact .inr h
section
variable {K : PySem.W.Frag} {H H' : Hp}
mutual
theorem dp_t (s : TSame H H') : ∀ {v : V} {d : PyData}, tupD d = true → Dp K H v d → Dp K H' v d
  | _, _, _, .non => .non
  | _, _, _, .bl b => .bl b
  | _, _, _, .int i => .int i
  | _, _, _, .str x => .str x
  | _, _, h, .lst _ _ => by simp only [tupD] at h; cases h
  | _, _, h, .tup h1 h2 => .tup (ts_t s h1) (dps_t s (by simpa only [tupD] using h) h2)
theorem dps_t (s : TSame H H') : ∀ {vs : List V} {ds : List PyData}, tupAll ds = true → DpAll K H vs ds → DpAll K H' vs ds
  | _, _, _, .nil => .nil
  | _, _, h, .cons h1 h2 => by
    simp only [tupAll, Bool.and_eq_true] at h
    exact .cons (dp_t s h.1 h1) (dps_t s h.2 h2)
end
end
theorem tupAll_mem {ds : List PyData} : tupAll ds = true ↔ ∀ d ∈ ds, tupD d = true := by
  induction ds with
  | nil => simp [tupAll]
  | cons x xs ih => simp only [tupAll, Bool.and_eq_true, ih, List.mem_cons, forall_eq_or_imp]
theorem toD_t : ∀ t : Th, tupD t.toD = true := Th.ind (fun i => by simp only [Th.toD, tupD]) fun n c ps ih => by
  simp only [Th.toD, tupD, tupAll, toDL_eq, Bool.and_true, Bool.true_and]
  exact tupAll_mem.mpr fun d hd => by
    obtain ⟨p, hp, rfl⟩ := List.mem_map.mp hd
    simp only [tupD, tupAll, Bool.and_true, Bool.true_and]
    exact ih p hp

/-! ## good plans -/
structure StOk (n c : Int) (ws : List Int) : Prop where
  n1 : 1 ≤ n
  n2 : n ≤ 10 ^ 30
  c0 : 0 ≤ c
  c1 : c < n
  ws : WsOk ws
mutual
def Th.good : Th → Prop
  | .inp _ => True
  | .st n c ps => StOk n c (ps.map (·.1)) ∧ goodL ps
def goodL : List (Int × Th) → Prop
  | [] => True
  | (_, t) :: r => t.good ∧ goodL r
end
mutual
/-- the inputs, in order -/
def Th.ins : Th → List Int
  | .inp i => [i]
  | .st _ _ ps => insL ps
def insL : List (Int × Th) → List Int
  | [] => []
  | (_, t) :: r => t.ins ++ insL r
end
theorem goodL_iff : ∀ {ps : List (Int × Th)}, goodL ps ↔ ∀ p ∈ ps, p.2.good
  | [] => by simp [goodL]
  | (w, t) :: r => by simp only [goodL, List.mem_cons, forall_eq_or_imp, goodL_iff (ps := r)]
theorem insL_eq : ∀ ps : List (Int × Th), insL ps = (ps.map fun p => p.2.ins).flatten
  | [] => by simp only [insL, List.map_nil, List.flatten_nil]
  | (w, t) :: r => by simp only [insL, List.map_cons, List.flatten_cons, insL_eq r]
theorem ins_len : ∀ t : Th, t.ins.length = t.nIn := Th.ind (fun i => by simp only [Th.ins, Th.nIn, List.length_singleton]) fun n c ps ih => by
  simp only [Th.ins, Th.nIn, insL_eq, nInL_eq, List.length_flatten, List.map_map]
  exact congrArg List.sum (List.map_congr_left fun p hp => ih p hp)
theorem insL_len (ps : List (Int × Th)) : (insL ps).length = nInL ps := by
  have := ins_len (.st 0 0 ps)
  simpa only [Th.ins, Th.nIn] using this
theorem nStL_app (a b : List (Int × Th)) : nStL (a ++ b) = nStL a + nStL b := by rw [nStL_eq, nStL_eq, nStL_eq, List.map_append, List.sum_append]
theorem nInL_app (a b : List (Int × Th)) : nInL (a ++ b) = nInL a + nInL b := by rw [nInL_eq, nInL_eq, nInL_eq, List.map_append, List.sum_append]
theorem insL_app (a b : List (Int × Th)) : insL (a ++ b) = insL a ++ insL b := by rw [insL_eq, insL_eq, insL_eq, List.map_append, List.flatten_append]
theorem depL_app : ∀ (a b : List (Int × Th)), depL (a ++ b) = max (depL a) (depL b)
  | [], b => by simp [depL]
  | (w, t) :: r, b => by
    rw [List.cons_append]
    simp only [depL, depL_app r b]
    omega
theorem nStL_one (p : Int × Th) : nStL [p] = p.2.nSt := by obtain ⟨w, t⟩ := p; simp only [nStL, Nat.add_zero]
theorem nInL_one (p : Int × Th) : nInL [p] = p.2.nIn := by obtain ⟨w, t⟩ := p; simp only [nInL, Nat.add_zero]
theorem insL_one (p : Int × Th) : insL [p] = p.2.ins := by obtain ⟨w, t⟩ := p; simp only [insL, List.append_nil]
theorem depL_one (p : Int × Th) : depL [p] = p.2.dep := by obtain ⟨w, t⟩ := p; simp only [depL]; omega
theorem take_one {α : Type} {l : List α} {i : Nat} {x : α} (h : l[i]? = some x) : l.take (i + 1) = l.take i ++ [x] := by
  rw [List.take_succ, h]
  rfl
theorem nInL_take {ps : List (Int × Th)} {i : Nat} {p : Int × Th} (h : ps[i]? = some p) : nInL (ps.take i) + p.2.nIn ≤ nInL ps := by
  have e : ps = ps.take (i + 1) ++ ps.drop (i + 1) := (List.take_append_drop ..).symm
  rw [e, nInL_app, take_one h, nInL_app, nInL_one]
  rw [← take_one h, ← e]
  omega
/-- a plan made by a shape -/
structure Made (t u : Th) : Prop where
  st : u.nSt = t.nSt
  inp : u.nIn = t.nIn
  dep : u.dep = t.dep
  full : u.full = true
  good : u.good
/-- 0, 1, .. -/
def rngI (n : Nat) : List Int := (List.range n).map Int.ofNat
/-- a plan -/
structure IsPlan (u : Th) : Prop where
  st : ∃ c d ps, u = .st c d ps
  good : u.good
  full : u.full = true
  many : u.nSt ≤ 12
  deep : u.dep ≤ 8
  inp : u.nIn ≤ 24
  perm : u.ins.Perm (rngI u.nIn)
theorem g_lstRg {te : L2.St → Hp → (Int → Int → Hp → Prop) → Prop} {σ : L2.St} {H : Hp} {Q : VK} (q : te σ H fun a b H1 => RgOk a b ∧ ∀ q, H1 q = none → Q (.ref q) (upd H1 q (.lst (rgV a b)))) : tLstRg te σ H Q := q
theorem g_rg1 {ta : TE} {σ : L2.St} {H : Hp} {Q : Int → Int → Hp → Prop} (q : ta σ H fun x H1 => ∃ n, x = V.int n ∧ Q 0 n H1) : tRg1 ta σ H Q := q
theorem rgV_eq (n : Nat) : rgV 0 (n : Int) = (rngI n).map V.int := by
  unfold rgV rngI
  simp
theorem hid_third {Ha Hl Hb : Hp} {dk gr lf : Addr} (s1 : Same (hid [dk, gr] Ha) (hid [dk, gr] Hl)) (s2 : Same (hid [dk, gr] Hl) (hid [dk, gr] Hb)) (n : Hl lf = none) : Same (hid [dk, gr] Ha) (hid [dk, gr, lf] Hb) := fun a o e => by
  have e1 := s1 a o e
  obtain ⟨k1, k2⟩ := hid_get (s2 a o e1)
  refine hid_put (fun z => ?_) k2
  simp only [List.mem_cons, List.not_mem_nil, or_false, not_or] at k1 z
  rcases z with z | z | z
  · exact k1.1 z
  · exact k1.2 z
  · rw [z, hid_none n] at e1; cases e1
theorem three_two {H : Hp} {dk gr lf : Addr} : Same (hid [dk, gr, lf] H) (hid [dk, gr] H) := hid_mono fun z hz => by
  simp only [List.mem_cons, List.not_mem_nil, or_false] at hz ⊢
  rcases hz with e | e
  · exact .inl e
  · exact .inr (.inl e)
end SC
namespace SC
open PySem PySem.Spec PyProof.Rows L2 StrLaws

/-! ## for i, x in enumerate(t), t a tuple -/
def iEnumT (K : PySem.W.Frag) (ta : TA) : TI := fun σ H R => ta σ H fun vs H1 => ∃ a xs, vs = [.ref a] ∧ SqT K H1 a xs ∧ R (Itet K a) H1
theorem pi_enumT {X : Cx} {e : Expr} {ta : TA} {p pos tpos : Pos} {elts : List Expr} {kk : Nat} (hg : Gl X "enumerate") (hm : X.mg "enumerate" = none) (ha : PA X [e] ta)
    (hs : starEach [e] X.env = [(false, eval e X.env)] := by rfl) :
    PI X (.Tuple elts kk tpos) (.Call (.Name "enumerate" p) [e] [] pos) (iEnumT X.K ta) := .mk fun pins s σ H R I h => by
  refine Call_ (ld_blt I hg hm boot_enumerate (PyProof.Rows.callWith_type1 (thn (ha.run pos pins s σ H _ I h) ?_) hs rfl))
  rintro us t ⟨vs, H1, J, rel, a, xs, rfl, hq, q⟩
  obtain ⟨u, rfl, ru⟩ := vals1 rel
  cases ru
  obtain ⟨its, rv, ht, hz⟩ := J.tuple hq
  refine enum_one (begins_tuple a its.toArray) (show t.heap.IsTuple a its.toArray from ht) fun h' he hi hsz hk => wpAny_pyIter_enum he ?_
  have la : a < t.heap.objs.size := by
    obtain ⟨o, ho, _⟩ := id ht
    exact Heap.lt_size ho
  have J2 : Inv X pins σ H1 { t with heap := h' } := J.kept (t' := t.toks) hk
  refine ⟨t.heap.objs.size + 1, [t.heap.objs.size + 1, t.heap.objs.size], _, _, H1, rfl, J2, turn_enumT a (t.heap.objs.size + 1) t.heap.objs.size, ⟨⟨_, he⟩, ⟨_, hi, rfl, rfl⟩, Nat.succ_ne_self _, Nat.ne_of_gt (Nat.lt_succ_of_lt la), Nat.ne_of_gt la⟩, fun b hb => ?_, q⟩
  have le : t.heap.objs.size ≤ b := by
    rcases List.mem_cons.mp hb with z | z
    · rw [z]; exact Nat.le_succ _
    · rw [List.mem_singleton.mp z]; exact Nat.le_refl _
  exact J.fpOk le (J.hok.fresh le)
theorem g_iEnumT {K : PySem.W.Frag} {ta : TA} {σ : L2.St} {H : Hp} {R : It → Hp → Prop} (q : ta σ H fun vs H1 => ∃ a xs, vs = [.ref a] ∧ SqT K H1 a xs ∧ R (Itet K a) H1) : iEnumT K ta σ H R := q
/-- the loop over it -/
theorem for_E {K : PySem.W.Frag} {a : Addr} {xs : List V} {g : TG} {tb : TS} {nx : L2.St → Hp → Prop} {rt : VK} {σ : L2.St} {H : Hp} (Pv : Nat → L2.St → Hp → Prop) (h0 : Pv 0 σ H)
    (hq : ∀ i σ H, Pv i σ H → SqT K H a xs)
    (hs : ∀ i x T σ H, xs[i]? = some x → Pv i σ H → H T = none → g (.ref T) σ (upd H T (.tup [.int (i : Nat), x])) fun σ2 H2 => tb { nx := Pv (i + 1), rt := rt, bk := nx, ct := Pv (i + 1) } σ2 H2)
    (hd : ∀ σ H, Pv xs.length σ H → nx σ H) : ForGoal (Itet K a) g tb nx rt σ H :=
  for_W (walk_enumT (xs := xs)) Pv h0 (fun i σ H _ p => hq i σ H p) (fun i x σ H H' hi p y => by
    obtain ⟨T, u, v, rfl, h1, rfl, h3, h4⟩ := y
    obtain rfl := Option.some.inj h3
    exact hs i v T σ H h4 p h1) hd
end SC
namespace SC
open PySem PySem.Spec PyProof.Rows L2 StrLaws
section
variable {K : PySem.W.Frag} {H : Hp} {Q : VK}
theorem tyx_t {a : Addr} {xs : List V} (h : SqT K H a xs) : TyX K H (.ref a) (.type "tuple") := by
  rcases h with (h | ⟨o, h⟩) | ⟨o, its, n, h1, h2, _⟩
  · exact .base (.tup h)
  · exact .fTuple h
  · exact .kTuple h1 h2
theorem tyx_l {a : Addr} {xs : List V} (h : H a = some (.lst xs)) : TyX K H (.ref a) (.type "list") := .base (.lst h)
theorem isi_tt {a : Addr} {xs : List V} (h : SqT K H a xs) (q : Q (.bl true) H) : rIsi K [.ref a, .ty "tuple"] H Q := ⟨_, _, _, _, true, rfl, .ty _, tyx_t h, kit_ty (by decide +kernel), q⟩
theorem isi_it {i : Int} (q : Q (.bl false) H) : rIsi K [.int i, .ty "tuple"] H Q := ⟨_, _, _, _, false, rfl, .ty _, .base (.int _), kit_ty (by decide +kernel), q⟩
theorem isi_ii {i : Int} (q : Q (.bl true) H) : rIsi K [.int i, .ty "int"] H Q := ⟨_, _, _, _, true, rfl, .ty _, .base (.int _), kit_ty (by decide +kernel), q⟩
theorem isi_ib {i : Int} (q : Q (.bl false) H) : rIsi K [.int i, .ty "bool"] H Q := ⟨_, _, _, _, false, rfl, .ty _, .base (.int _), kit_ty (by decide +kernel), q⟩
theorem isi_ti {a : Addr} {xs : List V} (h : SqT K H a xs) (q : Q (.bl false) H) : rIsi K [.ref a, .ty "int"] H Q := ⟨_, _, _, _, false, rfl, .ty _, tyx_t h, kit_ty (by decide +kernel), q⟩
/-- t + u, both with items -/
theorem l_catT {a b : Addr} {xs ys : List V} (h1 : SqT K H a xs) (h2 : SqT K H b ys) (hn : ys ≠ []) (hl : xs.length + ys.length ≤ sizeLine)
    (q : ∀ p H', TSame H H' → Same H H' → SqT K H' p (xs ++ ys) → Q (.ref p) H') : rCatA K (.ref a) (.ref b) H Q := by
  refine ⟨a, b, xs, ys, rfl, rfl, h1, h2, hl, fun e => ?_, fun _ e => absurd e hn, fun _ _ p np => ?_⟩
  · subst e
    exact q b H (TSame.refl H) (Same.refl H) h2
  · exact q p _ (ts_same (same_new np)) (same_new np) (sq_t upd_same)
theorem l_extL {l b : Addr} {xs ys : List V} (h : H l = some (.lst xs)) (h2 : H b = some (.lst ys)) (hl : xs.length + ys.length ≤ 1000000) (q : Q .non (upd H l (.lst (xs ++ ys)))) : rExtend (.ref l) [.ref b] H Q := ⟨l, b, xs, ys, rfl, rfl, h, h2, sz hl, q⟩
end
/-! ## all things within a thing, with their ways -/
mutual
def Th.things : Th → List Int → List (List Int × Th)
  | .inp i, w => [(w, .inp i)]
  | .st n c ps, w => (w, .st n c ps) :: thingsAt ps w 0
def thingsAt : List (Int × Th) → List Int → Nat → List (List Int × Th)
  | [], _, _ => []
  | (_, t) :: r, w, k => t.things (w ++ [(k : Int)]) ++ thingsAt r w (k + 1)
end
theorem thingsAt_app : ∀ (a b : List (Int × Th)) (w : List Int) (k : Nat), thingsAt (a ++ b) w k = thingsAt a w k ++ thingsAt b w (k + a.length)
  | [], b, w, k => by simp only [List.nil_append, thingsAt, List.length_nil, Nat.add_zero]
  | (x, t) :: a, b, w, k => by
    rw [List.cons_append]
    simp only [thingsAt, thingsAt_app a b w (k + 1), List.append_assoc, List.length_cons]
    rw [Nat.add_assoc k 1, Nat.add_comm 1]
theorem thingsAt_take {ps : List (Int × Th)} {i : Nat} {x : Int} {t : Th} (w : List Int) (h : ps[i]? = some (x, t)) : thingsAt (ps.take (i + 1)) w 0 = thingsAt (ps.take i) w 0 ++ t.things (w ++ [(i : Int)]) := by
  have hl : (ps.take i).length = i := by
    rw [List.length_take]
    have := (List.getElem?_eq_some_iff.mp h).1
    omega
  rw [take_one h, thingsAt_app, hl]
  simp only [thingsAt, List.append_nil, Nat.zero_add]
mutual
theorem things_len : ∀ (t : Th) (w : List Int), (t.things w).length = t.nIn + t.nSt
  | .inp _, _ => by simp only [Th.things, Th.nIn, Th.nSt, List.length_singleton]
  | .st _ _ ps, w => by simp only [Th.things, Th.nIn, Th.nSt, List.length_cons, thingsAt_len ps w 0]; omega
theorem thingsAt_len : ∀ (ps : List (Int × Th)) (w : List Int) (k : Nat), (thingsAt ps w k).length = nInL ps + nStL ps
  | [], _, _ => by simp only [thingsAt, nInL, nStL, List.length_nil]
  | (_, t) :: r, w, k => by simp only [thingsAt, nInL, nStL, List.length_append, things_len t, thingsAt_len r]; omega
end
def wayD (w : List Int) : PyData := .tuple (w.map PyData.int)
def thD (p : List Int × Th) : PyData := .tuple [wayD p.1, p.2.toD]
theorem wayD_t (w : List Int) : tupD (wayD w) = true := by
  simp only [wayD, tupD]
  exact tupAll_mem.mpr fun d hd => by
    obtain ⟨i, _, rfl⟩ := List.mem_map.mp hd
    simp only [tupD]
theorem thD_t (l : List (List Int × Th)) : tupAll (l.map thD) = true := tupAll_mem.mpr fun d hd => by
  obtain ⟨p, _, rfl⟩ := List.mem_map.mp hd
  simp only [thD, tupD, tupAll, wayD_t, toD_t, Bool.and_self]
theorem nSt_take {ps : List (Int × Th)} {i : Nat} {p : Int × Th} (h : ps[i]? = some p) : nStL (ps.take i) + p.2.nSt ≤ nStL ps := by
  have e : ps = ps.take (i + 1) ++ ps.drop (i + 1) := (List.take_append_drop ..).symm
  rw [e, nStL_app, take_one h, nStL_app, nStL_one]
  rw [← take_one h, ← e]
  omega
/-- a plan's data, taken apart -/
theorem pl_at {K : PySem.W.Frag} {H : Hp} {n c : Int} {ps : List (Int × Th)} {a : Addr} (h : Dp K H (.ref a) (Th.st n c ps).toD) :
    ∃ b xs, SqT K H a [.int n, .int c, .ref b] ∧ SqT K H b xs ∧ DpAll K H xs (toDL ps) := by
  simp only [Th.toD] at h
  obtain ⟨vs, h1, h2⟩ := dp_tup h
  cases h2 with
  | cons k1 k2 =>
    cases k2 with
    | cons k3 k4 =>
      cases k4 with
      | cons k5 k6 =>
        cases k6
        obtain rfl := dp_int k1
        obtain rfl := dp_int k3
        obtain ⟨b, rfl⟩ := dp_tuple k5
        obtain ⟨xs, g1, g2⟩ := dp_tup k5
        exact ⟨b, xs, h1, g1, g2⟩
/-- one of its parts -/
theorem part_at {K : PySem.W.Frag} {H : Hp} {ps : List (Int × Th)} {xs : List V} {i : Nat} {x : V} (h : DpAll K H xs (toDL ps)) (hx : xs[i]? = some x) :
    ∃ w t q v, ps[i]? = some (w, t) ∧ x = .ref q ∧ SqT K H q [.int w, v] ∧ Dp K H v t.toD := by
  obtain ⟨d, h1, h2⟩ := dps_get h hx
  rw [toDL_eq, List.getElem?_map] at h1
  cases e : ps[i]? with
  | none => rw [e] at h1; cases h1
  | some p =>
    rw [e] at h1
    have e2 : PyData.tuple [.int p.1, p.2.toD] = d := Option.some.inj h1
    subst e2
    obtain ⟨q, rfl⟩ := dp_tuple h2
    obtain ⟨vs, k1, k2⟩ := dp_tup h2
    cases k2 with
    | cons k3 k4 =>
      cases k4 with
      | cons k5 k6 =>
        cases k6
        obtain rfl := dp_int k3
        exact ⟨p.1, p.2, q, _, rfl, rfl, k1, k5⟩
theorem toDL_len (ps : List (Int × Th)) : (toDL ps).length = ps.length := by rw [toDL_eq, List.length_map]
/-- a def that is never called so deep -/
theorem fn_none {P : Program} {w : World} {K : PySem.W.Frag} {mg : Str → Option Value} {base : Heap} {k : Nat} {f : Addr} {fd : FuncData} {ps : List Str} : FnOk P w K mg base CX0 k f fd ps (fun _ _ _ _ => False) where
  len := fun _ _ _ _ h => h.elim
  run := by
    intros
    contradiction
end SC
namespace SC
open PySem PySem.Spec PyProof.Rows L2 StrLaws
/-! ## a plan without its offsets, and with others -/
mutual
def Th.bare : Th → Th
  | .inp i => .inp i
  | .st n _ ps => .st n 0 (bareL ps)
def bareL : List (Int × Th) → List (Int × Th)
  | [] => []
  | (w, t) :: r => (w, t.bare) :: bareL r
end
mutual
/-- the offsets, in order -/
def Th.offs : Th → List Int
  | .inp _ => []
  | .st _ c ps => c :: offsL ps
def offsL : List (Int × Th) → List Int
  | [] => []
  | (_, t) :: r => t.offs ++ offsL r
end
theorem bareL_eq : ∀ ps : List (Int × Th), bareL ps = ps.map fun p => (p.1, p.2.bare)
  | [] => by simp only [bareL, List.map_nil]
  | (w, t) :: r => by simp only [bareL, List.map_cons, bareL_eq r]
theorem bareL_app (a b : List (Int × Th)) : bareL (a ++ b) = bareL a ++ bareL b := by rw [bareL_eq, bareL_eq, bareL_eq, List.map_append]
theorem bareL_fst (ps : List (Int × Th)) : (bareL ps).map (·.1) = ps.map (·.1) := by rw [bareL_eq, List.map_map]; rfl
theorem bareL_len (ps : List (Int × Th)) : (bareL ps).length = ps.length := by rw [bareL_eq, List.length_map]
mutual
theorem bare_nIn : ∀ t : Th, t.bare.nIn = t.nIn
  | .inp _ => by simp only [Th.bare, Th.nIn]
  | .st _ _ ps => by simp only [Th.bare, Th.nIn, bareL_nIn ps]
theorem bareL_nIn : ∀ ps : List (Int × Th), nInL (bareL ps) = nInL ps
  | [] => by simp only [bareL]
  | (_, t) :: r => by simp only [bareL, nInL, bare_nIn t, bareL_nIn r]
end
mutual
theorem bare_nSt : ∀ t : Th, t.bare.nSt = t.nSt
  | .inp _ => by simp only [Th.bare, Th.nSt]
  | .st _ _ ps => by simp only [Th.bare, Th.nSt, bareL_nSt ps]
theorem bareL_nSt : ∀ ps : List (Int × Th), nStL (bareL ps) = nStL ps
  | [] => by simp only [bareL]
  | (_, t) :: r => by simp only [bareL, nStL, bare_nSt t, bareL_nSt r]
end
mutual
theorem bare_dep : ∀ t : Th, t.bare.dep = t.dep
  | .inp _ => by simp only [Th.bare, Th.dep]
  | .st _ _ ps => by simp only [Th.bare, Th.dep, bareL_dep ps]
theorem bareL_dep : ∀ ps : List (Int × Th), depL (bareL ps) = depL ps
  | [] => by simp only [bareL]
  | (_, t) :: r => by simp only [bareL, depL, bare_dep t, bareL_dep r]
end
mutual
theorem bare_full : ∀ t : Th, t.bare.full = t.full
  | .inp _ => by simp only [Th.bare, Th.full]
  | .st _ _ ps => by
    simp only [Th.bare, Th.full, bareL_full ps]
    cases ps with
    | nil => simp only [bareL]
    | cons a b => obtain ⟨w, t⟩ := a; simp only [bareL]; rfl
theorem bareL_full : ∀ ps : List (Int × Th), fullL (bareL ps) = fullL ps
  | [] => by simp only [bareL]
  | (_, t) :: r => by simp only [bareL, fullL, bare_full t, bareL_full r]
end
mutual
theorem bare_ins : ∀ t : Th, t.bare.ins = t.ins
  | .inp _ => by simp only [Th.bare, Th.ins]
  | .st _ _ ps => by simp only [Th.bare, Th.ins, bareL_ins ps]
theorem bareL_ins : ∀ ps : List (Int × Th), insL (bareL ps) = insL ps
  | [] => by simp only [bareL]
  | (_, t) :: r => by simp only [bareL, insL, bare_ins t, bareL_ins r]
end
mutual
theorem offs_len : ∀ t : Th, t.offs.length = t.nSt
  | .inp _ => by simp only [Th.offs, Th.nSt, List.length_nil]
  | .st _ _ ps => by simp only [Th.offs, Th.nSt, List.length_cons, offsL_len ps]
theorem offsL_len : ∀ ps : List (Int × Th), (offsL ps).length = nStL ps
  | [] => by simp only [offsL, nStL, List.length_nil]
  | (_, t) :: r => by simp only [offsL, nStL, List.length_append, offs_len t, offsL_len r]
end
/-- a plan but for its offsets is a plan -/
theorem IsPlan.of_bare {t u : Th} (h : IsPlan t) (e : t.bare = u.bare) (g : u.good) : IsPlan u := by
  refine ⟨?_, g, by rw [← bare_full, ← e, bare_full]; exact h.full, by rw [← bare_nSt, ← e, bare_nSt]; exact h.many, by rw [← bare_dep, ← e, bare_dep]; exact h.deep, by rw [← bare_nIn, ← e, bare_nIn]; exact h.inp, ?_⟩
  · obtain ⟨c, d, ps, rfl⟩ := h.st
    cases u with
    | inp i => simp only [Th.bare] at e; cases e
    | st a b qs => exact ⟨a, b, qs, rfl⟩
  · rw [← bare_ins, ← bare_nIn, ← e, bare_ins, bare_nIn]
    exact h.perm
/-- the offset of a stage among ways and things -/
def offOf : List Int × Th → Option Int
  | (_, .inp _) => none
  | (_, .st _ c _) => some c
/-- the way of a stage among ways and things -/
def wayOf : List Int × Th → Option (List Int)
  | (_, .inp _) => none
  | (w, .st _ _ _) => some w
mutual
theorem things_offs : ∀ (t : Th) (w : List Int), (t.things w).filterMap offOf = t.offs
  | .inp _, _ => by simp only [Th.things, Th.offs, List.filterMap_cons, offOf, List.filterMap_nil]
  | .st _ _ ps, w => by simp only [Th.things, Th.offs, List.filterMap_cons, offOf, thingsAt_offs ps w 0]
theorem thingsAt_offs : ∀ (ps : List (Int × Th)) (w : List Int) (k : Nat), (thingsAt ps w k).filterMap offOf = offsL ps
  | [], _, _ => by simp only [thingsAt, offsL, List.filterMap_nil]
  | (_, t) :: r, w, k => by simp only [thingsAt, offsL, List.filterMap_append, things_offs t, thingsAt_offs r]
end
theorem fm_take {α β : Type} {f : α → Option β} {l : List α} {i : Nat} {x : α} (h : l[i]? = some x) : (l.take (i + 1)).filterMap f = (l.take i).filterMap f ++ (f x).toList := by
  rw [take_one h, List.filterMap_append, List.filterMap_cons, List.filterMap_nil]
  cases f x <;> rfl
theorem fm_len {α β : Type} {f : α → Option β} (l : List α) (i : Nat) : ((l.take i).filterMap f).length ≤ l.length := Nat.le_trans (List.length_filterMap_le ..) (by rw [List.length_take]; omega)
/-- one of the ways and things -/
theorem thing_at {K : PySem.W.Frag} {H : Hp} {l : List (List Int × Th)} {zs : List V} {i : Nat} {x : V} (h : DpAll K H zs (l.map thD)) (hx : zs[i]? = some x) :
    ∃ w t q wa v, l[i]? = some (w, t) ∧ x = .ref q ∧ SqT K H q [.ref wa, v] ∧ Dp K H (.ref wa) (wayD w) ∧ Dp K H v t.toD := by
  obtain ⟨d, h1, h2⟩ := dps_get h hx
  rw [List.getElem?_map] at h1
  cases e : l[i]? with
  | none => rw [e] at h1; cases h1
  | some p =>
    rw [e] at h1
    have e2 : thD p = d := Option.some.inj h1
    subst e2
    obtain ⟨q, rfl⟩ := dp_tuple h2
    obtain ⟨vs, k1, k2⟩ := dp_tup h2
    cases k2 with
    | cons k3 k4 =>
      cases k4 with
      | cons k5 k6 =>
        cases k6
        obtain ⟨wa, rfl⟩ := dp_tuple k3
        exact ⟨p.1, p.2, q, wa, _, rfl, rfl, k1, k3, k5⟩
def Th.isSt : Th → Bool
  | .inp _ => false
  | .st _ _ _ => true
/-- the ways and stages within a thing -/
def Th.sts (t : Th) (w : List Int) : List (List Int × Th) := (t.things w).filter fun p => p.2.isSt
def stsAt (ps : List (Int × Th)) (w : List Int) (k : Nat) : List (List Int × Th) := (thingsAt ps w k).filter fun p => p.2.isSt
theorem sts_inp (i : Int) (w : List Int) : (Th.inp i).sts w = [] := by simp [Th.sts, Th.things, Th.isSt]
theorem sts_st (n c : Int) (ps : List (Int × Th)) (w : List Int) : (Th.st n c ps).sts w = (w, .st n c ps) :: stsAt ps w 0 := by
  unfold Th.sts stsAt
  simp only [Th.things]
  rw [List.filter_cons_of_pos (by rfl)]
theorem stsAt_take {ps : List (Int × Th)} {i : Nat} {x : Int} {t : Th} (w : List Int) (h : ps[i]? = some (x, t)) : stsAt (ps.take (i + 1)) w 0 = stsAt (ps.take i) w 0 ++ t.sts (w ++ [(i : Int)]) := by
  unfold stsAt Th.sts
  rw [thingsAt_take w h, List.filter_append]
mutual
theorem sts_len : ∀ (t : Th) (w : List Int), (t.sts w).length = t.nSt
  | .inp i, w => by rw [sts_inp]; simp only [Th.nSt, List.length_nil]
  | .st n c ps, w => by rw [sts_st]; simp only [Th.nSt, List.length_cons, stsAt_len ps w 0]
theorem stsAt_len : ∀ (ps : List (Int × Th)) (w : List Int) (k : Nat), (stsAt ps w k).length = nStL ps
  | [], _, _ => by simp only [stsAt, thingsAt, nStL, List.filter_nil, List.length_nil]
  | (_, t) :: r, w, k => by
    have h1 := sts_len t (w ++ [(k : Int)])
    have h2 := stsAt_len r w (k + 1)
    unfold Th.sts at h1
    unfold stsAt at h2 ⊢
    simp only [thingsAt, nStL, List.filter_append, List.length_append, h1, h2]
end
theorem sts_offs (t : Th) (w : List Int) : (t.sts w).filterMap offOf = t.offs := by
  unfold Th.sts
  rw [List.filterMap_filter, ← things_offs t w]
  congr 1
  funext p
  obtain ⟨v, s⟩ := p
  cases s <;> rfl
theorem sts_ways (t : Th) (w : List Int) : (t.sts w).map (·.1) = (t.things w).filterMap wayOf := by
  unfold Th.sts
  rw [← List.filterMap_eq_map, List.filterMap_filter]
  congr 1
  funext p
  obtain ⟨v, s⟩ := p
  cases s <;> rfl
theorem sts_all {t : Th} {w : List Int} {p : List Int × Th} (h : p ∈ t.sts w) : p.2.isSt = true := (List.mem_filter.mp h).2
theorem ways_ints {K : PySem.W.Frag} : ∀ {xs : List V} {way : List Int} {H : Hp}, DpAll K H xs (way.map PyData.int) → xs = way.map V.int
  | [], [], _, _ => rfl
  | [], _ :: _, _, h => by cases h
  | _ :: _, [], _, h => by cases h
  | x :: xs, i :: way, H, .cons h1 h2 => by rw [dp_int h1, ways_ints h2]; rfl
/-! ## the inputs, stage by stage -/
def inpOf : Int × Th → Option Int
  | (_, .inp i) => some i
  | (_, .st _ _ _) => none
def dirOf : Th → List Int
  | .inp _ => []
  | .st _ _ ps => ps.filterMap inpOf
def numsOf (l : List (List Int × Th)) : List Int := l.flatMap fun p => dirOf p.2
theorem numsOf_app (a b : List (List Int × Th)) : numsOf (a ++ b) = numsOf a ++ numsOf b := by unfold numsOf; rw [List.flatMap_append]
mutual
theorem nums_perm : ∀ (n c : Int) (ps : List (Int × Th)) (w : List Int), (numsOf ((Th.st n c ps).sts w)).Perm (Th.st n c ps).ins
  | n, c, ps, w => by
    rw [sts_st]
    have e : numsOf ((w, Th.st n c ps) :: stsAt ps w 0) = ps.filterMap inpOf ++ numsOf (stsAt ps w 0) := by unfold numsOf; rw [List.flatMap_cons]; rfl
    rw [e]
    simp only [Th.ins]
    exact numsL_perm ps w 0
theorem numsL_perm : ∀ (ps : List (Int × Th)) (w : List Int) (k : Nat), (ps.filterMap inpOf ++ numsOf (stsAt ps w k)).Perm (insL ps)
  | [], _, _ => by simp [stsAt, thingsAt, numsOf, insL]
  | (x, .inp i) :: r, w, k => by
    have h := numsL_perm r w (k + 1)
    have e : stsAt ((x, Th.inp i) :: r) w k = stsAt r w (k + 1) := by
      unfold stsAt
      simp only [thingsAt, Th.things, List.singleton_append]
      rw [List.filter_cons_of_neg (by simp [Th.isSt])]
    rw [e]
    simp only [List.filterMap_cons, inpOf, insL, Th.ins, List.singleton_append, List.cons_append]
    exact h.cons i
  | (x, .st n c qs) :: r, w, k => by
    have h := numsL_perm r w (k + 1)
    have g := nums_perm n c qs (w ++ [(k : Int)])
    have e : stsAt ((x, Th.st n c qs) :: r) w k = (Th.st n c qs).sts (w ++ [(k : Int)]) ++ stsAt r w (k + 1) := by
      unfold stsAt Th.sts
      simp only [thingsAt]
      rw [List.filter_append]
    rw [e, numsOf_app]
    simp only [List.filterMap_cons, inpOf, insL]
    rw [← List.append_assoc]
    refine (List.perm_append_comm.append_right _).trans ?_
    rw [List.append_assoc]
    exact g.append h
end
mutual
theorem things_sub : ∀ (t : Th) (w : List Int), t.full = true → ∀ p ∈ t.things w, p.2.full = true ∧ p.2.nIn ≤ t.nIn
  | .inp i, w, hf, p, hp => by
    simp only [Th.things, List.mem_singleton] at hp
    rw [hp]; exact ⟨hf, Nat.le_refl _⟩
  | .st n c ps, w, hf, p, hp => by
    simp only [Th.things, List.mem_cons] at hp
    rcases hp with rfl | hp
    · exact ⟨hf, Nat.le_refl _⟩
    · simp only [Th.full, Bool.and_eq_true] at hf
      have h := thingsAt_sub ps w 0 hf.2 p hp
      simp only [Th.nIn]
      exact h
theorem thingsAt_sub : ∀ (ps : List (Int × Th)) (w : List Int) (k : Nat), fullL ps = true → ∀ p ∈ thingsAt ps w k, p.2.full = true ∧ p.2.nIn ≤ nInL ps
  | [], _, _, _, p, hp => by simp [thingsAt] at hp
  | (_, t) :: r, w, k, hf, p, hp => by
    simp only [fullL, Bool.and_eq_true] at hf
    simp only [thingsAt, List.mem_append] at hp
    simp only [nInL]
    rcases hp with hp | hp
    · have h := things_sub t _ hf.1 p hp
      exact ⟨h.1, by omega⟩
    · have h := thingsAt_sub r w (k + 1) hf.2 p hp
      exact ⟨h.1, by omega⟩
end
end SC
namespace SC
open PySem PySem.Spec PyProof.Rows L2 StrLaws

/-! ## {t: v for ..}, t tuples of integers -/
section
variable {X : Cx} {pins : List (Addr × Obj)} {σ : L2.St} {H : Hp} {s : Shared}
theorem set_dt {E : Value → Shared → Prop} {d b : Addr} {kvs : List (List L2.Key × V)} {k : List L2.Key} {v : V} {r : Value} {Q : Unit → Shared → Prop} (hu : X.A.units + 1 < cLine) (I : Inv X pins σ H s)
    (e : H d = some (.dT kvs)) (eb : H b = some (.tup (k.map kV))) (hl : kvs.length < sizeLine) (rv : RelV v r) (h : ∀ t, Inv X pins σ (upd H d (.dT (putK kvs k v))) t → Q () t) :
    wpAny (model X.prog X.w) X.A (dictSet d (.ref b) r) Q E s := by
  obtain ⟨z, hd, xs, rel, dd⟩ := dt_of I.hok e
  have zl : xs.length ≤ sizeLine := Paired.length rel ▸ z
  have zp : (putK kvs k v).length ≤ sizeLine := Nat.le_trans (length_putK kvs k v) hl
  refine wpAny_dictSet_heap (hsz := zl) (show (tupleKind (mixKind X.prog X.w)).room X.A from Nat.lt_of_succ_lt hu) (key_of I.hok eb) dd fun g dg sb => h _ ?_
  obtain ⟨o, es, ep, g1, g2, g3, g4, _, g5⟩ := dg
  refine d_write I (by rw [e]; exact True.intro) sb ⟨o, g1⟩ ⟨zp, hd, _, (rel.put k eb rv).keeps fun c ys ec => ?_, o, es, ep, g1, g2, g3, g4, g5⟩
  rw [upd_ne (ne_of ec e (fun q => nomatch q))]
  exact ec
end
section
variable {X : Cx}
/-- the comprehension: D the new dict -/
def tDcT (wi : TI) (g : TG) (tk tv : TE) (vs : List Nat) : TE := fun σ H Q => wi σ H fun J H1 => ∀ D, H1 D = none → ∃ W : Nat → Nat → Hp → Prop, (∃ m, W 0 m (upd H1 D (.dT []))) ∧ ∀ i m H, W i m H →
  (J.stop i H ∧ Q (.ref D) H) ∨ (J.go i H ∧ ∃ Nx : Hp → Prop, (∀ H', Nx H' → ∃ m', m' < m ∧ W (i + 1) m' H') ∧ ∀ x H', J.yld i H x H' → g x (wipe σ vs) H' fun σ2 H2 => wipe σ2 vs = wipe σ vs ∧
    tk σ2 H2 fun y H3 => tv σ2 H3 fun z H4 => ∃ kvs k b, y = .ref b ∧ H4 b = some (.tup (k.map kV)) ∧ H4 D = some (.dT kvs) ∧ kvs.length < sizeLine ∧ Nx (upd H4 D (.dT (putK kvs k z))))
theorem dcT_core {pins : List (Addr × Obj)} {s : Shared} {σ : L2.St} {H : Hp} {Q : VK} {pos' : Pos} {use : Option (Value → Sem Unit)} {Qf : Value → Shared → Prop} {kx vx tg iter : Expr} {scope : Scope} {own : List (Str × Nat)} {pos : Pos} {wi : TI} {g : TG} {tk tv : TE} (hu : X.A.units + 1 < cLine) (hc : X.calm = true) (hN : X.N.Nodup) (hi : PI X tg iter wi) (ok : BlkOk X.N X.env.scope scope own)
    (hg : ∀ (s : Shared) (H : Hp) (C : Addr) (cl : List (Str × Addr)) (fp : List Addr), PG (X.blk s H scope (compEnvC scope cl C X.env) fp) tg g)
    (hk : ∀ (s : Shared) (H : Hp) (C : Addr) (cl : List (Str × Addr)) (fp : List Addr), PE (X.blk s H scope (compEnvC scope cl C X.env) fp) kx tk)
    (hv : ∀ (s : Shared) (H : Hp) (C : Addr) (cl : List (Str × Addr)) (fp : List Addr), PE (X.blk s H scope (compEnvC scope cl C X.env) fp) vx tv)
    (hs : ∀ x, foldedSetIterable iter X.env x = pure x)
    (I : Inv X pins σ H s) (h : tDcT wi g tk tv (own.map (·.2)) σ H Q)
    (back : ∀ D C t m H', Inv X pins σ H' t → Q (.ref D) H' → t.heap.Ns C m → FpOk X pins H' C → compPost (model X.prog X.w) X.A X.xe use Qf (.ref D) C (.ok .next) t) :
    wpAny (model X.prog X.w) X.A (comprehension (.DictComp kx vx [⟨tg, iter, [], 0⟩] scope pos) scope X.env pos' newDict false (eval iter X.env) use) Qf X.xe s := by
  have hfree : ∀ y ∈ scope.names, y.2 = .free → ∃ c, X.env.cells.lookup y.1 = some c := fun y hy e => (ok.free y hy e).elim (fun k => I.ok.has _ (.inl k)) fun k => I.ok.has _ (.inr k)
  refine wpAny_comprehension_free (use := use) rfl hs (closure_ok hfree) ok.kind (fun y hy e => by rw [ok.uniq y hy, e]) (thn (hi.run pins s σ H _ I h) fun xv s1 hx => thn hx fun itv s2 h2 => ?_)
  obtain ⟨it, fp, tn, J, H2, rfl, I2, T, st2, f2, q⟩ := h2
  refine wpAny_newObj_type (newEnv_comp ?_)
  obtain ⟨D, eD⟩ : ∃ D, s2.heap.objs.size = D := ⟨_, rfl⟩
  obtain ⟨W, ⟨m0, w0⟩, turn⟩ := q D (I2.hok.fresh (Nat.le_of_eq eD))
  obtain ⟨s3, e3⟩ : ∃ s3 : Shared, { s2 with heap := s2.heap.push { cls := .type "dict", data := .dict #[] } } = s3 := ⟨_, rfl⟩
  have h3 : s3.heap = s2.heap.push { cls := .type "dict", data := .dict #[] } := by rw [← e3]
  have I3 : Inv X pins σ (upd H2 D (.dT [])) s3 := by
    rw [← e3]
    refine I2.laid (t' := s2.toks) (fun b o e => Heap.get?_push_of_some _ e) (Nat.le_of_eq eD) ?_
    rw [← eD]
    exact dt_empty s2.heap I2.big
  have f3 : ∀ b ∈ fp, FpOk X pins (upd H2 D (.dT [])) b ∧ b < s3.heap.objs.size := fun b hb => by
    obtain ⟨o, e, _⟩ := T.obj _ _ st2 b hb
    have lt := Heap.lt_size e
    refine ⟨⟨?_, (f2 b hb).2⟩, by rw [h3, Heap.size_push]; exact Nat.lt_succ_of_lt lt⟩
    rw [upd_ne (eD ▸ Nat.ne_of_lt lt)]
    exact (f2 b hb).1
  have st3 : tn 0 s3.heap := T.keep _ _ _ st2 fun b _ o e => by rw [h3]; exact Heap.get?_push_of_some _ e
  have I4 := block_start I3 ok hN f3
  have pg := hg s3 (upd H2 D (.dT [])) s3.heap.objs.size (cellsFrom (s3.heap.objs.size + 1) scope.names (cloFrom X.env.cells scope.names [])) fp
  have pk := hk s3 (upd H2 D (.dT [])) s3.heap.objs.size (cellsFrom (s3.heap.objs.size + 1) scope.names (cloFrom X.env.cells scope.names [])) fp
  have pv := hv s3 (upd H2 D (.dT [])) s3.heap.objs.size (cellsFrom (s3.heap.objs.size + 1) scope.names (cloFrom X.env.cells scope.names [])) fp
  show codeAny _ _ (.compStart (.DictComp kx vx [⟨tg, iter, [], 0⟩] scope pos) 0 (.ref it) (.ref s2.heap.objs.size) (compEnvC scope (cellsFrom ((s2.heap.push { cls := .type "dict", data := .dict #[] }).objs.size + 1) scope.names (cloFrom X.env.cells scope.names [])) (s2.heap.push { cls := .type "dict", data := .dict #[] }).objs.size X.env))
    (compPost (model X.prog X.w) X.A X.xe use Qf (.ref s2.heap.objs.size) (s2.heap.push { cls := .type "dict", data := .dict #[] }).objs.size) { s2 with heap := pushCells ((s2.heap.push { cls := .type "dict", data := .dict #[] }).push { cls := .type "dict", data := .dict #[] }) scope.names }
  rw [eD, ← h3]
  have nfp : ∀ b ∈ fp, (upd H2 D (.dT [])) b = none := fun b hb => (f3 b hb).1.1
  generalize ece : compEnvC scope (cellsFrom (s3.heap.objs.size + 1) scope.names (cloFrom X.env.cells scope.names [])) s3.heap.objs.size X.env = ce at I4 pg pk pv ⊢
  have lce : ce.locals = s3.heap.objs.size := by subst ece; rfl
  generalize eH3 : upd H2 D (.dT []) = H3 at I3 I4 pg pk pv w0 nfp f3
  generalize es4 : ({ s3 with heap := pushCells (s3.heap.push { cls := .type "dict", data := .dict #[] }) scope.names } : Shared) = s4 at I4
  have es4' : ({ s2 with heap := pushCells (s3.heap.push { cls := .type "dict", data := .dict #[] }) scope.names } : Shared) = s4 := by rw [← es4, ← e3]
  rw [es4']
  have st4 : tn 0 s4.heap := T.keep _ _ _ st3 fun b _ o e => by rw [← es4]; exact pushCells_keeps _ _ _ _ (Heap.get?_push_of_some _ e)
  have stat : ∀ {σ' : L2.St} {H' : Hp} {s' : Shared}, Inv (X.blk s3 H3 scope ce fp) [] σ' H' s' → (∀ b ∈ fp, H' b = none) → ∀ b ∈ fp, FpOk (X.blk s3 H3 scope ce fp) [] H' b := fun {σ' H' s'} J' n b hb =>
    ⟨n b hb, (J'.ok.exf b hb).1, J'.ok.exfs b hb, .inl hb, fun x c e => (J'.ok.exf b hb).2 x c e, fun p hp => nomatch (show p ∈ ([] : List (Addr × Obj)) from by simpa using hp)⟩
  suffices loop : codeAny (model X.prog X.w) X.A (.compLoop (.DictComp kx vx [⟨tg, iter, [], 0⟩] scope pos) 0 (.ref it) (.ref D) ce) (compPost (model X.prog X.w) X.A X.xe use Qf (.ref D) s3.heap.objs.size) s4 from
    codeAny_compStart_dict loop (T.self X.A 0 _ _ _ st4 loop)
  refine compLoop_anyD (fun n s' => ∃ i H', Inv (X.blk s3 H3 scope ce fp) [] (wipe σ (own.map (·.2))) H' s' ∧ tn i s'.heap ∧ (∀ b ∈ fp, H' b = none) ∧ W i n H') ?_ m0 ⟨0, H3, I4, st4, nfp, w0⟩
  rintro n s5 ⟨i, H5, I5, st5, n5, w5⟩
  rcases turn i n H5 w5 with ⟨stop, qq⟩ | ⟨go, Nx, hNx, step⟩
  · refine thnF (T.done (X.blk s3 H3 scope ce fp) rfl rfl rfl hc i [] s5 _ H5 (fun _ _ => False) I5 (stat I5 n5) st5 stop) fun r s6 ⟨hr, I6⟩ => ?_
    subst hr
    have I7 : Inv X pins σ H5 s6 := I3.call' (ch := fp) I6.os I6.base I6.hok I6.bare fun b hb => ⟨(f3 b hb).1.2.2.2.1, (f3 b hb).1.2.1, (f3 b hb).1.2.2.2.2.1, (f3 b hb).1.2.2.2.2.2⟩
    have nC : H5 s3.heap.objs.size = none := lce ▸ I6.free
    obtain ⟨m, hn, _⟩ := I6.loc
    exact back D s3.heap.objs.size s6 m H5 I7 qq (lce ▸ hn) (I3.fpOk (Nat.le_refl _) nC)
  · refine thnF (T.item (X.blk s3 H3 scope ce fp) rfl rfl rfl hc i [] s5 _ H5 (fun _ _ => False) I5 (stat I5 n5) st5 go) fun r s6 ⟨u, hr, h6⟩ => ?_
    subst hr
    refine thnF h6 fun _ s7 ⟨x, H7, I7, r7, y7, st7, n7⟩ => ?_
    have I7' := I7.pinned (stat I7 n7) (T.obj _ _ st7)
    refine thnF (pg.run _ s7 _ H7 x u _ I7' r7 (step x H7 y7)) fun _ s8 ⟨σ8, H8, I8, hw8, q8⟩ => ?_
    rw [List.forIn_nil]
    refine wpAny_pure ?_
    rw [if_pos rfl]
    refine thnF (pk.run _ s8 σ8 H8 _ I8 q8) fun z s10 ⟨yk, H10, I10, r10, q10⟩ => ?_
    refine thnF (pv.run _ s10 σ8 H10 _ I10 q10) fun z2 s11 ⟨yv, H11, I11, r11, kvs, k, b, ek, eb, hD11, hz11, nx⟩ => ?_
    subst ek
    cases (show z = Value.ref b from r10)
    refine set_dt (X := X.blk s3 H3 scope ce fp) hu I11 hD11 eb hz11 r11 fun s12 I12 => ?_
    obtain ⟨m', hm, w'⟩ := hNx _ nx
    have pin' : ∀ b ∈ fp, ∀ o, s7.heap.get? b = some o → s12.heap.get? b = some o ∧ _ = none := fun b hb o e =>
      let z := I12.pin (b, o) (List.mem_append_right _ (List.mem_append_right _ (mem_pinsAt hb e)))
      ⟨z.1, z.2.1⟩
    have hl : (wipe σ (own.map (·.2))).length = σ8.length := by rw [← hw8, wipe_length]
    refine ⟨m', hm, i + 1, _, (I12.unpinned (pins := [])).weak hl (fun j v e => ?_), T.keep _ _ _ st7 fun b hb o e => (pin' b hb o e).1, fun b hb => ?_, w'⟩
    · rw [← hw8] at e
      exact (wipe_some e).1
    · obtain ⟨o, e, _⟩ := T.obj _ _ st7 b hb
      exact (pin' b hb o e).2
theorem pe_dcT {kx vx tg iter : Expr} {scope : Scope} {own : List (Str × Nat)} {pos : Pos} {wi : TI} {g : TG} {tk tv : TE} (hu : X.A.units + 1 < cLine) (hc : X.calm = true) (hN : X.N.Nodup) (hi : PI X tg iter wi) (ok : BlkOk X.N X.env.scope scope own)
    (hg : ∀ (s : Shared) (H : Hp) (C : Addr) (cl : List (Str × Addr)) (fp : List Addr), PG (X.blk s H scope (compEnvC scope cl C X.env) fp) tg g)
    (hk : ∀ (s : Shared) (H : Hp) (C : Addr) (cl : List (Str × Addr)) (fp : List Addr), PE (X.blk s H scope (compEnvC scope cl C X.env) fp) kx tk)
    (hv : ∀ (s : Shared) (H : Hp) (C : Addr) (cl : List (Str × Addr)) (fp : List Addr), PE (X.blk s H scope (compEnvC scope cl C X.env) fp) vx tv)
    (hs : ∀ x, foldedSetIterable iter X.env x = pure x := by intro _; rfl) :
    PE X (.DictComp kx vx [⟨tg, iter, [], 0⟩] scope pos) (tDcT wi g tk tv (own.map (·.2))) := .mk fun pins s σ H Q I h => by
  rw [arm_eval_DictComp]
  refine dcT_core hu hc hN hi ok hg hk hv hs I h fun D C t m H' J q n f => ⟨m, n, fun h'' sb => ?_⟩
  obtain ⟨f0, f1, f2, f3, f4, f5⟩ := f
  exact ⟨V.ref D, H', J.turned (t' := t.toks) (fun b o hb e => (sb.2 b hb).trans e) f0 f1 f3 f4 f5, rfl, q⟩
theorem dcs_true {kx vx : Expr} {gs : List Comprehension} {scope : Scope} {pos py : Pos} {y : Str} {l : Nat} {env : Env} (hk : env.scope.kind = .function) (hy : env.scope.names.lookup y = some .local) (hl : (py.line == pos.line) = true)
    (ha : (scope.names.any fun (n, k) => n == y && (k == .local || k == .cell)) = false) : swapsWith (.DictComp kx vx gs scope pos) (some (.Name y py)) l env = pure true := by
  have ky : env.kindOf y = some .local := hy
  have hb : env.blockKind = .function := by unfold Env.blockKind; rw [hk]; rfl
  unfold swapsWith
  simp only [hb, ky, ha, Expr.pos, hl]
  rfl
/-- name = {t: v for ..} on one line -/
theorem ps_setDcT {i : Nat} {y : Str} {py spos : Pos} {kx vx tg iter : Expr} {scope : Scope} {own : List (Str × Nat)} {pos : Pos} {wi : TI} {g : TG} {tk tv : TE} (hu : X.A.units + 1 < cLine) (hy : X.N[i]? = some y) (hyl : X.env.scope.names.lookup y = some .local) (hsw : swapsWith (.DictComp kx vx [⟨tg, iter, [], 0⟩] scope pos) (some (.Name y py)) spos.line X.env = pure true) (hc : X.calm = true) (hN : X.N.Nodup) (hi : PI X tg iter wi) (ok : BlkOk X.N X.env.scope scope own)
    (hg : ∀ (s : Shared) (H : Hp) (C : Addr) (cl : List (Str × Addr)) (fp : List Addr), PG (X.blk s H scope (compEnvC scope cl C X.env) fp) tg g)
    (hk : ∀ (s : Shared) (H : Hp) (C : Addr) (cl : List (Str × Addr)) (fp : List Addr), PE (X.blk s H scope (compEnvC scope cl C X.env) fp) kx tk)
    (hv : ∀ (s : Shared) (H : Hp) (C : Addr) (cl : List (Str × Addr)) (fp : List Addr), PE (X.blk s H scope (compEnvC scope cl C X.env) fp) vx tv)
    (hs : ∀ x, foldedSetIterable iter X.env x = pure x := by intro _; rfl) :
    PS X (.Assign [.Name y py] (.DictComp kx vx [⟨tg, iter, [], 0⟩] scope pos) spos) (tAsg (tDcT wi g tk tv (own.map (·.2))) (gName i)) := .mk fun pins s σ H D I h => by
  rw [exec_Assign_Name_used _ _ _ _ hsw]
  refine wpAny_bind (wpAny_standAt (wpAny_bind ?_))
  show wpAny _ X.A (do let _ ← comprehension (.DictComp kx vx [⟨tg, iter, [], 0⟩] scope pos) scope X.env (firstIterPos [⟨tg, iter, [], 0⟩] pos) newDict false (eval iter X.env) (some (assign (.Name y py) X.env))) _ _ s
  have h : tDcT wi g tk tv (own.map (·.2)) σ H (fun x H1 => gName i x σ H1 D.nx) := h
  refine wpAny_bind (thn (dcT_core (Qf := fun _ t => SP X pins D .next t) hu hc hN hi ok hg hk hv hs I h fun L C t m H' J q n f => ?_) fun _ t hq => wpAny_pure (wpAny_pure hq))
  show wpAny _ _ (assign (.Name y py) X.env (.ref L)) _ _ _
  refine wpAny_assign_Name (store_ok2 (v := V.ref L) J hN hy (.inl hyl) rfl (fun s2 I2 ⟨a, sb, ha⟩ => ?_) (.inr hyl))
  obtain ⟨f0, f1, f2, f3, f4, f5⟩ := f
  have ne : C ≠ a := ha.elim (fun z => z ▸ f1) fun z e => f4 y a z e.symm
  exact ⟨m, n.sameBut sb ne, fun h3 sb3 => ⟨_, H', I2.turned (t' := s2.toks) (fun b o hb e => (sb3.2 b hb).trans e) f0 f1 f3 f4 f5, q⟩⟩
end
end SC
namespace SC
open PySem PySem.Spec PyProof.Rows L2 StrLaws

theorem walk_zipT {K : PySem.W.Frag} {a b : Addr} {xs ys : List V} {n : Nat} (hx : n = xs.length) (hy : n = ys.length) : Walk (RZ.ItzT K a b) n (fun H => SqT K H a xs ∧ SqT K H b ys) (YPair (fun i => xs[i]?) fun i => ys[i]?) where
  goes := fun i H hi q => ⟨xs, ys, xs[i]'(by omega), ys[i]'(by omega), q.1, q.2, by simp, by simp⟩
  stops := fun H q => ⟨xs, ys, q.1, q.2, .inl (by omega)⟩
  yields := fun i H x H' hi q y => by
    obtain ⟨T, u, v, h1, h2, h3, h4, h5⟩ := y
    exact ⟨T, u, v, h1, h2, h3, h4 xs q.1, h5 ys q.2⟩
theorem dcT_it {J : It} {n : Nat} {G : Hp → Prop} {Y : Nat → Hp → V → Hp → Prop} (w : Walk J n G Y) {g : TG} {tk tv : TE} {vs : List Nat} {σ : L2.St} {H1 : Hp} {D : Addr} {Qd : Hp → Prop} (Pv : Nat → Hp → Prop) (h0 : Pv 0 (upd H1 D (.dT []))) (hG : ∀ i H, Pv i H → G H)
    (hs : ∀ i x H H', i < n → Pv i H → Y i H x H' → g x (wipe σ vs) H' fun σ2 H2 => wipe σ2 vs = wipe σ vs ∧ tk σ2 H2 fun y H3 => tv σ2 H3 fun z H4 => ∃ kvs k b, y = .ref b ∧ H4 b = some (.tup (k.map kV)) ∧ H4 D = some (.dT kvs) ∧ kvs.length < sizeLine ∧ Pv (i + 1) (upd H4 D (.dT (putK kvs k z))))
    (hd : ∀ H, Pv n H → Qd H) :
    ∃ W : Nat → Nat → Hp → Prop, (∃ m, W 0 m (upd H1 D (.dT []))) ∧ ∀ i m H, W i m H →
      (J.stop i H ∧ Qd H) ∨ (J.go i H ∧ ∃ Nx : Hp → Prop, (∀ H', Nx H' → ∃ m', m' < m ∧ W (i + 1) m' H') ∧ ∀ x H', J.yld i H x H' → g x (wipe σ vs) H' fun σ2 H2 => wipe σ2 vs = wipe σ vs ∧
        tk σ2 H2 fun y H3 => tv σ2 H3 fun z H4 => ∃ kvs k b, y = .ref b ∧ H4 b = some (.tup (k.map kV)) ∧ H4 D = some (.dT kvs) ∧ kvs.length < sizeLine ∧ Nx (upd H4 D (.dT (putK kvs k z)))) := by
  refine ⟨fun i m H => i + m = n ∧ Pv i H, ⟨n, Nat.zero_add n, h0⟩, fun i m H ⟨e, p⟩ => ?_⟩
  cases m with
  | zero =>
    obtain rfl : i = n := by omega
    exact .inl ⟨w.stops H (hG _ _ p), hd H p⟩
  | succ m => exact .inr ⟨w.goes i H (by omega) (hG _ _ p), Pv (i + 1), fun H' p' => ⟨m, by omega, by omega, p'⟩, fun x H' y => hs i x H H' (by omega) p (w.yields i H x H' (by omega) (hG _ _ p) y)⟩
theorem g_dcT {wi : TI} {g : TG} {tk tv : TE} {vs : List Nat} {σ : L2.St} {H : Hp} {Q : VK} (q : wi σ H fun J H1 => ∀ D, H1 D = none → ∃ W : Nat → Nat → Hp → Prop, (∃ m, W 0 m (upd H1 D (.dT []))) ∧ ∀ i m H, W i m H →
  (J.stop i H ∧ Q (.ref D) H) ∨ (J.go i H ∧ ∃ Nx : Hp → Prop, (∀ H', Nx H' → ∃ m', m' < m ∧ W (i + 1) m' H') ∧ ∀ x H', J.yld i H x H' → g x (wipe σ vs) H' fun σ2 H2 => wipe σ2 vs = wipe σ vs ∧
    tk σ2 H2 fun y H3 => tv σ2 H3 fun z H4 => ∃ kvs k b, y = .ref b ∧ H4 b = some (.tup (k.map kV)) ∧ H4 D = some (.dT kvs) ∧ kvs.length < sizeLine ∧ Nx (upd H4 D (.dT (putK kvs k z))))) : tDcT wi g tk tv vs σ H Q := q
theorem g_iZipA {K : PySem.W.Frag} {ta : TA} {σ : L2.St} {H : Hp} {R : It → Hp → Prop} (q : ta σ H fun vs H1 => ∃ a b xs ys, vs = [.ref a, .ref b] ∧ ((SqL K H1 a xs ∧ SqL K H1 b ys ∧ R (Itz K a b) H1) ∨ (SqT K H1 a xs ∧ SqT K H1 b ys ∧ R (RZ.ItzT K a b) H1))) : RZ.iZipA K ta σ H R := q
/-! ## ways, one behind another -/
/-- a way as a key -/
def wKey (w : List Int) : List L2.Key := w.map Sum.inl
theorem wKey_kV (w : List Int) : (wKey w).map kV = w.map V.int := by unfold wKey; rw [List.map_map]; rfl
theorem wKey_inj {a b : List Int} (h : wKey a = wKey b) : a = b := by
  unfold wKey at h
  exact List.map_inj_right (fun _ _ e => Sum.inl.inj e) |>.mp h
theorem lex_pre : ∀ (w : List Int) (x : Int) (a b : List Int), HT.lexLt (w ++ a) (w ++ b) = HT.lexLt a b
  | [], _, _, _ => rfl
  | y :: w, x, a, b => by
    rw [List.cons_append, List.cons_append, HT.lexLt_cons, if_pos rfl]
    exact lex_pre w x a b
/-- each thing's way begins with the way told -/
theorem things_pre : ∀ (t : Th) (w : List Int), ∀ p ∈ t.things w, ∃ r, p.1 = w ++ r := by
  intro t
  induction t using Th.ind with
  | h1 i =>
    intro w p hp
    simp only [Th.things, List.mem_singleton] at hp
    exact ⟨[], by rw [hp]; simp⟩
  | h2 n c ps ih =>
    intro w p hp
    simp only [Th.things, List.mem_cons] at hp
    rcases hp with rfl | hp
    · exact ⟨[], by simp⟩
    · have key : ∀ (qs : List (Int × Th)) (k : Nat), (∀ q ∈ qs, q ∈ ps) → ∀ p ∈ thingsAt qs w k, ∃ r, p.1 = w ++ r := by
        intro qs
        induction qs with
        | nil => intro k _ p hp; simp [thingsAt] at hp
        | cons a r ih2 =>
          intro k hq p hp
          obtain ⟨x, t⟩ := a
          simp only [thingsAt, List.mem_append] at hp
          rcases hp with hp | hp
          · obtain ⟨r', e⟩ := ih (x, t) (hq _ (List.mem_cons_self ..)) _ p hp
            exact ⟨(k : Int) :: r', by rw [e, List.append_assoc]; rfl⟩
          · exact ih2 (k + 1) (fun q hq' => hq q (List.mem_cons_of_mem _ hq')) p hp
      exact key ps 0 (fun q h => h) p hp
theorem thingsAt_pre : ∀ (qs : List (Int × Th)) (w : List Int) (k : Nat), ∀ p ∈ thingsAt qs w k, ∃ (j : Nat) (r : List Int), k ≤ j ∧ p.1 = w ++ (j : Int) :: r
  | [], _, _, p, hp => by simp [thingsAt] at hp
  | (x, t) :: r, w, k, p, hp => by
    simp only [thingsAt, List.mem_append] at hp
    rcases hp with hp | hp
    · obtain ⟨r', e⟩ := things_pre t _ p hp
      exact ⟨k, r', Nat.le_refl _, by rw [e, List.append_assoc]; rfl⟩
    · obtain ⟨j, r', h1, h2⟩ := thingsAt_pre r w (k + 1) p hp
      exact ⟨j, r', by omega, h2⟩
mutual
/-- the ways ascend -/
theorem things_asc : ∀ (t : Th) (w : List Int), (t.things w).Pairwise fun p q => HT.lexLt p.1 q.1 = true
  | .inp i, w => by simp [Th.things]
  | .st n c ps, w => by
    simp only [Th.things]
    refine List.pairwise_cons.mpr ⟨fun p hp => ?_, thingsAt_asc ps w 0⟩
    obtain ⟨j, r, _, e⟩ := thingsAt_pre ps w 0 p hp
    rw [e]
    have := lex_pre w 0 [] ((j : Int) :: r)
    rw [List.append_nil] at this
    rw [this]
    rfl
theorem thingsAt_asc : ∀ (ps : List (Int × Th)) (w : List Int) (k : Nat), (thingsAt ps w k).Pairwise fun p q => HT.lexLt p.1 q.1 = true
  | [], _, _ => by simp [thingsAt]
  | (x, t) :: r, w, k => by
    simp only [thingsAt]
    refine List.pairwise_append.mpr ⟨things_asc t _, thingsAt_asc r w (k + 1), fun p hp q hq => ?_⟩
    obtain ⟨r1, e1⟩ := things_pre t _ p hp
    obtain ⟨j, r2, hj, e2⟩ := thingsAt_pre r w (k + 1) q hq
    rw [e1, e2, List.append_assoc, lex_pre w 0]
    show HT.lexLt ((k : Int) :: r1) ((j : Int) :: r2) = true
    rw [HT.lexLt_cons, if_neg (by omega), decide_eq_true_eq]
    omega
end
theorem sts_asc (t : Th) (w : List Int) : (t.sts w).Pairwise fun p q => HT.lexLt p.1 q.1 = true := (things_asc t w).filter _
theorem lex_irr : ∀ a : List Int, HT.lexLt a a = false
  | [] => rfl
  | x :: a => by rw [HT.lexLt_cons, if_pos rfl]; exact lex_irr a
/-- ways and things, the ways tracked -/
def Strict (K : PySem.W.Frag) (H : Hp) (zs : List V) (l : List (List Int × Th)) : Prop := ∀ (j : Nat) (x : V), zs[j]? = some x → ∃ (w : List Int) (t : Th) (q wa : Addr) (v : V), l[j]? = some (w, t) ∧ x = V.ref q ∧ SqT K H q [.ref wa, v] ∧ H wa = some (.tup (w.map V.int)) ∧ Dp K H v t.toD
theorem Strict.ts {K : PySem.W.Frag} {H H' : Hp} {zs : List V} {l : List (List Int × Th)} (h : Strict K H zs l) (s : TSame H H') : Strict K H' zs l := fun j x e => by
  obtain ⟨w, t, q, wa, v, h1, h2, h3, h4, h5⟩ := h j x e
  exact ⟨w, t, q, wa, v, h1, h2, ts_t s h3, s _ _ h4 rfl, dp_t s (toD_t _) h5⟩
theorem Strict.app {K : PySem.W.Frag} {H : Hp} {zs ys : List V} {l m : List (List Int × Th)} (h : Strict K H zs l) (g : Strict K H ys m) (e : zs.length = l.length) : Strict K H (zs ++ ys) (l ++ m) := fun j x ej => by
  by_cases hj : j < zs.length
  · rw [List.getElem?_append_left hj] at ej
    obtain ⟨w, t, q, wa, v, h1, r⟩ := h j x ej
    exact ⟨w, t, q, wa, v, by rw [List.getElem?_append_left (by omega)]; exact h1, r⟩
  · rw [List.getElem?_append_right (by omega)] at ej
    obtain ⟨w, t, q, wa, v, h1, r⟩ := g _ x ej
    exact ⟨w, t, q, wa, v, by rw [List.getElem?_append_right (by omega), ← e]; exact h1, r⟩
theorem Strict.one {K : PySem.W.Frag} {H : Hp} {q wa : Addr} {v : V} {w : List Int} {t : Th} (h1 : SqT K H q [.ref wa, v]) (h2 : H wa = some (.tup (w.map V.int))) (h3 : Dp K H v t.toD) : Strict K H [.ref q] [(w, t)] := fun j x e => by
  cases j with
  | zero => cases e; exact ⟨w, t, q, wa, v, rfl, rfl, h1, h2, h3⟩
  | succ j => simp at e
/-- t + u, tracked tuples -/
theorem l_catS {K : PySem.W.Frag} {H : Hp} {Q : VK} {a b : Addr} {xs ys : List V} (h1 : H a = some (.tup xs)) (h2 : H b = some (.tup ys)) (hn : ys ≠ []) (hl : xs.length + ys.length ≤ sizeLine)
    (q : ∀ p H', Same H H' → H' p = some (.tup (xs ++ ys)) → Q (.ref p) H') : rCatA K (.ref a) (.ref b) H Q := by
  refine ⟨a, b, xs, ys, rfl, rfl, sq_t h1, sq_t h2, hl, fun e => ?_, fun _ e => absurd e hn, fun _ _ p np => ?_⟩
  · subst e
    exact q b H (Same.refl H) h2
  · exact q p _ (same_new np) upd_same
theorem way_dp {K : PySem.W.Frag} {H : Hp} {wa : Addr} {w : List Int} (h : H wa = some (.tup (w.map V.int))) : Dp K H (.ref wa) (wayD w) := .tup (sq_t h) (dps_ints w)
/-! ## other offsets, told by ways -/
mutual
def Th.setO (f : List Int → Int) : Th → List Int → Th
  | .inp i, _ => .inp i
  | .st n _ ps, w => .st n (f w) (setOAt f ps w 0)
def setOAt (f : List Int → Int) : List (Int × Th) → List Int → Nat → List (Int × Th)
  | [], _, _ => []
  | (x, t) :: r, w, k => (x, t.setO f (w ++ [(k : Int)])) :: setOAt f r w (k + 1)
end
theorem setOAt_app (f : List Int → Int) : ∀ (a b : List (Int × Th)) (w : List Int) (k : Nat), setOAt f (a ++ b) w k = setOAt f a w k ++ setOAt f b w (k + a.length)
  | [], b, w, k => by simp only [List.nil_append, setOAt, List.length_nil, Nat.add_zero]
  | (x, t) :: a, b, w, k => by
    rw [List.cons_append]
    simp only [setOAt, setOAt_app f a b w (k + 1), List.cons_append, List.length_cons]
    rw [Nat.add_assoc k 1, Nat.add_comm 1]
theorem setOAt_take {f : List Int → Int} {ps : List (Int × Th)} {i : Nat} {x : Int} {t : Th} (w : List Int) (h : ps[i]? = some (x, t)) : setOAt f (ps.take (i + 1)) w 0 = setOAt f (ps.take i) w 0 ++ [(x, t.setO f (w ++ [(i : Int)]))] := by
  have hl : (ps.take i).length = i := by
    rw [List.length_take]
    have := (List.getElem?_eq_some_iff.mp h).1
    omega
  rw [take_one h, setOAt_app, hl]
  simp only [setOAt, Nat.zero_add]
theorem setOAt_len (f : List Int → Int) : ∀ (a : List (Int × Th)) (w : List Int) (k : Nat), (setOAt f a w k).length = a.length
  | [], w, k => by simp only [setOAt, List.length_nil]
  | (x, t) :: a, w, k => by simp only [setOAt, List.length_cons, setOAt_len f a]
mutual
theorem setO_eq (f : List Int → Int) : ∀ (t u : Th) (w : List Int), t.bare = u.bare → (∀ p ∈ u.sts w, ∀ c, offOf p = some c → f p.1 = c) → t.setO f w = u
  | .inp i, u, w, e, _ => by
    cases u with
    | inp j => simp only [Th.bare] at e; simp only [Th.setO]; exact e
    | st a b c => simp only [Th.bare] at e; cases e
  | .st n c ps, u, w, e, h => by
    cases u with
    | inp j => simp only [Th.bare] at e; cases e
    | st a b qs =>
      simp only [Th.bare, Th.st.injEq] at e
      rw [sts_st] at h
      simp only [Th.setO, e.1]
      rw [h _ (List.mem_cons_self ..) b rfl, setOL_eq f ps qs w 0 e.2.2 fun p hp => h p (List.mem_cons_of_mem _ hp)]
theorem setOL_eq (f : List Int → Int) : ∀ (ps qs : List (Int × Th)) (w : List Int) (k : Nat), bareL ps = bareL qs → (∀ p ∈ stsAt qs w k, ∀ c, offOf p = some c → f p.1 = c) → setOAt f ps w k = qs
  | [], qs, w, k, e, _ => by
    cases qs with
    | nil => simp only [setOAt]
    | cons a b => obtain ⟨x, t⟩ := a; simp only [bareL] at e; cases e
  | (x, t) :: r, qs, w, k, e, h => by
    cases qs with
    | nil => simp only [bareL] at e; cases e
    | cons a b =>
      obtain ⟨y, u⟩ := a
      simp only [bareL, List.cons.injEq, Prod.mk.injEq] at e
      have hs : ∀ p, p ∈ stsAt ((y, u) :: b) w k ↔ p ∈ u.sts (w ++ [(k : Int)]) ∨ p ∈ stsAt b w (k + 1) := fun p => by
        unfold stsAt Th.sts
        simp only [thingsAt]
        rw [List.filter_append, List.mem_append]
      simp only [setOAt]
      rw [setO_eq f t u _ e.1.2 fun p hp => h p ((hs p).mpr (.inl hp)), setOL_eq f r b w (k + 1) e.2 fun p hp => h p ((hs p).mpr (.inr hp)), e.1.1]
end
mutual
theorem sts_bare : ∀ (t : Th) (w : List Int), (t.sts w).map (·.1) = (t.bare.sts w).map (·.1)
  | .inp i, w => by simp only [Th.bare]
  | .st n c ps, w => by
    simp only [Th.bare]
    rw [sts_st, sts_st, List.map_cons, List.map_cons, stsL_bare ps w 0]
theorem stsL_bare : ∀ (ps : List (Int × Th)) (w : List Int) (k : Nat), (stsAt ps w k).map (·.1) = (stsAt (bareL ps) w k).map (·.1)
  | [], w, k => by simp only [bareL]
  | (x, t) :: r, w, k => by
    have h1 := sts_bare t (w ++ [(k : Int)])
    have h2 := stsL_bare r w (k + 1)
    unfold Th.sts at h1
    unfold stsAt at h2 ⊢
    simp only [bareL, thingsAt]
    rw [List.filter_append, List.filter_append, List.map_append, List.map_append, h1, h2]
end
def offV (p : List Int × Th) : Int := (offOf p).getD 0
theorem sts_offV (t : Th) (w : List Int) : (t.sts w).map offV = t.offs := by
  rw [← sts_offs t w]
  have h : ∀ p ∈ t.sts w, p.2.isSt = true := fun p hp => sts_all hp
  generalize t.sts w = l at h
  induction l with
  | nil => rfl
  | cons a r ih =>
    obtain ⟨v, s⟩ := a
    have h1 := h _ (List.mem_cons_self ..)
    cases s with
    | inp i => cases h1
    | st n c ps =>
      rw [List.map_cons, List.filterMap_cons, ih fun p hp => h p (List.mem_cons_of_mem _ hp)]
      rfl
theorem offV_of {p : List Int × Th} {c : Int} (h : offOf p = some c) : offV p = c := by unfold offV; rw [h]; rfl
theorem g_notV {ta : TE} {σ : L2.St} {H : Hp} {Q : VK} (q : ta σ H fun x H1 => ∃ c, x = V.bl c ∧ Q (.bl (!c)) H1) : tNotV ta σ H Q := q
theorem g_chain {r r' : R2} {ta tb tc : TE} {σ : L2.St} {H : Hp} {Q : VK} (q : ta σ H fun x H1 => tb σ H1 fun y H2 => r x y H2 fun z H3 => ∃ k, z = V.bl k ∧ if k = true then tc σ H3 fun u H4 => r' y u H4 Q else Q (V.bl false) H3) : tChain r r' ta tb tc σ H Q := q
theorem eqv_nilT (ds : List PyData) : PyData.eqv (.tuple ds) (.tuple []) = ds.isEmpty := by
  cases ds with
  | nil => simp only [PyData.eqv, PyData.eqvAll]; rfl
  | cons x xs => simp only [PyData.eqv, PyData.eqvAll]; rfl
theorem wayD_num (w : List Int) : numD (wayD w) = true := by
  simp only [wayD, numD]
  exact num_ints w
theorem wayD_depth (w : List Int) : (wayD w).depth = 1 := by
  rw [wayD, depth_tuple, depth_ints]
/-- way != () -/
theorem l_neTN {K : PySem.W.Frag} {H : Hp} {Q : VK} {wa b : Addr} {w : List Int} (h : Dp K H (.ref wa) (wayD w)) (h2 : H b = some (.tup [])) (q : Q (.bl (!w.isEmpty)) H) : rNeD K (.ref wa) (.ref b) H Q := by
  refine ⟨wayD w, .tuple [], h, .tup (sq_t h2) .nil, num_shaped (wayD_num w) (by rw [wayD_depth]; omega), by decide +kernel, ?_⟩
  rw [wayD, eqv_nilT]
  have e : (w.map PyData.int).isEmpty = w.isEmpty := by cases w <;> rfl
  rw [e]
  exact q
/-- two lists of integers that are alike -/
theorem l_neSame {K : PySem.W.Frag} {H : Hp} {Q : VK} {a b : Addr} {ns : List Int} (h1 : SqL K H a (ns.map V.int)) (h2 : SqL K H b (ns.map V.int)) (q : Q (.bl false) H) : rNeD K (.ref a) (.ref b) H Q := by
  have sh : SeqAt.shaped (.list (ns.map PyData.int)) = true := num_shaped (by simp only [numD]; exact num_ints ns) (by rw [depth_list, depth_ints]; omega)
  refine ⟨_, _, .lst h1 (dps_ints ns), .lst h2 (dps_ints ns), sh, sh, ?_⟩
  rw [SeqAt.eqv_refl _ (num_lay _ (by simp only [numD]; exact num_ints ns))]
  exact q
theorem ts_tab {H H' : Hp} {Pt : Addr} (g : GxR.TabG H Pt) (s : Same (hid [Pt] H) (hid [Pt] H')) : TSame H H' := ts_hid (fun d hd o e => by
  obtain ⟨ps, e2, _⟩ := g
  rw [List.mem_singleton.mp hd, e2] at e
  cases e; rfl) s
theorem same_tab {H H' : Hp} {Pt : Addr} (h : GxR.Tabbed Pt H H') : Same (hid [Pt] H) (hid [Pt] H') := fun a o e => by
  obtain ⟨k1, k2⟩ := hid_get e
  refine hid_put k1 ?_
  rw [h.2 a fun z => k1 (by simp [z])]
  exact k2
theorem tab_same {H H' : Hp} {Pt : Addr} (g : GxR.TabG H Pt) (s : Same H H') : GxR.TabG H' Pt := by
  obtain ⟨ps, e, t⟩ := g
  exact ⟨ps, s _ _ e, t⟩
end SC
namespace SC
open PySem PySem.Spec PyProof.Rows L2 StrLaws

/-! ## the end: the law's def is called, with the tables of code objects, where no display is under way -/
section
variable {P : Program} {w : World} {K : PySem.W.Frag} {mg mb : Str → Option Value} {k : Nat} {fa a : Addr} {cs : List (Addr × Addr)} {fd : FuncData} {x : Str} {sp : Sp} {s : Shared} {vs : List Value} {ns : List Int}
/-- the heap that is tracked at first: the tables, and the script where it is no written object -/
def firstH (cs : List (Addr × Addr)) (own : Bool) (a : Addr) (vs : List Value) (ns : List Int) : Hp := fun b =>
  if b = a ∧ own = true then some (.frz { cls := .type "list", data := .seq vs.toArray } (.lst (ns.map V.int))) else if b ∈ cs.map (·.2) then some (.tbl #[]) else none
theorem firstH_cases {own : Bool} {b : Addr} {u : HO} (h : firstH cs own a vs ns b = some u) : (b = a ∧ own = true ∧ u = .frz { cls := .type "list", data := .seq vs.toArray } (.lst (ns.map V.int))) ∨ (b ∈ cs.map (·.2) ∧ u = .tbl #[]) := by
  unfold firstH at h
  by_cases h1 : b = a ∧ own = true
  · rw [if_pos h1] at h
    exact .inl ⟨h1.1, h1.2, (Option.some.inj h).symm⟩
  · rw [if_neg h1] at h
    by_cases h2 : b ∈ cs.map (·.2)
    · rw [if_pos h2] at h
      exact .inr ⟨h2, (Option.some.inj h).symm⟩
    · rw [if_neg h2] at h; cases h
theorem law_callG (KX : K.In s.heap) (hns : s.heap.Ns mainGlobals mg) (hb : s.heap.Ns builtinsNs mb) (hbb : ∀ x : Str, x ≠ "__name__" → mb x = bootBuiltins x) (hlim : s.heap.NoLimit) (hdg : s.heap.NoDigits) (hg : s.gens = #[])
    (hT : ∀ p ∈ cs, s.heap.get? p.2 = some { cls := .none, data := .fields #[] }) (nT : ∀ p ∈ cs, K.lookup p.2 = none) (C : ∀ p ∈ cs, PySem.W.CodeHd s.heap p.1 p.2)
    (hbm : ∃ (bm : Addr) (ob : Obj), mg "__builtins__" = some (.ref bm) ∧ bm ≠ builtinsNs ∧ s.heap.get? bm = some ob ∧ ob.cls = .type "module" ∧ ob.dict = some builtinsNs ∧ ob.data = .plain)
    (ha : s.heap.get? a = some { cls := .type "list", data := .seq vs.toArray }) (hi : IntsAre vs ns) (hl : ns.length ≤ sizeLine) (hr : Room k callerA)
    (F : ∀ base : Heap, K.In base → base.Ns mainGlobals mg → (∀ p ∈ cs, GxR.TabB base mg p.1 p.2) → base.NoDigits → FnG P w K mg base k fa fd [x] sp) (hbind : ∀ (s : Shared) (u : Value), BindsTo s fd ⟨[u], []⟩ [(x, u)])
    (hsp : ∀ H : Hp, (∀ p ∈ cs, H p.2 = some (.tbl #[])) → SqL K H a (ns.map V.int) → sp [.ref a] H (fun v _ => v = .bl true) E0) :
    codeAny (model P w) callerA (.call (.ref fa) ⟨[.ref a], []⟩) (fun r t => r = .ok (.ret (.bool true)) ∧ OldK s.heap t.heap ∧ t.os = s.os ∧ AllBare t.gens) s := by
  have rv := vals_ints hi
  have ln := hi.length
  have isT : ∀ b, b ∈ cs.map (·.2) → s.heap.get? b = some { cls := .none, data := .fields #[] } := fun b hb => by
    obtain ⟨p, hp, rfl⟩ := List.mem_map.mp hb
    exact hT p hp
  have aT : a ∉ cs.map (·.2) := fun z => by
    have e := (isT a z).symm.trans ha
    exact nomatch congrArg Obj.data (Option.some.inj e)
  obtain ⟨own, hown⟩ : ∃ own, (K.lookup a).isNone = own := ⟨_, rfl⟩
  obtain ⟨H, eH⟩ : ∃ H, firstH cs own a vs ns = H := ⟨_, rfl⟩
  have inH : ∀ {b u}, H b = some u → (b = a ∧ own = true ∧ u = .frz { cls := .type "list", data := .seq vs.toArray } (.lst (ns.map V.int))) ∨ (b ∈ cs.map (·.2) ∧ u = .tbl #[]) := fun {b u} e => firstH_cases (by rw [eH]; exact e)
  have hH : ∀ p ∈ cs, H p.2 = some (.tbl #[]) := fun p hp => by
    have hm : p.2 ∈ cs.map (·.2) := List.mem_map.mpr ⟨p, hp, rfl⟩
    rw [← eH]
    unfold firstH
    rw [if_neg (fun z : p.2 = a ∧ own = true => aT (z.1 ▸ hm)), if_pos hm]
  have hS : SqL K H a (ns.map V.int) := by
    cases hk : K.lookup a with
    | none =>
      rw [hk] at hown
      refine .inl (.inr ⟨{ cls := .type "list", data := .seq vs.toArray }, ?_⟩)
      rw [← eH]
      unfold firstH
      rw [if_pos ⟨rfl, hown.symm⟩]
    | some o =>
      have e := (KX a o hk).symm.trans ha
      cases e
      exact .inr ⟨_, vs.toArray, _, hk, rfl, rfl, rfl, by rw [List.size_toArray, ln]; exact hl, by simpa using rv⟩
  have hok : HOk P w H s.heap := fun b u e => by
    rcases inH e with ⟨rfl, _, rfl⟩ | ⟨hb, rfl⟩
    · exact ⟨ha, by rw [List.length_map]; exact hl, vs, _, rv, ha⟩
    · exact isT b hb
  -- what is no list and no table stands as it did
  have free : ∀ {b o}, s.heap.get? b = some o → (∀ us n, o.data ≠ .seq us n) → o.data ≠ .fields #[] → H b = none := fun {b o} e h1 h2 => by
    cases q : H b with
    | none => rfl
    | some u =>
      rcases inH q with ⟨rfl, _, _⟩ | ⟨hb, _⟩
      · rw [ha] at e; cases e
        exact absurd rfl (h1 _ _)
      · rw [isT b hb] at e; cases e
        exact absurd rfl h2
  have keep : ∀ {b o}, s.heap.get? b = some o → (∀ us n, o.data ≠ .seq us n) → o.data ≠ .fields #[] → (hidT s.heap H).get? b = some o := fun e h1 h2 => hidT_get e (free e h1 h2)
  have nsK : ∀ {b m}, s.heap.Ns b m → (hidT s.heap H).Ns b m := fun {b m} ⟨o, es, ep, e, d, r⟩ => ⟨o, es, ep, keep e (fun us n z => by rw [d] at z; cases z) (fun z => by rw [d] at z; cases z), d, r⟩
  have hKb : K.In (hidT s.heap H) := fun b o e => hidT_get (KX b o e) (by
    cases q : H b with
    | none => rfl
    | some u =>
      rcases inH q with ⟨rfl, h1, _⟩ | ⟨hb, _⟩
      · rw [e, h1] at hown; cases hown
      · obtain ⟨p, hp, rfl⟩ := List.mem_map.mp hb
        rw [nT p hp] at e; cases e)
  have hM : L2.Mod K mg (hidT s.heap H) := ⟨hKb, nsK hns, ⟨mb, nsK hb, hbb⟩, let ⟨mc, h1, h2⟩ := hlim; ⟨mc, nsK h1, h2⟩⟩
  have TB : ∀ p ∈ cs, GxR.TabB (hidT s.heap H) mg p.1 p.2 := fun p hp => by
    have tp := hT p hp
    obtain ⟨og, es, ep, eg, dg, _⟩ := hns
    refine ⟨?_, ?_, fun z => ?_⟩
    · obtain ⟨o, us, file, tf, flags, tg, inF, text, tt, e1, r1, r2, r3, r⟩ := C p hp
      refine ⟨o, us, file, tf, flags, tg, inF, text, tt, keep e1 (fun _ _ z => by rw [r2] at z; cases z) (fun z => ?_), r1, r2, r3, r⟩
      rw [r2] at z
      cases z
      simp at r3
    · obtain ⟨bm, ob, b1, b2, b3, b4, b5, b6⟩ := hbm
      refine ⟨bm, ob, b1, b2, fun z => ?_, fun z => ?_, keep b3 (fun _ _ z => by rw [b6] at z; cases z) (fun z => by rw [b6] at z; cases z), b4, b5, b6⟩
      · rw [z, eg] at b3; cases b3
        rw [dg] at b6; cases b6
      · rw [z, tp] at b3; cases b3
        cases b6
    · rw [z, tp] at eg; cases eg
      cases dg
  have e0 : Env0 P w K mg (hidT s.heap H) callerA [] s H := ⟨rfl, hM, fun b o e => of_hidT e, Nat.le_of_eq (hidT_size _ _), trivial, fun b hb => (nomatch (show b ∈ ([] : List Addr) from hb)), hok, .of_eq hg⟩
  refine codeAny_mono ((F _ hKb (nsK hns) TB (let ⟨mc, h1, h2⟩ := hdg; ⟨mc, nsK h1, h2⟩)).run callerA [] s H ⟨[.ref a], []⟩ [.ref a] [.ref a] _ rfl hr e0 (hbind s (.ref a)) (.cons rfl .nil) (hsp H hH hS)) fun r t h => ?_
  cases r with
  | error e => exact False.elim h
  | ok fl =>
    cases fl with
    | next => exact False.elim h
    | brk => exact False.elim h
    | cont => exact False.elim h
    | ret u =>
      obtain ⟨v, H', os, bare, un, ok', r', rfl⟩ := h
      obtain rfl : u = Value.bool true := r'
      have same : ∀ b o, b ∉ cs.map (·.2) → s.heap.get? b = some o → t.heap.get? b = some o := fun b o nb e => by
        cases q : H b with
        | none => exact un.keep b o e q (fun z => (nomatch (show b ∈ ([] : List Addr) from z))) (by simp)
        | some u =>
          rcases inH q with ⟨rfl, _, rfl⟩ | ⟨hb, _⟩
          · obtain ⟨e2, _⟩ := ok' _ _ (un.frzs _ _ _ q)
            rw [ha] at e; cases e
            exact e2
          · exact absurd hb nb
      have grown : ∀ p ∈ cs, ∃ more : Array Value, t.heap.get? p.2 = some { cls := .none, data := .fields more } := fun p hp => by
        obtain ⟨more, z⟩ := un.tbls p.2 #[] (hH p hp)
        exact ⟨_, ok' _ _ z⟩
      refine ⟨rfl, ⟨fun b o e => ?_, fun b o e => ?_⟩, os, bare⟩
      · by_cases hb : b ∈ cs.map (·.2)
        · obtain ⟨p, hp, rfl⟩ := List.mem_map.mp hb
          obtain ⟨more, hm⟩ := grown p hp
          rw [hT p hp] at e; cases e
          exact .inr (.inl ⟨((C p hp).tab (hT p hp)).isCodeTable, rfl, #[], more, rfl, by rw [Array.empty_append]; exact hm⟩)
        · exact .inl (same b o hb e)
      · by_cases hb : b ∈ cs.map (·.2)
        · obtain ⟨p, hp, rfl⟩ := List.mem_map.mp hb
          exact ⟨_, (grown p hp).choose_spec⟩
        · exact ⟨o, same b o hb e⟩
/-- what is known of the law's promise at the head's heap h -/
def LawAtG (l : PySem.W.OpenLaw) (w : World) (K : PySem.W.Frag) (k n : Nat) (x : Str) (mg : Str → Option Value) (fa : Addr) (h : Heap) : Prop :=
  ∃ (fd : FuncData) (cs : List (Addr × Addr)) (sp : Sp), (∀ p ∈ cs, h.get? p.2 = some { cls := .none, data := .fields #[] }) ∧ (∀ p ∈ cs, K.lookup p.2 = none) ∧ (∀ p ∈ cs, PySem.W.CodeHd h p.1 p.2) ∧ (∀ (s : Shared) (u : Value), BindsTo s fd ⟨[u], []⟩ [(x, u)]) ∧
    (∀ (H : Hp) (a : Addr) (ns : List Int), ns.length ≤ n → (∀ z ∈ ns, Builtin.Int.intBits z ≤ 1048576) → (∀ p ∈ cs, H p.2 = some (.tbl #[])) → SqL K H a (ns.map V.int) → sp [.ref a] H (fun v _ => v = .bl true) E0) ∧
    ∀ base : Heap, K.In base → base.Ns mainGlobals mg → (∀ p ∈ cs, GxR.TabB base mg p.1 p.2) → base.NoDigits → FnG l.prog w K mg base k fa fd [x] sp
theorem walk_ofG {l : PySem.W.OpenLaw} {n k : Nat} {q : Program} {loose : List Str} {XP : (Str → Option Value) → Heap → Prop} {YP : World → Heap → Prop} {d : DefRec} {K : Params → PySem.W.Frag} {x : Str}
    (hn : l.most = some n) (hn2 : n ≤ sizeLine) (hdf : d.params.defaults = []) (hr : Room k callerA) (hY : ∀ (w : World) (h : Heap), YP w h → (K w.params).In h)
    (F : ∀ (w : World) (s₀ : Shared) (mg mb : Str → Option Value) (fa : Addr) (h : Heap), PySem.W.Ground q loose [] XP w s₀ mg mb h → YP w h → (K w.params).In h → mg d.name = some (.ref fa) → LawAtG l w (K w.params) k n x mg fa h) :
    PySem.W.WalkO q loose XP YP l.row.toRowW d [] (fun f vs => PySem.call f vs) :=
  Att.attach_callB hn hdf fun w s₀ s₁ mg mb fa o pm cd doc a vs ns G Y ho hd hcd hmg hobj hints hlen hbits hg => by
    have KX := hY w _ Y
    obtain ⟨fd, cs, sp, hT, nT, C, hb, hsp, hF⟩ := F w s₀ mg mb fa _ G Y KX hmg
    exact law_callG KX G.T.g G.T.b G.T.builtins G.T.nolimit G.T.nodigits hg hT nT C G.T.bmain hobj hints (Nat.le_trans hlen hn2) hr hF hb fun H hH hS => hsp H a ns hlen hbits hH hS
end
/-! ## calls by keywords alone -/
/-- perm tells which keyword's value each parameter gets -/
def gK {α : Type} (n : Nat) (perm : List Nat) : List α → List α → List α
  | [], ws => if ws.length = n then perm.filterMap fun i => ws[i]? else []
  | _ :: _, _ => []
theorem gK_rel {n : Nat} {perm : List Nat} {vs zs : List V} {us ws : List Value} (h1 : Vals vs us) (h2 : Vals zs ws) : Vals (gK n perm vs zs) (gK n perm us ws) := by
  cases h1 with
  | cons _ _ => exact .nil
  | nil =>
    have hl := h2.length
    show Vals (if zs.length = n then perm.filterMap fun i => zs[i]? else []) (if ws.length = n then perm.filterMap fun i => ws[i]? else [])
    by_cases h : ws.length = n
    · rw [if_pos h, if_pos (by omega)]
      clear h
      induction perm with
      | nil => exact .nil
      | cons i r ih =>
        rw [List.filterMap_cons, List.filterMap_cons]
        cases e : zs[i]? with
        | none =>
          have e2 : ws[i]? = none := by
            rw [List.getElem?_eq_none_iff] at e ⊢
            omega
          rw [e2]
          exact ih
        | some v =>
          obtain ⟨u, hu, ru⟩ := h2.get e
          rw [hu]
          exact .cons ru ih
    · rw [if_neg h, if_neg (by omega)]
      exact .nil
theorem g_callK {sp : Sp} {gV : List V → List V → List V} {E : XK} {t tk : TA} {σ : L2.St} {H : Hp} {Q : VK} (q : t σ H fun vs H1 => tk σ H1 fun zs H2 => sp (gV vs zs) H2 Q E) : tCallK sp gV E t tk σ H Q := q
end SC
namespace SC
open PySem PySem.Spec PyProof.Rows L2 StrLaws
theorem _root_.L2.Room.repr {k : Nat} {A : Around} (h : Room k A) : A.units + 70 < cLine := by
  have := h.un
  omega
/-! ## how much there is to show of a plan -/
theorem ndAll_eq : ∀ ds : List PyData, ndAll ds = (ds.map nd).sum
  | [] => by simp only [ndAll, List.map_nil, List.sum_nil]
  | d :: r => by simp only [ndAll, List.map_cons, List.sum_cons, ndAll_eq r]
theorem okAll_mem {ds : List PyData} : okAll ds = true ↔ ∀ d ∈ ds, okD d = true := by
  induction ds with
  | nil => simp [okAll]
  | cons x xs ih => simp only [okAll, Bool.and_eq_true, ih, List.mem_cons, forall_eq_or_imp]
mutual
theorem nd_toD : ∀ t : Th, nd t.toD + 2 ≤ 6 * t.nSt + 3 * t.nIn
  | .inp i => by simp only [Th.toD, nd, Th.nSt, Th.nIn]; omega
  | .st n c ps => by
    have h := nd_toDL ps
    simp only [Th.toD, nd, ndAll, Th.nSt, Th.nIn]
    omega
theorem nd_toDL : ∀ ps : List (Int × Th), ndAll (toDL ps) ≤ 6 * nStL ps + 3 * nInL ps
  | [] => by simp only [toDL, ndAll]; omega
  | (w, t) :: r => by
    have h1 := nd_toD t
    have h2 := nd_toDL r
    simp only [toDL, nd, ndAll, nStL, nInL]
    omega
end
theorem toD_depth : ∀ t : Th, t.toD.depth ≤ 3 * t.dep := Th.ind (fun i => by simp only [Th.toD, PyData.depth, Th.dep]; omega) fun n c ps ih => by
  simp only [Th.toD, Th.dep, depth_tuple, PyData.depthAll, PyData.depth, toDL_eq]
  have h : PyData.depthAll (ps.map fun p => PyData.tuple [.int p.1, p.2.toD]) ≤ 3 * depL ps + 1 := depthAll_le.mpr fun d hd => by
    obtain ⟨p, hp, rfl⟩ := List.mem_map.mp hd
    have h1 := ih p hp
    have h2 := depL_le.mp (Nat.le_refl (depL ps)) p hp
    simp only [depth_tuple, PyData.depthAll, PyData.depth]
    omega
  omega
theorem small30 {i : Int} (h : i.natAbs ≤ 10 ^ 30) : okD (.int i) = true := by
  simp only [okD, decide_eq_true_eq]
  exact Nat.lt_of_le_of_lt h (by decide +kernel)
theorem small24 {i : Int} (h0 : 0 ≤ i) (h1 : i < 1000) : okD (.int i) = true := small30 (by
  have : (1000 : Nat) ≤ 10 ^ 30 := by decide +kernel
  omega)
theorem nat30 {i : Int} (h0 : 0 ≤ i) (h : i ≤ 10 ^ 30) : i.natAbs ≤ 10 ^ 30 := by
  have h2 : (10 : Int) ^ 30 = ((10 ^ 30 : Nat) : Int) := by decide +kernel
  rw [h2] at h
  omega
mutual
theorem ok_toD : ∀ t : Th, t.good → (∀ i ∈ t.ins, 0 ≤ i ∧ i < 1000) → okD t.toD = true
  | .inp i, _, h => by
    simp only [Th.toD]
    exact small24 (h i (by simp [Th.ins])).1 (h i (by simp [Th.ins])).2
  | .st n c ps, g, h => by
    simp only [Th.good] at g
    simp only [Th.ins] at h
    have h1 := ok_toDL ps g.2 (fun p hp => g.1.ws.nz p.1 (List.mem_map.mpr ⟨p, hp, rfl⟩) |>.2) h
    have n2 := small30 (nat30 (by have := g.1.n1; omega) g.1.n2)
    have c2 := small30 (nat30 g.1.c0 (by have := g.1.c1; have := g.1.n2; omega))
    simp only [Th.toD, okD, okAll, Bool.and_true, Bool.and_eq_true] at n2 c2 ⊢
    exact ⟨n2, c2, h1⟩
theorem ok_toDL : ∀ ps : List (Int × Th), goodL ps → (∀ p ∈ ps, p.1.natAbs ≤ 10 ^ 30) → (∀ i ∈ insL ps, 0 ≤ i ∧ i < 1000) → okAll (toDL ps) = true
  | [], _, _, _ => by simp only [toDL, okAll]
  | (w, t) :: r, g, hw, h => by
    simp only [goodL] at g
    simp only [insL, List.mem_append] at h
    have h1 := ok_toD t g.1 fun i hi => h i (.inl hi)
    have h2 := ok_toDL r g.2 (fun p hp => hw p (List.mem_cons_of_mem _ hp)) fun i hi => h i (.inr hi)
    have h3 := small30 (hw _ (List.mem_cons_self ..))
    simp only [toDL, okAll, okD, Bool.and_true, Bool.and_eq_true] at h3 ⊢
    exact ⟨⟨h3, h1⟩, h2⟩
end
theorem IsPlan.ins24 {t : Th} (h : IsPlan t) : ∀ i ∈ t.ins, 0 ≤ i ∧ i < 24 := fun i hi => by
  have := h.perm.mem_iff.mp hi
  unfold rngI at this
  obtain ⟨j, hj, rfl⟩ := List.mem_map.mp this
  have := List.mem_range.mp hj
  have := h.inp
  exact ⟨Int.natCast_nonneg j, by show (j : Int) < 24; omega⟩
theorem IsPlan.okD {t : Th} (h : IsPlan t) : okD t.toD = true := ok_toD t h.good fun i hi => ⟨(h.ins24 i hi).1, by have := (h.ins24 i hi).2; omega⟩
theorem IsPlan.nd {t : Th} (h : IsPlan t) : nd t.toD ≤ 200 := by
  have := nd_toD t
  have := h.many
  have := h.inp
  omega
theorem IsPlan.depth {t : Th} (h : IsPlan t) : t.toD.depth ≤ 24 := by
  have := toD_depth t
  have := h.deep
  omega
theorem IsPlan.shows {t : Th} (h : IsPlan t) : Shows t.toD := ⟨h.okD, by have := h.nd; omega, by have := h.depth; omega⟩
/-- [t, u] -/
theorem shows_two {t u : Th} (h : IsPlan t) (g : IsPlan u) : Shows (.list [t.toD, u.toD]) := by
  have h1 := h.nd
  have h2 := g.nd
  have h3 := h.depth
  have h4 := g.depth
  refine ⟨?_, ?_, ?_⟩
  · simp only [SC.okD, okAll, h.okD, g.okD, Bool.and_true]
  · simp only [SC.nd, ndAll]; omega
  · simp only [depth_list, PyData.depthAll]; omega
/-! ways are short, of small numbers -/
mutual
theorem things_small : ∀ (t : Th) (w : List Int), t.full = true → t.nIn ≤ 900 → ∀ p ∈ t.things w, ∀ i ∈ p.1, i ∈ w ∨ (0 ≤ i ∧ i < 1000)
  | .inp i, w, _, _, p, hp => by
    simp only [Th.things, List.mem_singleton] at hp
    rw [hp]
    exact fun i hi => .inl hi
  | .st n c ps, w, hf, hn, p, hp => by
    simp only [Th.full, Bool.and_eq_true] at hf
    simp only [Th.nIn] at hn
    simp only [Th.things, List.mem_cons] at hp
    rcases hp with rfl | hp
    · exact fun i hi => .inl hi
    · exact thingsAt_small ps w 0 hf.2 hn (by have := len_le_nIn hf.2; omega) p hp
theorem thingsAt_small : ∀ (ps : List (Int × Th)) (w : List Int) (k : Nat), fullL ps = true → nInL ps ≤ 900 → k + ps.length ≤ 1000 → ∀ p ∈ thingsAt ps w k, ∀ i ∈ p.1, i ∈ w ∨ (0 ≤ i ∧ i < 1000)
  | [], _, _, _, _, _, p, hp => by simp [thingsAt] at hp
  | (x, t) :: r, w, k, hf, hn, hk, p, hp => by
    simp only [fullL, Bool.and_eq_true] at hf
    simp only [nInL] at hn
    rw [List.length_cons] at hk
    simp only [thingsAt, List.mem_append] at hp
    intro i hi
    rcases hp with hp | hp
    · rcases things_small t _ hf.1 (by omega) p hp i hi with h | h
      · rcases List.mem_append.mp h with h | h
        · exact .inl h
        · rw [List.mem_singleton.mp h]
          exact .inr ⟨Int.natCast_nonneg k, by omega⟩
      · exact .inr h
    · exact thingsAt_small r w (k + 1) hf.2 (by omega) (by omega) p hp i hi
end
mutual
theorem things_short : ∀ (t : Th) (w : List Int), ∀ p ∈ t.things w, p.1.length ≤ w.length + t.dep
  | .inp i, w, p, hp => by
    simp only [Th.things, List.mem_singleton] at hp
    rw [hp]; exact Nat.le_add_right _ _
  | .st n c ps, w, p, hp => by
    simp only [Th.things, List.mem_cons] at hp
    rcases hp with rfl | hp
    · exact Nat.le_add_right _ _
    · have := thingsAt_short ps w 0 p hp
      simp only [Th.dep]
      omega
theorem thingsAt_short : ∀ (ps : List (Int × Th)) (w : List Int) (k : Nat), ∀ p ∈ thingsAt ps w k, p.1.length ≤ w.length + depL ps + 1
  | [], _, _, p, hp => by simp [thingsAt] at hp
  | (x, t) :: r, w, k, p, hp => by
    simp only [thingsAt, List.mem_append] at hp
    simp only [depL]
    rcases hp with hp | hp
    · have := things_short t _ p hp
      rw [List.length_append, List.length_singleton] at this
      omega
    · have := thingsAt_short r w (k + 1) p hp
      omega
end
theorem nd_ints : ∀ ns : List Int, ndAll (ns.map PyData.int) = ns.length
  | [] => by simp only [List.map_nil, ndAll, List.length_nil]
  | n :: r => by simp only [List.map_cons, ndAll, SC.nd, nd_ints r, List.length_cons]; omega
theorem sum_le {α : Type} {l : List α} {f : α → Nat} {m : Nat} (h : ∀ x ∈ l, f x ≤ m) : (l.map f).sum ≤ m * l.length := by
  induction l with
  | nil => simp
  | cons a r ih =>
    have h1 := h a (List.mem_cons_self ..)
    have h2 := ih fun x hx => h x (List.mem_cons_of_mem _ hx)
    rw [List.map_cons, List.sum_cons, List.length_cons, Nat.mul_succ]
    omega
end SC
namespace SC
open PySem PySem.Spec PyProof.Rows L2 StrLaws
/-! ## t * n, n at least 1 -/
theorem mul_one_t (l : Addr) (items : Array Value) (n : Nat) (dd : Option Addr) (sl : Array (Option Value)) (u : Tok) :
    Meets (Builtin.«tuple.__mul__» ⟨[.ref l, .int 1 u], []⟩) (fun _ R s => s.heap.get? l = some { cls := .type "tuple", dict := dd, data := .seq items n, slots := sl } ∧ R (.ok (.ret (Value.ref l))) s) :=
  .of_wp fun prog w A R s h => by
    obtain ⟨hp, g, d, tk, os⟩ := s
    obtain ⟨hl, h⟩ := h
    have f1 := AutoSeq1.idx_int
    wp_walk using wpAny_loadPart' hl
    exact ⟨_, rfl, h⟩
/-- (v,) * n -/
def rRepT1 (K : PySem.W.Frag) : R2 := fun x y H Q => ∃ (a : Addr) (v : V) (n : Nat), x = .ref a ∧ y = .int (n : Nat) ∧ SqT K H a [v] ∧ 1 ≤ n ∧ n ≤ 1000 ∧ ∀ p H', Same H H' → SqT K H' p (List.replicate n v) → Q (.ref p) H'
theorem op_repT1 {X : Cx} : OpR X (binaryOp .Mult) (rRepT1 X.K) := fun pins s σ H x y v u Q I rx ry h => by
  obtain ⟨a, z, n, rfl, rfl, ha, h1, h2, q⟩ := h
  by_cases e : n = 1
  · subst e
    cases rx
    obtain ⟨t, rfl⟩ := ry
    obtain ⟨its, r, ⟨⟨cls, dd, data, sl⟩, ho, hc, m, hd⟩, hs⟩ := I.tuple ha
    obtain rfl : cls = _ := hc
    obtain rfl : data = _ := hd
    refine wpAny_binaryOp_repeat_ref (T := "tuple") (U := "int") (by decide) ⟨_, ho, rfl⟩ (fun s' => typeIs_int s' _ t) noFill_tuple_mul F.fills_int_mul F.slot_int_rmul repeat_tuple F.slot_int_index.lookup
      (call_meets F.slot_int_rmul (typeIs_int s _ t) F.entry_int_rmul (F.args_int_rmul_2 _ _) (int_rmul_tuple _ t a its.toArray m dd sl)
        ⟨ho, rfl, ⟨_, ho, rfl⟩, call_meets F.slot_tuple_mul ⟨_, ho, rfl⟩ F.entry_tuple_mul (F.args_tuple_mul_2 _ _) (mul_one_t a its.toArray m dd sl t) ⟨ho, ?_⟩⟩)
    exact ⟨.ref a, H, I, rfl, q a H (Same.refl H) ha⟩
  · refine op_repT pins s σ H (.ref a) (.int (n : Nat)) v u Q I rx ry ⟨a, n, [z], rfl, rfl, ha, by simp, by omega, by omega, by simp, fun p np => ?_⟩
    rw [Int.toNat_natCast, flat_rep]
    exact q p _ (same_new np) (sq_t upd_same)
/-! ## what is told of plans is shown -/
mutual
theorem offs_small : ∀ t : Th, t.good → ∀ c ∈ t.offs, 0 ≤ c ∧ c ≤ 10 ^ 30
  | .inp i, _, c, hc => by simp [Th.offs] at hc
  | .st n d ps, g, c, hc => by
    simp only [Th.good] at g
    simp only [Th.offs, List.mem_cons] at hc
    rcases hc with rfl | hc
    · exact ⟨g.1.c0, by have := g.1.c1; have := g.1.n2; omega⟩
    · exact offsL_small ps g.2 c hc
theorem offsL_small : ∀ ps : List (Int × Th), goodL ps → ∀ c ∈ offsL ps, 0 ≤ c ∧ c ≤ 10 ^ 30
  | [], _, c, hc => by simp [offsL] at hc
  | (w, t) :: r, g, c, hc => by
    simp only [goodL] at g
    simp only [offsL, List.mem_append] at hc
    rcases hc with hc | hc
    · exact offs_small t g.1 c hc
    · exact offsL_small r g.2 c hc
end
def waysD (t : Th) : PyData := .tuple ((t.sts []).map fun p => wayD p.1)
def offsD (t : Th) : PyData := .tuple (t.offs.map PyData.int)
/-- what is told of t, and t with the offsets of u -/
def seenD (t u : Th) : PyData := .list [waysD t, .int (t.nIn : Nat), offsD t, u.toD]
theorem offsD_ok {t : Th} (h : IsPlan t) : okD (offsD t) = true ∧ nd (offsD t) ≤ 13 ∧ (offsD t).depth = 1 := by
  refine ⟨?_, ?_, ?_⟩
  · simp only [offsD, okD]
    refine okAll_mem.mpr fun d hd => ?_
    obtain ⟨c, hc, rfl⟩ := List.mem_map.mp hd
    have := offs_small t h.good c hc
    exact small30 (nat30 this.1 this.2)
  · simp only [offsD, nd, nd_ints, offs_len]
    have := h.many
    omega
  · rw [offsD, depth_tuple, depth_ints]
theorem way_ok {t : Th} (h : IsPlan t) {p : List Int × Th} (hp : p ∈ t.sts []) : okD (wayD p.1) = true ∧ nd (wayD p.1) ≤ 9 := by
  have hm := (List.mem_filter.mp hp).1
  refine ⟨?_, ?_⟩
  · simp only [wayD, okD]
    refine okAll_mem.mpr fun d hd => ?_
    obtain ⟨i, hi, rfl⟩ := List.mem_map.mp hd
    rcases things_small t [] h.full (by have := h.inp; omega) p hm i hi with z | z
    · cases z
    · exact small24 z.1 z.2
  · simp only [wayD, nd, nd_ints]
    have h1 := things_short t [] p hm
    have h2 := h.deep
    simp only [List.length_nil] at h1
    omega
theorem waysD_ok {t : Th} (h : IsPlan t) : okD (waysD t) = true ∧ nd (waysD t) ≤ 109 ∧ (waysD t).depth ≤ 2 := by
  refine ⟨?_, ?_, ?_⟩
  · simp only [waysD, okD]
    refine okAll_mem.mpr fun d hd => ?_
    obtain ⟨p, hp, rfl⟩ := List.mem_map.mp hd
    exact (way_ok h hp).1
  · simp only [waysD, nd, ndAll_eq, List.map_map]
    have := sum_le (l := t.sts []) (f := nd ∘ fun p => wayD p.1) (m := 9) fun p hp => (way_ok h hp).2
    rw [sts_len] at this
    have := h.many
    omega
  · rw [waysD, depth_tuple]
    have : PyData.depthAll ((t.sts []).map fun p => wayD p.1) ≤ 1 := depthAll_le.mpr fun d hd => by
      obtain ⟨p, _, rfl⟩ := List.mem_map.mp hd
      rw [wayD_depth]; omega
    omega
theorem seenD_shows {t u : Th} (h : IsPlan t) (g : IsPlan u) : Shows (seenD t u) := by
  obtain ⟨a1, a2, a3⟩ := waysD_ok h
  obtain ⟨b1, b2, b3⟩ := offsD_ok h
  have c1 := g.okD
  have c2 := g.nd
  have c3 := g.depth
  have d1 : okD (.int (t.nIn : Nat)) = true := small24 (Int.natCast_nonneg _) (by have := h.inp; omega)
  refine ⟨?_, ?_, ?_⟩
  · simp only [seenD, okD, okAll, a1, b1, c1, Bool.and_true, Bool.true_and] at d1 ⊢
    exact d1
  · simp only [seenD, nd, ndAll]; omega
  · simp only [seenD, depth_list, PyData.depthAll, PyData.depth]; omega
theorem offsD_shows {t : Th} (h : IsPlan t) : Shows (offsD t) := by
  obtain ⟨b1, b2, b3⟩ := offsD_ok h
  exact ⟨b1, by omega, by omega⟩
end SC
/-! ## sorted of a tuple -/
namespace WtL
open PySem PySem.W PyProof.Rows Srt SrtO
section
variable {prog : Program} {w : World} {A : Around} {E : Value → Shared → Prop} {s : Shared}
theorem collect_tuple {l : Addr} {vs : List Value} {Q : List Value → Shared → Prop} (hl : s.heap.IsTuple l vs.toArray)
    (h : Q vs { s with heap := (s.heap.push (seqObj "list" #[] 0)).update s.heap.objs.size (Obj.mapSeq (· ++ vs.toArray)) }) (hsz : vs.length ≤ sizeLine) :
    wpAny (model prog w) A (collect (.ref l)) Q E s := by
  obtain ⟨o, ho, hc, n, hd⟩ := id hl
  unfold collect
  refine wpAny_bind (wpAny_runValue (codeAny_builtin entry_proto_collect' ?_))
  show wpAny _ _ (do again (.builtin "list.__iadd__" ⟨[← newList [], .ref l], []⟩)) _ _ s
  refine wpAny_bind (wpAny_newList (wpAny_pure ⟨Code.quiet_builtin _ (by decide +kernel), codeAny_builtin entry_list_iadd' ?_⟩))
  show wpAny _ _ (Builtin.List.listExtendWith (.ref s.heap.objs.size) (.ref l) (.ref s.heap.objs.size)) _ _ { s with heap := s.heap.push (seqObj "list" #[] 0) }
  unfold Builtin.List.listExtendWith
  have ho' : (s.heap.push (seqObj "list" #[] 0)).get? l = some o := Heap.get?_push_of_some _ ho
  refine wpAny_bind (wpAny_typeOf (T := "tuple") ⟨o, ho', hc⟩ ?_)
  rw [if_pos (by rw [show (Value.type "tuple" == Value.type "tuple") = true from rfl]; simp)]
  refine wpAny_bind (listItems_at ho' hd ?_)
  refine wpAny_bind (listItems_at (xs := #[]) (n := 0) (Heap.get?_push_size _ rfl) rfl ?_)
  rw [if_neg (by simp)]
  refine wpAny_bind (listUpdate_at (xs := #[]) (n := 0) (Heap.get?_push_size _ rfl) rfl ?_ (Nat.zero_le _) (by show (#[] ++ vs.toArray).size ≤ sizeLine + 1; simp only [Array.size_append, List.size_toArray, List.length_nil]; omega))
  refine wpAny_pure ?_
  show wpAny (model prog w) A (do
      let o ← load s.heap.objs.size
      match o.data with
      | .seq xs _ => pure xs.toList
      | _ => unsupported "internal:collect") Q E { s with heap := (s.heap.push (seqObj "list" #[] 0)).update s.heap.objs.size (Obj.mapSeq (· ++ vs.toArray)) }
  refine wpAny_bind (wpAny_load (get?_update_seq (Heap.get?_push_size _ rfl) _) ?_)
  show wpAny _ _ (pure ((#[] : Array Value) ++ vs.toArray).toList) Q E _
  rw [show ((#[] : Array Value) ++ vs.toArray).toList = vs by simp]
  exact wpAny_pure h
/-- sorted(t), t a tuple -/
theorem sorted_ordT {l : Addr} {vs : List Value} {ltv : Value → Value → Bool} {Q : Value → Shared → Prop} (O : Swo ltv) (hl : s.heap.IsTuple l vs.toArray) (hz : vs.length ≤ sizeLine)
    (hS : 2 ≤ vs.length → ∀ (h₁ : Heap) (a : Addr), h₁.get? a = some (seqObj "list" vs.toArray 0) → (∀ b o, s.heap.get? b = some o → b ≠ a ∧ h₁.get? b = some o) → SortableO prog w A.in1.in1 { s with heap := h₁ } a vs ltv)
    (h : ∀ out : List Value, Srtd ltv out → Stb ltv out vs → Q (.ref (s.heap.objs.size + 1)) { s with heap := sortedAll s.heap vs out.toArray }) :
    wpAny (model prog w) A (call (.builtin "sorted") [.ref l]) Q E s := by
  refine Calls.call_function_entry kind_sorted plain_sorted entry_sorted (args_sorted1 _) ?_
  unfold Builtin.«sorted»
  refine wpAny_bind (m := checkCount "sorted" 1 1 _) (wpAny_pure ?_)
  refine wpAny_bind (collect_tuple hl ?_ hz)
  refine wpAny_bind (wpAny_newList ?_ hz)
  have hsz : ((s.heap.push (seqObj "list" #[] 0)).update s.heap.objs.size (Obj.mapSeq (· ++ vs.toArray))).objs.size = s.heap.objs.size + 1 := by
    rw [Heap.size_update, size_push']
  have hoL : (((s.heap.push (seqObj "list" #[] 0)).update s.heap.objs.size (Obj.mapSeq (· ++ vs.toArray))).push (seqObj "list" vs.toArray 0)).get? (s.heap.objs.size + 1) = some (seqObj "list" vs.toArray 0) := by
    rw [← hsz]; exact Heap.get?_push_size _ rfl
  have keep : ∀ b o, s.heap.get? b = some o → b ≠ s.heap.objs.size + 1 ∧ (((s.heap.push (seqObj "list" #[] 0)).update s.heap.objs.size (Obj.mapSeq (· ++ vs.toArray))).push (seqObj "list" vs.toArray 0)).get? b = some o := fun b o q => by
    have hlt : b < s.heap.objs.size := Heap.lt_size q
    refine ⟨Nat.ne_of_lt (Nat.lt_succ_of_lt hlt), Heap.get?_push_of_some _ ?_⟩
    rw [Heap.get?_update_ne _ _ _ _ (Nat.ne_of_lt hlt)]
    exact Heap.get?_push_of_some _ q
  show wpAny _ _ _ _ _ { s with heap := ((s.heap.push (seqObj "list" #[] 0)).update s.heap.objs.size (Obj.mapSeq (· ++ vs.toArray))).push (seqObj "list" vs.toArray 0) }
  rw [hsz]
  refine wpAny_bind (wpAny_holding (wpAny_call_entry slot_list_sort ⟨_, hoL, rfl⟩ entry_list_sort (list_sort_ord O hoL hz (fun h2 => hS h2 _ _ hoL keep) fun out hs hb => ⟨_, rfl, ?_⟩) (args_list_sort _)))
  exact wpAny_pure ⟨_, rfl, h out hs hb⟩
end
/-! ### tuples of integers -/
def IsWt (h : Heap) (v : Value) (ns : List Int) : Prop := ∃ (a : Addr) (its : List Value), v = .ref a ∧ h.IsTuple a its.toArray ∧ IntsAre its ns
theorem IsWt.keeps {h h' : Heap} {v : Value} {ns : List Int} (x : IsWt h v ns) (k : ∀ b o, h.get? b = some o → h'.get? b = some o) : IsWt h' v ns := by
  obtain ⟨a, its, e, ⟨o, g, r⟩, i⟩ := x
  exact ⟨a, its, e, ⟨o, k _ _ g, r⟩, i⟩
theorem ints_one : ∀ {vs : List Value} {ns ms : List Int}, IntsAre vs ns → IntsAre vs ms → ns = ms
  | _, _, _, .nil, .nil => rfl
  | _, _, _, .cons n t r, .cons _ _ r' => congrArg (n :: ·) (ints_one r r')
theorem IsWt.one {h : Heap} {v : Value} {ns ms : List Int} (x : IsWt h v ns) (y : IsWt h v ms) : ns = ms := by
  obtain ⟨a, its, rfl, ⟨o, g, _, n, d⟩, i⟩ := x
  obtain ⟨b, its', e, ⟨o', g', _, n', d'⟩, i'⟩ := y
  cases e
  rw [g] at g'
  cases g'
  rw [d] at d'
  have e : its.toArray = its'.toArray := by injection d'
  have e2 : its = its' := by simpa using congrArg Array.toList e
  subst e2
  exact ints_one i i'
open Classical in
noncomputable def kf (h : Heap) (v : Value) : List Int := if e : ∃ ns, IsWt h v ns then e.choose else []
theorem kf_eq {h : Heap} {v : Value} {ns : List Int} (x : IsWt h v ns) : kf h v = ns := by
  unfold kf
  rw [dif_pos ⟨ns, x⟩]
  exact (Exists.choose_spec (p := fun ms => IsWt h v ms) ⟨ns, x⟩).one x
section
variable {M : Model} {prog : Program} {w : World} {A : Around} {E : Value → Shared → Prop} {s : Shared}
theorem wt_type {v : Value} {ns : List Int} (x : IsWt s.heap v ns) : Looks M s.heap (typeOf v) (.type "tuple") := by
  obtain ⟨a, its, rfl, ⟨o, g, c, r⟩, i⟩ := x
  have z : Looks M s.heap (typeOf (.ref a)) o.cls := (Looks.ld g).andThen .now
  rw [c] at z
  exact z
theorem wt_first {v : Value} {ns : List Int} {Q : Option Value → Shared → Prop} (x : IsWt s.heap v ns) (h : ∀ r, (ns = [] → r = none) → Q r s) : wpAny M A (firstOfTuple' v) Q E s := by
  have ty := wt_type (M := M) x
  obtain ⟨a, its, rfl, ⟨o, g, c, n, d⟩, i⟩ := x
  rw [kas_first_eq]
  refine wpAny_bind (ty.here ?_)
  rw [if_neg (by first | decide | simp)]
  refine wpAny_bind (listItems_at g d (wpAny_pure (h _ fun e => ?_)))
  subst e
  cases i
  rfl
theorem wt_firsts : ∀ (vs : List Value) {Q : List (Option Value) → Shared → Prop}, (∀ v ∈ vs, ∃ ns, IsWt s.heap v ns) → (∀ bs, Q bs s) → wpAny M A (vs.mapM firstOfTuple') Q E s
  | [], _, _, h => by rw [List.mapM_nil]; exact wpAny_pure (h _)
  | v :: vs, Q, hv, h => by
    rw [List.mapM_cons]
    obtain ⟨ns, x⟩ := hv v List.mem_cons_self
    refine wpAny_bind (wt_first x fun r _ => ?_)
    exact wpAny_bind (wt_firsts vs (Q := fun bs s' => wpAny M A (pure (r :: bs)) Q E s') (fun u hu => hv u (List.mem_cons_of_mem _ hu)) fun bs => wpAny_pure (h _))
theorem wt_kind {v0 : Value} {rest : List Value} {Q : SortKind → Shared → Prop} (h0 : IsWt s.heap v0 []) (hv : ∀ v ∈ v0 :: rest, ∃ ns, IsWt s.heap v ns) (hq : Q oneType' s) : wpAny M A (keyKind' (v0 :: rest).toArray) Q E s := by
  rw [keyKind'_eq, List.mapM_toArray, map_eq_pure_bind, List.mapM_cons]
  refine wpAny_bind (wpAny_bind (wpAny_bind (wt_first h0 fun r hr => ?_)))
  rw [hr rfl]
  refine wpAny_bind (wt_firsts rest (fun u hu => hv u (List.mem_cons_of_mem _ hu)) fun bs => wpAny_pure (wpAny_pure ?_))
  rw [if_neg (by simp), if_neg (by simp)]
  rw [oneTypeOnly'_eq, List.mapM_toArray, map_eq_pure_bind]
  refine wpAny_bind (wpAny_bind (wpAny_bind (kas_mapM (r := Value.type "tuple") _ (fun v hm Q' hq' => ?_) (wpAny_pure ?_))))
  · obtain ⟨ns, x⟩ := hv v hm
    exact (wt_type x).here hq'
  · have hall : ((List.map (fun _ => Value.type "tuple") (v0 :: rest)).toArray.all fun x => x == Value.type "tuple") = true := by
      simp only [List.all_toArray, List.all_map, List.all_eq_true]
      intro _ _
      rfl
    have e0 : (List.map (fun _ => Value.type "tuple") (v0 :: rest)).toArray[0]? = some (Value.type "tuple") := by simp
    rw [e0]
    simp only [hall, if_true]
    exact wpAny_pure (wpAny_pure hq)
theorem wt_lt {v u : Value} {ns ms : List Int} {Q : Bool → Shared → Prop} (hu : A.units < cLine) (hv : IsWt s.heap v ns) (hw : IsWt s.heap u ms) (h : Q (HT.lexLt ns ms) s) : wpAny (model prog w) A (keyLt' oneType' v u) Q E s := by
  obtain ⟨a, its, rfl, ⟨⟨cls, dd, data, sl⟩, ho, hc, n, hd⟩, hi⟩ := hv
  obtain ⟨b, its2, rfl, ⟨⟨cls2, dd2, data2, sl2⟩, ho2, hc2, n2, hd2⟩, hj⟩ := hw
  simp only at hc hd hc2 hd2
  subst hc hd hc2 hd2
  rw [keyLt'_oneType, oneLt'_eq]
  simp only [if_true]
  refine wpAny_bind (wpAny_cRoomFor hu ?_)
  refine wpAny_bind (wpAny_callSpecialIfBound?_slot (T := "tuple") ⟨_, ho, rfl⟩ PySem.F.slot_tuple_lt (call_meets PySem.F.slot_tuple_lt ⟨_, ho, rfl⟩ PySem.F.entry_tuple_lt (PySem.F.args_tuple_lt_2 _ _)
    (HT.tuple_lt_ints a b its.toArray its2.toArray n n2 dd dd2 sl sl2 ns ms (by simpa using hi) (by simpa using hj)) ⟨ho, ho2, ?_⟩))
  exact wpAny_truthy_bool h
theorem wt_sortable {a : Addr} {v0 : Value} {rest : List Value} {h₀ : Heap} (hu : A.units < cLine) (kk : ∀ b o, h₀.get? b = some o → b ≠ a ∧ s.heap.get? b = some o) (h0 : IsWt h₀ v0 []) (hv : ∀ v ∈ v0 :: rest, IsWt h₀ v (kf h₀ v)) :
    SortableO prog w A s a (v0 :: rest) fun v u => HT.lexLt (kf h₀ v) (kf h₀ u) := by
  intro h' keep
  have k2 : ∀ b o, h₀.get? b = some o → h'.get? b = some o := fun b o e => keep b o (kk b o e).1 (kk b o e).2
  refine ⟨oneType', fun Q E hq => wt_kind (s := { s with heap := h' }) (h0.keeps k2) (fun v hm => ⟨_, (hv v hm).keeps k2⟩) hq, fun p q hp hq => ?_⟩
  exact wt_lt (s := { s with heap := h' }) (Q := fun r s' => s' = { s with heap := h' } ∧ r = HT.lexLt (kf h₀ p.1) (kf h₀ q.1)) (E := fun _ _ => False) hu ((hv _ hp).keeps k2) ((hv _ hq).keeps k2) ⟨rfl, rfl⟩
end
end WtL
namespace SC
open PySem PySem.Spec PyProof.Rows L2 StrLaws
/-- the values of such tuples -/
theorem wts_of {X : Cx} {pins : List (Addr × Obj)} {σ : List (Option V)} {H : Hp} {s : Shared} (I : Inv X pins σ H s) : ∀ {zs : List V} {l : List (List Int)} {its : List Value}, DpAll X.K H zs (l.map wayD) → Vals zs its → (∀ v ∈ its, ∃ ns, WtL.IsWt s.heap v ns) ∧ its.map (WtL.kf s.heap) = l
  | _, [], _, d, r => by
    cases d
    cases r
    exact ⟨fun v h => absurd h (by simp), rfl⟩
  | _, n :: l, _, d, r => by
    rw [List.map_cons] at d
    cases d with
    | cons d1 d2 =>
      cases r with
      | cons r1 r2 =>
        obtain ⟨t, rfl⟩ := dp_tuple d1
        cases r1
        obtain ⟨xs, hs, hx⟩ := dp_tup d1
        obtain ⟨its, rv, ht, _⟩ := I.tuple hs
        rw [ways_ints hx] at rv
        have w1 : WtL.IsWt s.heap (.ref t) n := ⟨t, its, rfl, ht, rv.ints⟩
        obtain ⟨k1, k2⟩ := wts_of I d2 r2
        refine ⟨fun v hm => ?_, ?_⟩
        · rcases List.mem_cons.mp hm with e | hm
          · rw [e]; exact ⟨_, w1⟩
          · exact k1 v hm
        · rw [List.map_cons, k2, WtL.kf_eq w1]
def rSortedW (K : PySem.W.Frag) : List V → Hp → VK → Prop := fun vs H Q => ∃ (a : Addr) (zs : List V) (l : List (List Int)), vs = [.ref a] ∧ SqT K H a zs ∧ DpAll K H zs (l.map wayD) ∧ (l.Pairwise fun p q => HT.lexLt p q = true) ∧ (∃ l', l = [] :: l') ∧ l.length ≤ 1000 ∧
  ∀ p, H p = none → Q (.ref p) (upd H p (.lst zs))
theorem cr_sortedW {X : Cx} (hu : X.A.units + 100 < cLine) : CallR X (.builtin "sorted") (rSortedW X.K) := by
  intro pins s σ H vs us Q I r h
  obtain ⟨a, zs, l, rfl, hs, hd, hp, ⟨l', el⟩, hn, q⟩ := h
  obtain ⟨its, rv, hl, hz⟩ := I.tuple hs
  rw [Vals.ref1 r]
  obtain ⟨w1, w2⟩ := wts_of I hd rv
  have hk : ∀ v ∈ its, WtL.IsWt s.heap v (WtL.kf s.heap v) := fun v hm => by
    obtain ⟨ns, x⟩ := w1 v hm
    rw [WtL.kf_eq x]; exact x
  have O : SrtO.Swo (fun v u : Value => HT.lexLt (WtL.kf s.heap v) (WtL.kf s.heap u)) := NtL.swo_lexL _
  have asc : its.Pairwise fun v u => HT.lexLt (WtL.kf s.heap v) (WtL.kf s.heap u) = true := by
    rw [← w2] at hp
    exact List.pairwise_map.mp hp
  have hu' : X.A.in1.in1.units < cLine := by
    show X.A.units + _ + _ < cLine
    omega
  refine WtL.sorted_ordT O hl (by rw [← rv.length]; exact hz) (fun h2 h₁ a' _ kk => ?_) fun out h1 h2 => ?_
  · match its, w2, hk, h2 with
    | v0 :: rest, w2, hk, _ =>
      refine WtL.wt_sortable hu' kk ?_ hk
      have e : WtL.kf s.heap v0 = [] := by
        rw [el, List.map_cons] at w2
        exact (List.cons.inj w2).1
      have x := hk v0 List.mem_cons_self
      rw [e] at x
      exact x
    | [], _, _, h => exact absurd h (by decide)
  · have eo : out = its := by
      refine List.Perm.eq_of_pairwise (le := fun v u => HT.lexLt (WtL.kf s.heap u) (WtL.kf s.heap v) = false) (fun x y hx hy e1 e2 => ?_) h1 (asc.imp fun {x y} z => O.asym _ _ z) h2.perm
      have hx' : x ∈ its := h2.perm.mem_iff.mp hx
      refine Classical.byContradiction fun ne => ?_
      have z := List.Pairwise.forall_of_forall_of_flip (R := fun v u => v = u ∨ HT.lexLt (WtL.kf s.heap v) (WtL.kf s.heap u) = true ∨ HT.lexLt (WtL.kf s.heap u) (WtL.kf s.heap v) = true)
        (fun _ _ => .inl rfl) (asc.imp fun {x y} z => .inr (.inl z)) (asc.imp fun {x y} z => .inr (.inr z)) hx' hy
      rcases z with z | z | z
      · exact ne z
      · rw [e2] at z; cases z
      · rw [e1] at z; cases z
    subst eo
    obtain ⟨ep, he'⟩ := PyProof.Rows.sortedAll_at s.heap out out.toArray
    exact ⟨.ref _, upd H (s.heap.objs.size + 1) (.lst zs), I.laid (t' := s.toks) (fun _ _ => PyProof.Rows.sortedAll_old) (Nat.le_succ _) ⟨hz, out, ep, rv, he'⟩, rfl, q _ (I.hok.fresh (Nat.le_succ _))⟩
theorem _root_.L2.Room.srt {k : Nat} {A : Around} (h : Room k A) : A.units + 100 < cLine := by
  have := h.un
  omega
theorem deck_hid {H H' : Hp} {Ds : List Addr} {dk gr : Addr} (D : Deck H dk gr) (s : Same (hid Ds H) (hid Ds H')) (h1 : dk ∉ Ds) (h2 : gr ∉ Ds) : Deck H' dk gr := by
  obtain ⟨gs, mx, tn, d⟩ := D
  exact ⟨gs, mx, tn, (hid_get (s _ _ (hid_put h1 d.d))).2, (hid_get (s _ _ (hid_put h2 d.g))).2, d.few, d.mx0, d.mx1⟩
theorem tab_hid {H H' : Hp} {Ds : List Addr} {Pt : Addr} (G : GxR.TabG H Pt) (s : Same (hid Ds H) (hid Ds H')) (h : Pt ∉ Ds) : GxR.TabG H' Pt := by
  obtain ⟨ps, e, z⟩ := G
  exact ⟨ps, (hid_get (s _ _ (hid_put h e))).2, z⟩
theorem tab_deck {H : Hp} {Pt dk gr : Addr} (G : GxR.TabG H Pt) (D : Deck H dk gr) : dk ≠ Pt ∧ gr ≠ Pt := by
  obtain ⟨ps, e, _⟩ := G
  obtain ⟨gs, mx, tn, d⟩ := D
  exact ⟨ne_of d.d e (by intro z; cases z), ne_of d.g e (by intro z; cases z)⟩
/-- two data that are alike -/
theorem l_neSameD {K : PySem.W.Frag} {H : Hp} {Q : VK} {x y : V} {d : PyData} (h1 : Dp K H x d) (h2 : Dp K H y d) (hn : numD d = true) (hd : d.depth ≤ 60) (q : Q (.bl false) H) : rNeD K x y H Q := by
  have sh : SeqAt.shaped d = true := num_shaped hn (by omega)
  refine ⟨_, _, h1, h2, sh, sh, ?_⟩
  rw [SeqAt.eqv_refl _ (num_lay _ hn)]
  exact q
theorem waysD_num (t : Th) : numD (waysD t) = true := by
  simp only [waysD, numD]
  refine numAll_mem.mpr fun d hd => ?_
  obtain ⟨p, _, rfl⟩ := List.mem_map.mp hd
  exact wayD_num _
mutual
theorem bare_bare : ∀ t : Th, t.bare.bare = t.bare
  | .inp _ => by simp only [Th.bare]
  | .st _ _ ps => by simp only [Th.bare, bareL_bare ps]
theorem bareL_bare : ∀ ps : List (Int × Th), bareL (bareL ps) = bareL ps
  | [] => by simp only [bareL]
  | (_, t) :: r => by simp only [bareL, bare_bare t, bareL_bare r]
end
mutual
theorem bare_offs : ∀ t : Th, t.bare.offs = List.replicate t.nSt 0
  | .inp _ => by simp only [Th.bare, Th.offs, Th.nSt, List.replicate]
  | .st _ _ ps => by simp only [Th.bare, Th.offs, Th.nSt, bareL_offs ps, List.replicate_succ]
theorem bareL_offs : ∀ ps : List (Int × Th), offsL (bareL ps) = List.replicate (nStL ps) 0
  | [] => by simp only [bareL, offsL, nStL, List.replicate]
  | (_, t) :: r => by simp only [bareL, offsL, nStL, bare_offs t, bareL_offs r, List.replicate_append_replicate]
end
mutual
theorem bare_good : ∀ t : Th, t.good → t.bare.good
  | .inp _, h => by simp only [Th.bare, Th.good]
  | .st n c ps, h => by
    simp only [Th.good] at h
    simp only [Th.bare, Th.good, bareL_fst]
    exact ⟨⟨h.1.n1, h.1.n2, Int.le_refl _, by have := h.1.n1; omega, h.1.ws⟩, bareL_good ps h.2⟩
theorem bareL_good : ∀ ps : List (Int × Th), goodL ps → goodL (bareL ps)
  | [], _ => by simp only [bareL, goodL]
  | (_, t) :: r, h => by
    simp only [goodL] at h
    simp only [bareL, goodL]
    exact ⟨bare_good t h.1, bareL_good r h.2⟩
end
theorem IsPlan.bare {t : Th} (h : IsPlan t) : IsPlan t.bare := h.of_bare (bare_bare t).symm (bare_good t h.good)
end SC
namespace SC
open PySem PySem.Spec PyProof.Rows L2 StrLaws GxR
/-! ## all(test for x in t), t a tuple of tuples, the test may call -/
/-- a tuple of n items -/
def TupN (n : Nat) (h : Heap) (v : Value) : Prop := ∃ q its, v = .ref q ∧ h.IsTuple q its ∧ its.size = n
section
variable {X : Cx} {pins : List (Addr × Obj)} {σ : L2.St} {H : Hp} {s : Shared}
/-- the test comes out true at tuples of n items; what stood at first stands -/
def TestT (X : Cx) (scope : Scope) (x : Str) (elt : Expr) (n : Nat) : Prop :=
  ∀ (cenv : Env) (A : Around) (E : Value → Shared → Prop) (v : Value) (t : Shared) (m : Str → Option Value), cenv.scope = scope → cenv.globals = mainGlobals → cenv.builtins = builtinsNs → A.handled = none → A.depth ≤ X.A.depth + 1 → L2.Mod X.K X.mg X.base →
    t.heap.Ns cenv.locals m → m x = some v → (∀ b o, X.base.get? b = some o → t.heap.get? b = some o) → TupN n t.heap v → wpAny (model X.prog X.w) A (eval elt cenv) (fun y t' => y = .bool true ∧ Keeps t t') E t
theorem gen_tup {c Pt : Addr} {elt iter : Expr} {x : Str} {px gpos : Pos} {scope : Scope} {te : TE} {k n : Nat} {Q' : Value → Shared → Prop} {R : Hp → Prop}
    (hr : Room k X.A) (TB : TabB X.base X.mg c Pt) (hcode : X.env.code = .ref c) (hglob : X.env.globals = mainGlobals) (S : GenS X.env scope x) (hi : PE X iter te) (hel : TestT X scope x elt n)
    (hs : ∀ v, genFold iter X.env v = pure v) (I : Inv X pins σ H s)
    (h : te σ H fun v H1 => ∃ a xs, v = .ref a ∧ SqT X.K H1 a xs ∧ TabG H1 Pt ∧ (∀ x ∈ xs, ∃ q ys, x = V.ref q ∧ SqT X.K H1 q ys ∧ ys.length = n) ∧ R H1)
    (hQ : ∀ H1 g s5, R H1 → (∃ (n : Nat) (fp wr : List Addr) (G : Array GenState → Array GenState → Prop) (F : Nat → Value → Prop) (St : Nat → Shared → Prop), WalksS X.prog X.w X.A.in1 g fp wr G n F St ∧ St 0 s5 ∧ TruthOf X.prog X.w X.A.in1 F (fun _ => true) ∧
      ∀ s', Moved wr G s5 s' → ∃ H2, Tabbed Pt H1 H2 ∧ Inv X pins σ H2 s') → Q' (.ref g) s5) :
    wpAny (model X.prog X.w) X.A (eval (.GeneratorExp elt [⟨.Name x px, iter, [], 0⟩] scope gpos) X.env) Q' X.xe s := by
  refine wpAny_GeneratorExp_walksQD hr.hd S.co (closure_ok S.free) S.cell S.dot S.loc S.kind (by have := hr.dp; omega) ?_ hs
  refine thn (hi.run pins s σ H _ I h) fun xv s1 ⟨v, H1, I1, r1, q1⟩ => ?_
  obtain ⟨a, xs, rfl, ha, ⟨ps, hP, ht⟩, hPv, q1⟩ := q1
  obtain rfl : xv = Value.ref a := r1
  obtain ⟨its, rv, hT, hz⟩ := I1.tuple ha
  have hPs : s1.heap.get? Pt = some { cls := .none, data := .fields ps } := I1.hok Pt _ hP
  have hPlt : Pt < s1.heap.objs.size := Heap.lt_size hPs
  have la : a < s1.heap.objs.size := by
    obtain ⟨o, ho, _⟩ := id hT
    exact Heap.lt_size ho
  -- the items are tuples, none of them the table
  have items : ∀ (i : Nat) (u : Value), its.toArray[i]? = some u → ∃ q js, u = .ref q ∧ s1.heap.IsTuple q js ∧ js.size = n ∧ q ≠ Pt := fun i u hu => by
    have hu : its[i]? = some u := by simpa using hu
    obtain ⟨z, hz, rz⟩ : ∃ z, xs[i]? = some z ∧ RelV z u := by
      have hlt : i < xs.length := by
        rw [rv.length]
        exact (List.getElem?_eq_some_iff.mp hu).1
      obtain ⟨u', h1, h2⟩ := rv.get (List.getElem?_eq_getElem hlt)
      rw [hu] at h1
      cases h1
      exact ⟨_, List.getElem?_eq_getElem hlt, h2⟩
    obtain ⟨q, ys, rfl, hq, hn⟩ := hPv z (List.mem_of_getElem? hz)
    obtain rfl : u = Value.ref q := rz
    obtain ⟨js, rj, hj, _⟩ := I1.tuple hq
    refine ⟨q, js.toArray, rfl, hj, by rw [List.size_toArray, ← rj.length]; exact hn, fun e => ?_⟩
    obtain ⟨o, ho, hc, _⟩ := hj
    rw [e, hPs] at ho
    cases ho
    cases hc
  refine wpAny_pyIter_tuple hT ?_
  generalize eo : ({ cls := .type "tuple_iterator", data := .fields #[.ref a, .int 0 0] } : Obj) = o
  have hP2 : (s1.heap.push o).get? Pt = some { cls := .none, data := .fields ps } := Heap.get?_push_of_some _ hPs
  have cd : PySem.W.CodeHd (s1.heap.push o) c Pt := TB.code.keeps fun b u e => Heap.get?_push_of_some _ (I1.bk b u e)
  have lim2 : (s1.heap.push o).NoLimit := I1.nolimit.push o
  have hcP : cStatics ≠ Pt := fun e => by
    obtain ⟨_, hns, _⟩ := I1.nolimit
    obtain ⟨o', es, ep, ho, hd, _⟩ := hns
    rw [e, hPs] at ho
    cases ho
    cases hd
  have cont : ∀ (code : Value) (h3 : Heap) (tk : Nat) (ps' : Array Value), Heap.ExtBut Pt (s1.heap.push o) h3 → (s1.heap.push o).objs.size ≤ h3.objs.size → h3.get? Pt = some { cls := .none, data := .fields ps' } → (∃ more, ps' = ps ++ more) → TriplesOk ps'.toList →
      wpAny (model X.prog X.w) X.A (builtinsFor X.env.globals X.env.builtins) (fun bi s₄ =>
        ∃ Ia fp wr n₀ Pf St₀ pz F, Value.ref s1.heap.objs.size = .ref Ia ∧ (∀ A' : Around, A'.handled = none → Walks X.prog X.w A' Ia fp wr n₀ Pf St₀) ∧ St₀ 0 s₄.heap ∧ (∀ b ∈ fp, b < s₄.heap.objs.size) ∧ s₄.heap.NoLimit ∧ cStatics ∉ wr ∧
          (∀ href : Heap, (∀ b o, s₄.heap.get? b = some o → href.get? b = some o) →
            QuietGenD X.prog X.w (genEnv scope (cloFrom X.env.cells scope.names []) s₄.heap.objs.size code bi X.env) x [] elt (List.range s₄.heap.objs.size) wr Pf pz F href (X.A.depth + 1) (X.A.units + 8)) ∧
          (∀ a h₅ tk gs, gs.bare = true → s₄.heap.objs.size < a → h₅.objs.size = a + 1 → (∀ b o, s₄.heap.get? b = some o → h₅.get? b = some o) →
            WalksS X.prog X.w X.A.in4 a (a :: s₄.heap.objs.size :: List.range s₄.heap.objs.size) (s₄.heap.objs.size :: wr) (GenOnlyQ s₄.gens.size) (passing pz n₀ 0).length
              (fun j y => ∃ i, (passing pz n₀ 0)[j]? = some i ∧ F i y) (GenAt X.prog X.w X.A.in4 a s₄.gens.size s₄.heap.objs.size (List.range s₄.heap.objs.size) wr pz n₀ F) →
            GenAt X.prog X.w X.A.in4 a s₄.gens.size s₄.heap.objs.size (List.range s₄.heap.objs.size) wr pz n₀ F 0 { s₄ with gens := s₄.gens.push gs, toks := tk, heap := h₅ } →
            Q' (.ref a) { s₄ with gens := s₄.gens.push gs, toks := tk, heap := h₅ })) X.xe { s1 with heap := h3, toks := tk } := by
    intro code h3 tk ps' hx hsz hP3 hmore ht3
    obtain ⟨bm, ob, e1, e2, e3, e4, e5, e6, e7, e8⟩ := TB.bm
    have hcl : cStatics < s1.heap.objs.size := let ⟨_, hns, _⟩ := I1.nolimit; hns.lt
    have sz2 : (s1.heap.push o).objs.size = s1.heap.objs.size + 1 := Heap.size_push ..
    have keep3 : ∀ b u, b ≠ Pt → s1.heap.get? b = some u → h3.get? b = some u := fun b u hb e => hx b u hb (Heap.get?_push_of_some _ e)
    have aP : a ≠ Pt := fun e => by
      obtain ⟨ob', ho', hc', _⟩ := hT
      rw [e, hPs] at ho'
      cases ho'
      cases hc'
    have aI : a ≠ s1.heap.objs.size := Nat.ne_of_lt la
    have IP : s1.heap.objs.size ≠ Pt := Nat.ne_of_gt hPlt
    have hIo : h3.get? s1.heap.objs.size = some o := hx _ _ IP (Heap.get?_push_size _ (by rw [← eo]; rfl))
    refine wpAny_builtinsFor (m := X.mg) (by rw [I1.ok.glob]; exact ((I1.mod.glob.keeps I1.bk).push o).extBut hx TB.gP) e1 e2 (keep3 _ _ e4 (I1.bk _ _ e5)) e6 e7 e8 ?_
    refine ⟨s1.heap.objs.size, [s1.heap.objs.size, a], [s1.heap.objs.size], its.toArray.size, fun i v => its.toArray[i]? = some v, fun i h => h.IsTupleIter s1.heap.objs.size a i ∧ h.IsTuple a its.toArray, (fun _ => true), (fun _ y => y = .bool true), rfl, fun A' hA => Walks.tuple hA _ a aI its.toArray, ?_, ?_, lim2.extBut hx hcP, ?_, ?_, ?_⟩
    · refine ⟨⟨o, hIo, by rw [← eo], by rw [← eo]; rfl⟩, ?_⟩
      obtain ⟨ob', ho', r⟩ := hT
      exact ⟨ob', keep3 _ _ aP ho', r⟩
    · intro b hb
      have : s1.heap.objs.size < h3.objs.size := by omega
      rcases List.mem_cons.mp hb with z | z
      · rw [z]; exact this
      · rw [List.mem_singleton.mp z]; exact Nat.lt_trans la this
    · intro z
      rw [List.mem_singleton.mp z] at hcl
      exact Nat.lt_irrefl _ hcl
    · intro href hhref
      refine ⟨fun A' E' i v s₂ m₂ hA _ _ hPv hn hm hk => ?_, fun A' E' i v s₂ m₂ hA hD _ hPv hp hn hm hk => ?_⟩
      · simp only [List.forIn_nil]
        exact wpAny_pure ⟨rfl, keeps_refl _⟩
      · have stand : ∀ b u, b ≠ Pt → s1.heap.get? b = some u → s₂.heap.get? b = some u := fun b u hb e => by
          have e3 := keep3 b u hb e
          refine hk b (List.mem_range.mpr (Heap.lt_size e3)) (fun z => ?_) u (hhref b u e3)
          have hl := Heap.lt_size e
          rw [List.mem_singleton.mp z] at hl
          exact Nat.lt_irrefl _ hl
        obtain ⟨q, js, rfl, ⟨oq, hoq, rq⟩, hjs, hqP⟩ := items i v hPv
        exact hel _ A' E' (.ref q) s₂ m₂ rfl hglob rfl hA hD I1.mod hn hm (fun b u e => stand b u (fun z => by have q := (I1.env0.bs b u e).2; rw [z, hP] at q; cases q) (I1.bk b u e)) ⟨q, js, rfl, ⟨oq, stand q oq hqP hoq, rq⟩, hjs⟩
    · intro g h5 tk5 gs hgb hag hsz5 hk5 W5 hat
      simp only [GxR.passing_true, List.length_range] at W5
      refine hQ H1 g _ q1 ⟨_, _, _, _, _, _, W5.in4_1, hat, ?_, fun s' hm => ?_⟩
      · intro j y sj Qj Ej hy hQj
        obtain ⟨i, _, rfl⟩ := hy
        exact wpAny_truthy_bool hQj
      · obtain ⟨more, em⟩ := hmore
        have nwr : ∀ b u, s1.heap.get? b = some u → b ∉ h3.objs.size :: [s1.heap.objs.size] := fun b u e hb => by
          have hl := Heap.lt_size e
          rcases List.mem_cons.mp hb with z | z
          · rw [z] at hl
            have h9 : (h3.objs.size : Nat) < s1.heap.objs.size := hl
            omega
          · rw [List.mem_singleton.mp z] at hl
            exact Nat.lt_irrefl _ hl
        have J := inv_tab (more := more) (h' := s'.heap) (g' := s'.gens) (d' := s'.drawn) (t' := s'.toks) I1 hP (fun b u hb e => hm.heap b u (nwr b u e) (hk5 b u (keep3 b u hb e)))
          (by rw [← em]; exact hm.heap Pt _ (nwr Pt _ hPs) (hk5 Pt _ hP3)) (AllBare.movedS (I1.bare.push hgb) hm)
        rw [sh_eta s1 s' hm.os] at J
        exact ⟨upd H1 Pt (.tbl (ps ++ more)), ⟨⟨ps ++ more, upd_same, by rw [← em]; exact ht3⟩, fun b hb => upd_ne hb⟩, J⟩
  refine ⟨lim2, ?_⟩
  cases hf : codeAmong gpos ps.toList with
  | none =>
    refine wpAny_genexprCodeX hcode (cd.code hP2 ht) (cd.tab hP2) hf fun c' h' tk hx hge hlt hco' _ htab' _ => ?_
    obtain ⟨o1, vs, f1, tf, fl, tg, inF, tx, tt, op, _, _, _, _, _, _, _, _, _, htr, _⟩ := hco'
    exact cont _ h' tk _ hx (Nat.le_trans hge (Nat.le_of_lt hlt)) htab'.2 ⟨_, rfl⟩ htr
  | some cv =>
    refine wpAny_genexprCode_hit hcode (cd.code hP2 ht) hf ?_
    exact cont cv (s1.heap.push o) s1.toks ps (Heap.ExtBut.refl _ _) (Nat.le_refl _) hP2 ⟨#[], by simp⟩ ht
/-- all(..), each test true; behind it the def's table may have grown -/
def tAllT (K : PySem.W.Frag) (Pt : Addr) (n : Nat) (te : TE) : TE := fun σ H Q => te σ H fun v H1 => ∃ a xs, v = .ref a ∧ SqT K H1 a xs ∧ TabG H1 Pt ∧ (∀ x ∈ xs, ∃ q ys, x = V.ref q ∧ SqT K H1 q ys ∧ ys.length = n) ∧ ∀ H2, Tabbed Pt H1 H2 → Q (.bl true) H2
theorem pe_allT {c Pt : Addr} {elt iter : Expr} {x : Str} {px p pos gpos : Pos} {scope : Scope} {te : TE} {k n : Nat}
    (hr : Room k X.A) (hg : Gl X "all") (hm : X.mg "all" = none) (TB : TabB X.base X.mg c Pt) (hcode : X.env.code = .ref c) (hglob : X.env.globals = mainGlobals) (S : GenS X.env scope x) (hi : PE X iter te) (hel : TestT X scope x elt n)
    (hs : ∀ v, genFold iter X.env v = pure v)
    (he : starEach [.GeneratorExp elt [⟨.Name x px, iter, [], 0⟩] scope gpos] X.env = (false, eval (.GeneratorExp elt [⟨.Name x px, iter, [], 0⟩] scope gpos) X.env) :: starEach [] X.env := by rfl) :
    PE X (.Call (.Name "all" p) [.GeneratorExp elt [⟨.Name x px, iter, [], 0⟩] scope gpos] [] pos) (tAllT X.K Pt n te) := .mk fun pins s σ H Q I h => by
  refine wpAny_Call_Name_kw (ld_blt I hg hm (show bootBuiltins "all" = some (.builtin "all") by decide +kernel) ?_)
  refine PyProof.Rows.callWith_builtin1 ?_ he (by rfl)
  rw [he]
  show wpAny _ _ (spliced ((false, eval (.GeneratorExp elt [⟨.Name x px, iter, [], 0⟩] scope gpos) X.env) :: backTo pos (starEach [] X.env))) _ _ s
  refine Calls.spliced_cons (gen_tup (R := fun H1 => ∀ H2, Tabbed Pt H1 H2 → Q (.bl true) H2) hr TB hcode hglob S hi hel hs I h fun H1 g s5 hR hG => ?_)
  obtain ⟨m, fp, wr, G, F, St, W, hst, htr, hI⟩ := hG
  refine Calls.spliced_nil ?_
  refine call_all_walkS (W.self 0 _ _ _ hst ⟨g, fp, wr, G, _, F, St, _, rfl, W, hst, htr, fun s' hmv => ?_⟩)
  obtain ⟨H2, hT, J⟩ := hI s' hmv
  have e : (List.range m).all (fun _ => true) = true := by simp
  rw [e]
  exact ⟨.bl true, H2, J, rfl, hR H2 hT⟩
theorem g_allT {K : PySem.W.Frag} {Pt : Addr} {n : Nat} {te : TE} {σ : L2.St} {H : Hp} {Q : VK} (q : te σ H fun v H1 => ∃ a xs, v = V.ref a ∧ SqT K H1 a xs ∧ TabG H1 Pt ∧ (∀ x ∈ xs, ∃ q ys, x = V.ref q ∧ SqT K H1 q ys ∧ ys.length = n) ∧ ∀ H2, Tabbed Pt H1 H2 → Q (.bl true) H2) : tAllT K Pt n te σ H Q := q
end
end SC
namespace SC
open PySem PySem.Spec PyProof.Rows L2 StrLaws

/-! ## what a thing tells at a row -/
def rowAt (r : List Int) (i : Int) : Int := r.getD i.toNat 0
mutual
def Th.tell (r : List Int) : Th → Int
  | .inp i => rowAt r i
  | .st n c ps => (c + tellL r ps) / n
def tellL (r : List Int) : List (Int × Th) → Int
  | [] => 0
  | (w, t) :: q => w * t.tell r + tellL r q
end
mutual
def Th.rests (r : List Int) : Th → List Int
  | .inp _ => []
  | .st n c ps => (c + tellL r ps) % n :: restsL r ps
def restsL (r : List Int) : List (Int × Th) → List Int
  | [] => []
  | (_, t) :: q => t.rests r ++ restsL r q
end
mutual
/-- the weights alone -/
def Th.wsum (r : List Int) : Th → Int
  | .inp i => rowAt r i
  | .st _ _ ps => wsumL r ps
def wsumL (r : List Int) : List (Int × Th) → Int
  | [] => 0
  | (w, t) :: q => w * t.wsum r + wsumL r q
end
mutual
/-- the plan with divisors 1 -/
def Th.ones : Th → Th
  | .inp i => .inp i
  | .st _ _ ps => .st 1 0 (onesL ps)
def onesL : List (Int × Th) → List (Int × Th)
  | [] => []
  | (w, t) :: q => (w, t.ones) :: onesL q
end
theorem tellL_app (r : List Int) : ∀ a b : List (Int × Th), tellL r (a ++ b) = tellL r a + tellL r b
  | [], b => by simp [tellL]
  | (w, t) :: a, b => by simp only [List.cons_append, tellL, tellL_app r a b]; omega
theorem restsL_app (r : List Int) : ∀ a b : List (Int × Th), restsL r (a ++ b) = restsL r a ++ restsL r b
  | [], b => by simp [restsL]
  | (w, t) :: a, b => by simp only [List.cons_append, restsL, restsL_app r a b, List.append_assoc]
theorem tellL_take {r : List Int} {ps : List (Int × Th)} {i : Nat} {w : Int} {t : Th} (h : ps[i]? = some (w, t)) : tellL r (ps.take (i + 1)) = tellL r (ps.take i) + w * t.tell r := by
  rw [take_one h, tellL_app]
  simp only [tellL]; omega
theorem restsL_take {r : List Int} {ps : List (Int × Th)} {i : Nat} {w : Int} {t : Th} (h : ps[i]? = some (w, t)) : restsL r (ps.take (i + 1)) = restsL r (ps.take i) ++ t.rests r := by
  rw [take_one h, restsL_app]
  simp only [restsL, List.append_nil]
mutual
theorem rests_len (r : List Int) : ∀ t : Th, (t.rests r).length = t.nSt
  | .inp _ => by simp only [Th.rests, Th.nSt, List.length_nil]
  | .st n c ps => by simp only [Th.rests, Th.nSt, List.length_cons, restsL_len r ps]
theorem restsL_len (r : List Int) : ∀ ps : List (Int × Th), (restsL r ps).length = nStL ps
  | [] => by simp only [restsL, nStL, List.length_nil]
  | (w, t) :: q => by simp only [restsL, nStL, List.length_append, rests_len r t, restsL_len r q]
end
mutual
theorem rests_range (r : List Int) : ∀ t : Th, t.good → ∀ x ∈ t.rests r, 0 ≤ x ∧ x < 10 ^ 30
  | .inp _, _, x, h => by simp [Th.rests] at h
  | .st n c ps, g, x, h => by
    simp only [Th.good] at g
    simp only [Th.rests, List.mem_cons] at h
    have n1 := g.1.n1
    have n2 := g.1.n2
    rcases h with rfl | h
    · exact ⟨Int.emod_nonneg _ (by omega), Int.lt_of_lt_of_le (Int.emod_lt_of_pos _ (by omega)) n2⟩
    · exact restsL_range r ps g.2 x h
theorem restsL_range (r : List Int) : ∀ ps : List (Int × Th), goodL ps → ∀ x ∈ restsL r ps, 0 ≤ x ∧ x < 10 ^ 30
  | [], _, x, h => by simp [restsL] at h
  | (w, t) :: q, g, x, h => by
    simp only [goodL] at g
    simp only [restsL, List.mem_append] at h
    rcases h with h | h
    · exact rests_range r t g.1 x h
    · exact restsL_range r q g.2 x h
end

/-! the plan with divisors 1 -/
mutual
theorem ones_tell (r : List Int) : ∀ t : Th, t.ones.tell r = t.wsum r
  | .inp i => by simp only [Th.ones, Th.tell, Th.wsum]
  | .st n c ps => by simp only [Th.ones, Th.tell, Th.wsum, onesL_tell r ps, Int.zero_add, Int.ediv_one]
theorem onesL_tell (r : List Int) : ∀ ps : List (Int × Th), tellL r (onesL ps) = wsumL r ps
  | [] => by simp only [onesL, tellL, wsumL]
  | (w, t) :: q => by simp only [onesL, tellL, wsumL, ones_tell r t, onesL_tell r q]
end
mutual
theorem ones_rests (r : List Int) : ∀ t : Th, t.ones.rests r = List.replicate t.nSt 0
  | .inp i => by simp only [Th.ones, Th.rests, Th.nSt, List.replicate_zero]
  | .st n c ps => by simp only [Th.ones, Th.rests, Th.nSt, onesL_rests r ps, Int.emod_one, List.replicate_succ]
theorem onesL_rests (r : List Int) : ∀ ps : List (Int × Th), restsL r (onesL ps) = List.replicate (nStL ps) 0
  | [] => by simp only [onesL, restsL, nStL, List.replicate_zero]
  | (w, t) :: q => by simp only [onesL, restsL, nStL, ones_rests r t, onesL_rests r q, List.replicate_append_replicate]
end
theorem onesL_eq : ∀ ps : List (Int × Th), onesL ps = ps.map fun p => (p.1, p.2.ones)
  | [] => by simp only [onesL, List.map_nil]
  | (w, t) :: q => by simp only [onesL, List.map_cons, onesL_eq q]
theorem onesL_w (ps : List (Int × Th)) : (onesL ps).map (·.1) = ps.map (·.1) := by rw [onesL_eq, List.map_map]; rfl
mutual
theorem ones_same : ∀ t : Th, t.ones.nIn = t.nIn ∧ t.ones.nSt = t.nSt ∧ t.ones.dep = t.dep ∧ t.ones.full = t.full ∧ t.ones.ins = t.ins
  | .inp i => by simp only [Th.ones, and_self]
  | .st n c ps => by
    obtain ⟨h1, h2, h3, h4, h5⟩ := onesL_same ps
    have h6 : (onesL ps).isEmpty = ps.isEmpty := by cases ps <;> simp [onesL]
    simp only [Th.ones, Th.nIn, Th.nSt, Th.dep, Th.full, Th.ins, h1, h2, h3, h4, h5, h6, and_self]
theorem onesL_same : ∀ ps : List (Int × Th), nInL (onesL ps) = nInL ps ∧ nStL (onesL ps) = nStL ps ∧ depL (onesL ps) = depL ps ∧ fullL (onesL ps) = fullL ps ∧ insL (onesL ps) = insL ps
  | [] => by simp only [onesL, and_self]
  | (w, t) :: q => by
    obtain ⟨h1, h2, h3, h4, h5⟩ := onesL_same q
    obtain ⟨k1, k2, k3, k4, k5⟩ := ones_same t
    simp only [onesL, nInL, nStL, depL, fullL, insL, h1, h2, h3, h4, h5, k1, k2, k3, k4, k5, and_self]
end
mutual
theorem ones_good : ∀ t : Th, t.good → t.ones.good
  | .inp i, _ => by simp only [Th.ones, Th.good]
  | .st n c ps, g => by
    simp only [Th.good] at g
    simp only [Th.ones, Th.good]
    exact ⟨⟨by omega, by decide, by omega, by omega, by rw [onesL_w]; exact g.1.ws⟩, onesL_good ps g.2⟩
theorem onesL_good : ∀ ps : List (Int × Th), goodL ps → goodL (onesL ps)
  | [], _ => by simp only [onesL, goodL]
  | (w, t) :: q, g => by
    simp only [goodL] at g
    simp only [onesL, goodL]
    exact ⟨ones_good t g.1, onesL_good q g.2⟩
end
theorem IsPlan.ones {t : Th} (h : IsPlan t) : IsPlan t.ones := by
  obtain ⟨h1, h2, h3, h4, h5⟩ := ones_same t
  obtain ⟨c, d, ps, e⟩ := h.st
  refine ⟨?_, ones_good t h.good, by rw [h4]; exact h.full, by rw [h2]; exact h.many, by rw [h3]; exact h.deep, by rw [h1]; exact h.inp, by rw [h5, h1]; exact h.perm⟩
  subst e
  exact ⟨1, 0, _, by simp only [Th.ones]; rfl⟩

/-! ## how great what is told gets -/
theorem natAbs_ediv_le {a n : Int} (h : 1 ≤ n) : (a / n).natAbs ≤ a.natAbs := by
  by_cases ha : a < 0
  · have h1 : a / n < 0 := Int.ediv_neg_of_neg_of_pos ha (by omega)
    have h2 : a ≤ a / n := by
      have := Int.mul_ediv_self_le (x := a) (k := n) (by omega)
      have h3 : a < n * (a / n) + n := Int.lt_mul_ediv_self_add (by omega)
      have h4 : 0 ≤ (n - 1) * (-(a / n) - 1) := Int.mul_nonneg (by omega) (by omega)
      have h5 : (n - 1) * (-(a / n) - 1) = -(n * (a / n)) + a / n - n + 1 := by
        simp only [Int.sub_mul, Int.mul_sub, Int.mul_neg, Int.mul_one, Int.one_mul]; omega
      omega
    omega
  · have h1 : 0 ≤ a / n := Int.ediv_nonneg (by omega) (by omega)
    have h2 : a / n ≤ a := Int.ediv_le_self n (by omega)
    omega
theorem natAbs_add_le' (a b : Int) : (a + b).natAbs ≤ a.natAbs + b.natAbs := by omega
theorem part_le {w x : Int} {M : Nat} (hw : w.natAbs ≤ 10 ^ 30) (hx : x.natAbs ≤ M) : (w * x).natAbs ≤ 10 ^ 30 * M := by
  rw [Int.natAbs_mul]
  exact Nat.mul_le_mul hw hx
theorem wstep {M k : Nat} (hM : 1 ≤ M) (hk : k ≤ 24) : 10 ^ 30 + k * (10 ^ 30 * M) ≤ 2 ^ 110 * M := by
  have h1 : k * (10 ^ 30 * M) ≤ 24 * (10 ^ 30 * M) := Nat.mul_le_mul_right _ hk
  have h2 : (10 : Nat) ^ 30 * M + 24 * (10 ^ 30 * M) ≤ 2 ^ 110 * M := by
    have : (10 : Nat) ^ 30 * M + 24 * (10 ^ 30 * M) = (25 * 10 ^ 30) * M := by
      rw [← Nat.mul_assoc, ← Nat.add_mul]
    rw [this]
    exact Nat.mul_le_mul_right _ (by decide +kernel)
  have h3 : (10 : Nat) ^ 30 ≤ 10 ^ 30 * M := Nat.le_mul_of_pos_right _ hM
  omega
/-- what is told, at most, by how deep one stands -/
def topM (B d : Nat) : Nat := 2 ^ (B + 110 * d)
theorem topM_pos (B d : Nat) : 1 ≤ topM B d := Nat.one_le_two_pow
theorem topM_mono {B d e : Nat} (h : d ≤ e) : topM B d ≤ topM B e := Nat.pow_le_pow_right (by decide) (by omega)
theorem topM_succ (B d : Nat) : 2 ^ 110 * topM B d = topM B (d + 1) := by
  unfold topM
  rw [← Nat.pow_add]
  exact congrArg (2 ^ ·) (by omega)
mutual
theorem tell_le {r : List Int} {B : Nat} (hr : ∀ i : Int, (rowAt r i).natAbs ≤ 2 ^ B) : ∀ t : Th, t.good → t.full = true → t.nIn ≤ 24 → (t.tell r).natAbs ≤ topM B t.dep
  | .inp i, _, _, _ => by
    simp only [Th.tell, Th.dep, topM, Nat.mul_zero, Nat.add_zero]
    exact hr i
  | .st n c ps, g, f, hn => by
    simp only [Th.good] at g
    simp only [Th.full, Bool.and_eq_true] at f
    simp only [Th.nIn] at hn
    have h1 := tellL_le hr ps g.2 (fun p hp => (g.1.ws.nz p.1 (List.mem_map.mpr ⟨p, hp, rfl⟩)).2) f.2 hn (depL ps) (Nat.le_refl _)
    have h2 := len_le_nIn f.2
    have h3 : c.natAbs ≤ 10 ^ 30 := nat30 g.1.c0 (by have := g.1.c1; have := g.1.n2; omega)
    simp only [Th.tell, Th.dep, ← topM_succ]
    have h4 := natAbs_ediv_le (a := c + tellL r ps) g.1.n1
    have h5 := natAbs_add_le' c (tellL r ps)
    have h6 := wstep (topM_pos B (depL ps)) (show ps.length ≤ 24 by omega)
    generalize ps.length * (10 ^ 30 * topM B (depL ps)) = Z at h1 h6
    omega
theorem tellL_le {r : List Int} {B : Nat} (hr : ∀ i : Int, (rowAt r i).natAbs ≤ 2 ^ B) : ∀ ps : List (Int × Th), goodL ps → (∀ p ∈ ps, p.1.natAbs ≤ 10 ^ 30) → fullL ps = true → nInL ps ≤ 24 → ∀ d, depL ps ≤ d → (tellL r ps).natAbs ≤ ps.length * (10 ^ 30 * topM B d)
  | [], _, _, _, _, _, _ => by simp only [tellL]; exact Nat.zero_le _
  | (w, t) :: q, g, hw, f, hn, d, hd => by
    simp only [goodL] at g
    simp only [fullL, Bool.and_eq_true] at f
    simp only [nInL] at hn
    simp only [depL] at hd
    have h1 := tell_le hr t g.1 f.1 (by omega)
    have h2 := tellL_le hr q g.2 (fun p hp => hw p (List.mem_cons_of_mem _ hp)) f.2 (by omega) d (by omega)
    have h3 : (w * t.tell r).natAbs ≤ 10 ^ 30 * topM B d := part_le (hw _ (List.mem_cons_self ..)) (Nat.le_trans h1 (topM_mono (B := B) (show t.dep ≤ d by omega)))
    simp only [tellL]
    rw [List.length_cons, Nat.succ_mul]
    have h5 := natAbs_add_le' (w * t.tell r) (tellL r q)
    generalize 10 ^ 30 * topM B d = Z at h2 h3 ⊢
    omega
end
/-- a thing that is run at a row -/
structure Runs (t : Th) (r : List Int) (B : Nat) : Prop where
  good : t.good
  full : t.full = true
  inp : t.nIn ≤ 24
  st : t.nSt ≤ 12
  dep : t.dep ≤ 8
  ins : ∀ i ∈ t.ins, 0 ≤ i ∧ i < (r.length : Nat)
  row : ∀ x ∈ r, x.natAbs ≤ 2 ^ B
  few : B ≤ 100000
theorem rowAt_le {r : List Int} {B : Nat} (h : ∀ x ∈ r, x.natAbs ≤ 2 ^ B) (i : Int) : (rowAt r i).natAbs ≤ 2 ^ B := by
  unfold rowAt
  rw [List.getD_eq_getElem?_getD]
  cases e : r[i.toNat]? with
  | none => exact Nat.zero_le _
  | some x => exact h x (List.mem_of_getElem? e)
theorem Runs.part {n c : Int} {ps : List (Int × Th)} {r : List Int} {B : Nat} (h : Runs (.st n c ps) r B) {p : Int × Th} (hp : p ∈ ps) : Runs p.2 r B := by
  have g := h.good
  have f := h.full
  have i := h.inp
  have s := h.st
  have d := h.dep
  have x := h.ins
  simp only [Th.good] at g
  simp only [Th.full, Bool.and_eq_true] at f
  simp only [Th.nIn] at i
  simp only [Th.nSt] at s
  simp only [Th.dep] at d
  simp only [Th.ins, insL_eq, List.mem_flatten, List.mem_map] at x
  have h1 := nIn_le hp
  have h2 := nSt_le hp
  have h3 := depL_le.mp (Nat.le_refl (depL ps)) p hp
  exact ⟨goodL_iff.mp g.2 p hp, fullL_iff.mp f.2 p hp, by omega, by omega, by omega, fun i hi => x i ⟨_, ⟨p, hp, rfl⟩, hi⟩, h.row, h.few⟩
theorem Runs.le {t : Th} {r : List Int} {B : Nat} (h : Runs t r B) : (t.tell r).natAbs ≤ 2 ^ (B + 880) :=
  Nat.le_trans (tell_le (rowAt_le h.row) t h.good h.full h.inp) (Nat.pow_le_pow_right (by decide) (by have := h.dep; omega))
theorem w_mul {w x : Int} {B : Nat} (hw : w.natAbs ≤ 10 ^ 30) (hx : x.natAbs ≤ 2 ^ B) (hB : B ≤ 500000) : CMulW w x :=
  wide_mul (a := 110) (b := B + 1) (Nat.lt_of_le_of_lt hw (by decide +kernel)) (Nat.lt_of_le_of_lt hx (Nat.pow_lt_pow_right (by decide) (by omega))) (by decide) (by omega) (by omega)
theorem Runs.mul {n c : Int} {ps : List (Int × Th)} {r : List Int} {B : Nat} (h : Runs (.st n c ps) r B) {w : Int} {t : Th} (hp : (w, t) ∈ ps) : CMulW w (t.tell r) := by
  have g := h.good
  simp only [Th.good] at g
  exact w_mul (g.1.ws.nz w (List.mem_map.mpr ⟨_, hp, rfl⟩)).2 (h.part hp).le (by have := h.few; omega)
theorem Runs.n0 {n c : Int} {ps : List (Int × Th)} {r : List Int} {B : Nat} (h : Runs (.st n c ps) r B) : 1 ≤ n ∧ n ≤ 10 ^ 30 := by
  have g := h.good
  simp only [Th.good] at g
  exact ⟨g.1.n1, g.1.n2⟩
theorem IsPlan.runs {t : Th} (h : IsPlan t) {r : List Int} {B : Nat} (hl : r.length = t.nIn) (hr : ∀ x ∈ r, x.natAbs ≤ 2 ^ B) (hB : B ≤ 100000) : Runs t r B := by
  refine ⟨h.good, h.full, h.inp, h.many, h.deep, fun i hi => ?_, hr, hB⟩
  have := h.perm.mem_iff.mp hi
  unfold rngI at this
  obtain ⟨j, hj, rfl⟩ := List.mem_map.mp this
  have := List.mem_range.mp hj
  exact ⟨Int.natCast_nonneg j, by show (j : Int) < _; omega⟩
theorem divp_small {i j : Int} (h1 : 1 ≤ j) (h2 : j ≤ 10 ^ 30) : CDivP i j := by
  refine ⟨show 0 < j by omega, ?_⟩
  have hl : j.natAbs.log2 < 110 := (Nat.log2_lt (by omega)).mpr (by
    have : j.natAbs ≤ 10 ^ 30 := nat30 (by omega) h2
    exact Nat.lt_of_le_of_lt this (by decide +kernel))
  show (decide ((if j == 0 then 0 else j.natAbs.log2 / 30 + 1) > 300) && decide ((if i == 0 then 0 else i.natAbs.log2 / 30 + 1) > (if j == 0 then 0 else j.natAbs.log2 / 30 + 1) + 150)) = false
  rw [if_neg (show ¬ (j == 0) = true by simpa using (show j ≠ 0 by omega)), decide_eq_false (show ¬ (j.natAbs.log2 / 30 + 1 > 300) by omega), Bool.false_and]
theorem atI_row {r : List Int} {i : Int} (h0 : 0 ≤ i) (h1 : i < (r.length : Nat)) : atI (r.map V.int) i = some (.int (rowAt r i)) := by
  have hl : i.toNat < r.length := by omega
  refine at_of (j := i.toNat) (by omega) ?_
  rw [List.getElem?_map]
  unfold rowAt
  rw [List.getD_eq_getElem?_getD, List.getElem?_eq_getElem hl]
  rfl
end SC
namespace SC
open PySem PySem.Spec PyProof.Rows L2 StrLaws

/-! ## x += e -/
theorem g_aug {i : Nat} {te : TE} {ti : TIp} {D : Ends} {σ : L2.St} {H : Hp} {x : V} (h : σ[i]? = some (some x)) (q : te σ H fun y H1 => ti x y H1 fun z H2 => D.nx (σ.set i (some z)) H2) : tAug i te ti D σ H := ⟨x, h, q⟩
theorem l_ip {f : Int → Int → Int} {m n : Int} {H : Hp} {Q : VK} (q : Q (.int (f m n)) H) : ipI f (.int m) (.int n) H Q := ⟨m, n, rfl, rfl, q⟩

/-! ## repr of data with great integers -/
mutual
def okB : PyData → Bool
  | .none => true
  | .bool _ => true
  | .int i => decide (i.natAbs < 10 ^ 570)
  | .str _ => false
  | .list xs => okBAll xs
  | .tuple xs => okBAll xs
  | .dict _ => false
def okBAll : List PyData → Bool
  | [] => true
  | x :: xs => okB x && okBAll xs
end
theorem log_great {m : Nat} (h : m < 10 ^ 570) : m.log2 < 1920 := log2_small (Nat.lt_trans h (by decide +kernel))
mutual
theorem okB_facts : ∀ d : PyData, okB d = true → d.shown.length + 5 ≤ 590 * nd d ∧ d.showable = true ∧ d.hasDict = false
  | .none, _ => by
    refine ⟨?_, by simp only [PyData.showable], by simp only [PyData.hasDict]⟩
    have e : (PyData.shown .none).length = 4 := rfl
    simp only [nd]; omega
  | .bool b, _ => by
    refine ⟨?_, by simp only [PyData.showable], by simp only [PyData.hasDict]⟩
    have e : (PyData.shown (.bool b)).length ≤ 5 := by cases b <;> decide
    simp only [nd]; omega
  | .int i, h => by
    have h1 : i.natAbs < 10 ^ 570 := by simpa only [okB, decide_eq_true_eq] using h
    refine ⟨?_, by simp only [PyData.showable, decide_eq_true_eq]; exact log_great h1, by simp only [PyData.hasDict]⟩
    have e := int_text_length_le10 (k := 570) (by decide) h1
    have e2 : (PyData.shown (.int i)).length ≤ 571 := by
      show (Str.ofString (toString i)).length ≤ 571
      rw [PySem.ofString_length]
      exact e
    simp only [nd]; omega
  | .str x, h => by simp only [okB] at h; cases h
  | .list xs, h => by
    have h1 := okB_factsA xs (by simpa only [okB] using h)
    have h2 := listText_len_le (PyData.shownAll xs)
    have h3 := PyData.shownAll_length xs
    refine ⟨?_, by simp only [PyData.showable]; exact h1.2.1, by simp only [PyData.hasDict]; exact h1.2.2⟩
    simp only [PyData.shown, nd]
    omega
  | .tuple xs, h => by
    have h1 := okB_factsA xs (by simpa only [okB] using h)
    have h2 := tupleText_len_le (PyData.shownAll xs)
    have h3 := PyData.shownAll_length xs
    refine ⟨?_, by simp only [PyData.showable]; exact h1.2.1, by simp only [PyData.hasDict]; exact h1.2.2⟩
    simp only [PyData.shown, nd]
    omega
  | .dict kvs, h => by simp only [okB] at h; cases h
theorem okB_factsA : ∀ xs : List PyData, okBAll xs = true → ((PyData.shownAll xs).map (·.length)).sum + 5 * xs.length ≤ 590 * ndAll xs ∧ PyData.showableAll xs = true ∧ PyData.hasDictAll xs = false
  | [], _ => ⟨by simp only [PyData.shownAll, ndAll, List.map_nil, List.sum_nil, List.length_nil]; omega, by simp only [PyData.showableAll], by simp only [PyData.hasDictAll]⟩
  | x :: xs, h => by
    have h' : okB x = true ∧ okBAll xs = true := by simpa only [okBAll, Bool.and_eq_true] using h
    have h1 := okB_facts x h'.1
    have h2 := okB_factsA xs h'.2
    refine ⟨?_, by simp only [PyData.showableAll, h1.2.1, h2.2.1, Bool.and_self], by simp only [PyData.hasDictAll, h1.2.2, h2.2.2, Bool.or_self]⟩
    simp only [PyData.shownAll, ndAll, List.map_cons, List.sum_cons, List.length_cons]
    omega
end
theorem okBAll_mem {ds : List PyData} : okBAll ds = true ↔ ∀ d ∈ ds, okB d = true := by
  induction ds with
  | nil => simp [okBAll]
  | cons x xs ih => simp only [okBAll, Bool.and_eq_true, ih, List.mem_cons, forall_eq_or_imp]
theorem okB_int {i : Int} (h : i.natAbs ≤ 2 ^ 1890) : okB (.int i) = true := by
  simp only [okB, decide_eq_true_eq]
  exact Nat.lt_of_le_of_lt h (by decide +kernel)
theorem okB_ints {ns : List Int} (h : ∀ i ∈ ns, i.natAbs ≤ 2 ^ 1890) : okBAll (ns.map PyData.int) = true := okBAll_mem.mpr fun d hd => by
  obtain ⟨i, hi, rfl⟩ := List.mem_map.mp hd
  exact okB_int (h i hi)
mutual
theorem okB_of : ∀ t : Th, okD t.toD = true → okB t.toD = true
  | .inp i, h => by
    simp only [Th.toD, okD, okB, decide_eq_true_eq] at h ⊢
    exact Nat.lt_trans h (by decide +kernel)
  | .st n c ps, h => by
    simp only [Th.toD, okD, okAll, okB, okBAll, Bool.and_true, Bool.and_eq_true, decide_eq_true_eq] at h ⊢
    exact ⟨Nat.lt_trans h.1 (by decide +kernel), Nat.lt_trans h.2.1 (by decide +kernel), okBL_of ps h.2.2⟩
theorem okBL_of : ∀ ps : List (Int × Th), okAll (toDL ps) = true → okBAll (toDL ps) = true
  | [], _ => by simp only [toDL, okBAll]
  | (w, t) :: r, h => by
    simp only [toDL, okD, okAll, okB, okBAll, Bool.and_true, Bool.and_eq_true, decide_eq_true_eq] at h ⊢
    exact ⟨⟨Nat.lt_trans h.1.1 (by decide +kernel), okB_of t h.1.2⟩, okBL_of r h.2⟩
end
structure ShowsB (d : PyData) : Prop where
  ok : okB d = true
  many : nd d ≤ 20000
  deep : d.depth ≤ 60
theorem shown_int (i : Int) : PyData.shown (.int i) = Str.ofString (toString i) := rfl
section
variable {X : Cx}
/-- repr of a list, a tuple, an integer -/
def rReprB (K : PySem.W.Frag) : List V → Hp → VK → Prop := fun xs H Q => ∃ (x : V) (d : PyData), xs = [x] ∧ Dp K H x d ∧ ((∃ a, x = .ref a) ∨ ∃ i, x = .int i) ∧ ShowsB d ∧ Q (.str d.shown) H
theorem call_reprB (hgd : X.A.guards = some []) (hu : X.A.units + 70 < cLine) : CallR X (.builtin "repr") (rReprB X.K) := by
  intro pins s σ H xs us Q I r h
  obtain ⟨x, d, rfl, hd, hk, hs, q⟩ := h
  obtain ⟨f1, f2, f3⟩ := okB_facts d hs.ok
  rcases hk with ⟨a, rfl⟩ | ⟨i, rfl⟩
  · obtain ⟨u, rfl, rx⟩ := vals1 r
    cases rx
    obtain ⟨as, rd⟩ := Dp.reads I d _ _ hd rfl
    have hm := hs.many
    have hp := hs.deep
    refine repr_of_reads' rd f2 (PyData.noDict_hsm f3) hgd (by omega) (fun _ _ e => e) (fun h' u tk hk => ?_) (by rw [sizeLine_eq]; omega)
    exact ⟨.str _, H, I.kept (t' := tk) hk, ⟨_, rfl⟩, q⟩
  · cases hd
    have hl : i.natAbs.log2 < 1920 := by simpa only [PyData.showable, decide_eq_true_eq] using f2
    exact SkE.call_repr_int pins s σ H _ us Q I r ⟨i, rfl, hl, q⟩
/-- max of a tuple of noughts -/
def rMaxT0 (K : PySem.W.Frag) : List V → Hp → VK → Prop := fun vs H Q => ∃ (a : Addr) (n : Nat), vs = [.ref a] ∧ SqT K H a (List.replicate (n + 1) (.int 0)) ∧ Q (.int 0) H
theorem dps_zero {K : PySem.W.Frag} {H : Hp} : ∀ n : Nat, DpAll K H (List.replicate n (.int 0)) (List.replicate n (.int 0))
  | 0 => .nil
  | n + 1 => .cons (.int 0) (dps_zero n)
theorem cr_maxT0 (hc : X.calm = true) (hu : X.A.units + 70 < cLine) : CallR X (.builtin "max") (rMaxT0 X.K) := by
  intro pins s σ H vs us Q I r h
  obtain ⟨a, n, rfl, hs, q⟩ := h
  obtain ⟨its, rv, hl, _⟩ := I.tuple hs
  rw [Vals.ref1 r]
  obtain ⟨as, ra⟩ := Dp.readsAll I _ _ its (dps_zero (n + 1)) rv
  rw [List.replicate_succ] at ra
  have hz : ∀ x ∈ PyData.int 0 :: List.replicate n (PyData.int 0), x = .int 0 := fun x hx => by
    rcases List.mem_cons.mp hx with e | e
    · exact e
    · exact List.eq_of_mem_replicate e
  refine PySem.W.max_tuple_data (I.ok.hd hc) hl (by simpa using ra) ⟨fun x hx y hy => by rw [hz x hx, hz y hy]; simp only [PySem.W.alike], fun x hx => by rw [hz x hx]; intro e; cases e⟩ ?_ fun i v h' tk bs hi rd hk => ?_
  · have : PyData.depthAll (PyData.int 0 :: List.replicate n (PyData.int 0)) ≤ 0 := depthAll_le.mpr fun d hd => by rw [hz d hd]; simp only [PyData.depth]; omega
    omega
  · have hi2 : its[i]? = some v := by simpa using hi
    have hlt : i < (List.replicate (n + 1) (V.int 0)).length := by
      rw [rv.length]
      exact (List.getElem?_eq_some_iff.mp hi2).1
    obtain ⟨u, hu2, ru⟩ := rv.get (List.getElem?_eq_getElem hlt)
    rw [hi2] at hu2
    obtain rfl := Option.some.inj hu2
    rw [List.getElem_replicate] at ru
    exact ⟨.int 0, H, I.kept hk, ru, q⟩
end
end SC
namespace SC
open PySem PySem.Spec PyProof.Rows L2 StrLaws

/-! ## fractions in least terms -/
def gcdN (a b : Int) : Nat := Nat.gcd a.natAbs b.natAbs
def lst (a b : Int) : Int × Int := (a / (gcdN a b : Int), b / (gcdN a b : Int))
theorem gcdN_pos {a b : Int} (h : 0 < b) : 0 < gcdN a b := Nat.gcd_pos_of_pos_right _ (by omega)
theorem gcdN_le {a b : Int} (h : 0 < b) : (gcdN a b : Int) ≤ b := by
  have := Nat.gcd_le_right a.natAbs (show 0 < b.natAbs by omega)
  unfold gcdN
  omega
theorem gcdN_d1 (a b : Int) : ((gcdN a b : Nat) : Int) ∣ a := Int.ofNat_dvd_left.mpr (Nat.gcd_dvd_left _ _)
theorem gcdN_d2 (a b : Int) : ((gcdN a b : Nat) : Int) ∣ b := Int.ofNat_dvd_left.mpr (Nat.gcd_dvd_right _ _)
theorem lst_1 (a b : Int) : (lst a b).1 * (gcdN a b : Int) = a := Int.ediv_mul_cancel (gcdN_d1 a b)
theorem lst_2 (a b : Int) : (lst a b).2 * (gcdN a b : Int) = b := Int.ediv_mul_cancel (gcdN_d2 a b)
theorem lst_pos {a b : Int} (h : 0 < b) : 0 < (lst a b).2 := by
  have h1 := lst_2 a b
  have h2 : (0 : Int) < (gcdN a b : Int) := by have := gcdN_pos (a := a) h; omega
  refine Int.lt_of_not_ge fun h3 => ?_
  have := Int.mul_le_mul_of_nonneg_right h3 (Int.le_of_lt h2)
  rw [h1, Int.zero_mul] at this
  omega
theorem lst_cross (a b : Int) : (lst a b).1 * b = a * (lst a b).2 := by
  have h1 := lst_1 a b
  have h2 := lst_2 a b
  generalize (lst a b).1 = x at *
  generalize (lst a b).2 = y at *
  generalize (gcdN a b : Int) = g at *
  rw [← h1, ← h2, Int.mul_assoc, Int.mul_comm y g]
theorem lst_le1 (a b : Int) : (lst a b).1.natAbs ≤ a.natAbs := by
  have h1 := lst_1 a b
  by_cases h : gcdN a b = 0
  · have : a / ((0 : Nat) : Int) = 0 := Int.ediv_zero a
    unfold lst; rw [h]; simp
  · have h2 := congrArg Int.natAbs h1
    rw [Int.natAbs_mul, Int.natAbs_natCast] at h2
    rw [← h2]
    exact Nat.le_mul_of_pos_right _ (Nat.pos_of_ne_zero h)
theorem lst_le2 (a b : Int) : (lst a b).2.natAbs ≤ b.natAbs := by
  have h1 := lst_2 a b
  by_cases h : gcdN a b = 0
  · unfold lst; rw [h]; simp
  · have h2 := congrArg Int.natAbs h1
    rw [Int.natAbs_mul, Int.natAbs_natCast] at h2
    rw [← h2]
    exact Nat.le_mul_of_pos_right _ (Nat.pos_of_ne_zero h)
theorem lst_scale {a b k : Int} (hb : 0 < b) (hk : 0 < k) : lst (a * k) (b * k) = lst a b := by
  have hg : gcdN (a * k) (b * k) = gcdN a b * k.natAbs := by
    unfold gcdN
    rw [Int.natAbs_mul, Int.natAbs_mul, Nat.gcd_mul_right]
  have hk2 : ((gcdN a b * k.natAbs : Nat) : Int) = (gcdN a b : Int) * k := by
    rw [Int.natCast_mul]
    congr 1
    omega
  unfold lst
  rw [hg, hk2, Int.mul_ediv_mul_of_pos_left _ _ hk, Int.mul_ediv_mul_of_pos_left _ _ hk]
theorem lst_eq {a b c d : Int} (hb : 0 < b) (hd : 0 < d) (h : a * d = c * b) : lst a b = lst c d := by
  rw [← lst_scale hb hd, h, Int.mul_comm b d, lst_scale hd hb]
theorem lst_scaled {a b f d : Int} (hb : 0 < b) (hd : 0 < d) : lst ((lst a b).1 * f) ((lst a b).2 * d) = lst (a * f) (b * d) := by
  refine lst_eq (Int.mul_pos (lst_pos hb) hd) (Int.mul_pos hb hd) ?_
  have := lst_cross a b
  generalize (lst a b).1 = x at *
  generalize (lst a b).2 = y at *
  have e : x * f * (b * d) = (x * b) * (f * d) := by simp only [Int.mul_assoc, Int.mul_left_comm, Int.mul_comm]
  have e2 : a * f * (y * d) = (a * y) * (f * d) := by simp only [Int.mul_assoc, Int.mul_left_comm, Int.mul_comm]
  rw [e, e2, this]
theorem lst_one {a b : Int} (hb : 0 < b) : lst ((lst a b).1) ((lst a b).2) = lst a b := by
  refine lst_eq (lst_pos hb) hb ?_
  exact lst_cross a b
theorem lst_sum {a b c d : Int} (hb : 0 < b) (hd : 0 < d) : lst ((lst a b).1 * (lst c d).2 + (lst c d).1 * (lst a b).2) ((lst a b).2 * (lst c d).2) = lst (a * d + c * b) (b * d) := by
  refine lst_eq (Int.mul_pos (lst_pos hb) (lst_pos hd)) (Int.mul_pos hb hd) ?_
  have h1 := lst_cross a b
  have h2 := lst_cross c d
  generalize (lst a b).1 = x at *
  generalize (lst a b).2 = y at *
  generalize (lst c d).1 = u at *
  generalize (lst c d).2 = v at *
  rw [Int.add_mul, Int.add_mul]
  have e1 : x * v * (b * d) = (x * b) * (v * d) := by simp only [Int.mul_assoc, Int.mul_left_comm, Int.mul_comm]
  have e2 : u * y * (b * d) = (u * d) * (y * b) := by simp only [Int.mul_assoc, Int.mul_left_comm, Int.mul_comm]
  have e3 : a * d * (y * v) = (a * y) * (v * d) := by simp only [Int.mul_assoc, Int.mul_left_comm, Int.mul_comm]
  have e4 : c * b * (y * v) = (c * v) * (y * b) := by simp only [Int.mul_assoc, Int.mul_left_comm, Int.mul_comm]
  rw [e1, e2, e3, e4, h1, h2]
/-- the sum of fractions, one behind another -/
def addF (t f : Int × Int) : Int × Int := lst (t.1 * f.2 + f.1 * t.2) (t.2 * f.2)
def sumF (fs : List (Int × Int)) : Int × Int := fs.foldl addF (0, 1)
theorem sumF_snoc (fs : List (Int × Int)) (f : Int × Int) : sumF (fs ++ [f]) = addF (sumF fs) f := by
  unfold sumF
  rw [List.foldl_append]
  rfl
theorem sumF_take {fs : List (Int × Int)} {i : Nat} {f : Int × Int} (h : fs[i]? = some f) : sumF (fs.take (i + 1)) = addF (sumF (fs.take i)) f := by
  rw [take_one h, sumF_snoc]
theorem lst_01 : lst 0 1 = (0, 1) := by decide

/-! ## exact values, not in least terms -/
mutual
def Th.ex (r : List Int) : Th → Int × Int
  | .inp i => (rowAt r i, 1)
  | .st n _ ps => ((exL r ps).1, (exL r ps).2 * n)
def exL (r : List Int) : List (Int × Th) → Int × Int
  | [] => (0, 1)
  | (w, t) :: q => (w * (t.ex r).1 * (exL r q).2 + (exL r q).1 * (t.ex r).2, (t.ex r).2 * (exL r q).2)
end
mutual
theorem ex_pos (r : List Int) : ∀ t : Th, t.good → 0 < (t.ex r).2
  | .inp _, _ => by simp only [Th.ex]; omega
  | .st n c ps, g => by
    simp only [Th.good] at g
    simp only [Th.ex]
    exact Int.mul_pos (exL_pos r ps g.2) (by have := g.1.n1; omega)
theorem exL_pos (r : List Int) : ∀ ps : List (Int × Th), goodL ps → 0 < (exL r ps).2
  | [], _ => by simp only [exL]; omega
  | (w, t) :: q, g => by
    simp only [goodL] at g
    simp only [exL]
    exact Int.mul_pos (ex_pos r t g.1) (exL_pos r q g.2)
end
theorem exL_snoc (r : List Int) (w : Int) (t : Th) : ∀ ps : List (Int × Th), exL r (ps ++ [(w, t)]) = ((exL r ps).1 * (t.ex r).2 + w * (t.ex r).1 * (exL r ps).2, (exL r ps).2 * (t.ex r).2)
  | [] => by simp [exL]
  | (w0, t0) :: q => by
    rw [List.cons_append]
    simp only [exL]
    rw [exL_snoc r w t q]
    simp only
    refine Prod.ext ?_ ?_
    · simp only [Int.add_mul]
      have e1 : w0 * (t0.ex r).1 * ((exL r q).2 * (t.ex r).2) = w0 * (t0.ex r).1 * (exL r q).2 * (t.ex r).2 := by simp only [Int.mul_assoc]
      have e2 : (exL r q).1 * (t.ex r).2 * (t0.ex r).2 = (exL r q).1 * (t0.ex r).2 * (t.ex r).2 := Int.mul_right_comm _ _ _
      have e3 : w * (t.ex r).1 * (exL r q).2 * (t0.ex r).2 = w * (t.ex r).1 * ((t0.ex r).2 * (exL r q).2) := by simp only [Int.mul_assoc, Int.mul_comm, Int.mul_left_comm]
      rw [e1, e2, e3]
      omega
    · exact (Int.mul_assoc _ _ _).symm
theorem exL_take {r : List Int} {ps : List (Int × Th)} {i : Nat} {w : Int} {t : Th} (h : ps[i]? = some (w, t)) : exL r (ps.take (i + 1)) = ((exL r (ps.take i)).1 * (t.ex r).2 + w * (t.ex r).1 * (exL r (ps.take i)).2, (exL r (ps.take i)).2 * (t.ex r).2) := by
  rw [take_one h, exL_snoc]
/-- the law's sum over the parts -/
def lawS (r : List Int) (W : Int) : List (Int × Th) → Int
  | [] => 0
  | (w, t) :: q => w * (t.ex r).1 * (W / (t.ex r).2) + lawS r W q
theorem lawS_app (r : List Int) (W : Int) : ∀ a b : List (Int × Th), lawS r W (a ++ b) = lawS r W a + lawS r W b
  | [], b => by simp [lawS]
  | (w, t) :: a, b => by simp only [List.cons_append, lawS, lawS_app r W a b]; omega
theorem lawS_take {r : List Int} {W : Int} {ps : List (Int × Th)} {i : Nat} {w : Int} {t : Th} (h : ps[i]? = some (w, t)) : lawS r W (ps.take (i + 1)) = lawS r W (ps.take i) + w * (t.ex r).1 * (W / (t.ex r).2) := by
  rw [take_one h, lawS_app]
  simp only [lawS]; omega
theorem lawS_eq (r : List Int) : ∀ (ps : List (Int × Th)) (M : Int), goodL ps → lawS r (M * (exL r ps).2) ps = M * (exL r ps).1
  | [], M, _ => by simp [lawS, exL]
  | (w, t) :: q, M, g => by
    simp only [goodL] at g
    have hp := ex_pos r t g.1
    have ih := lawS_eq r q (M * (t.ex r).2) g.2
    simp only [lawS, exL]
    have e1 : M * ((t.ex r).2 * (exL r q).2) = M * (t.ex r).2 * (exL r q).2 := (Int.mul_assoc _ _ _).symm
    have e2 : M * (t.ex r).2 * (exL r q).2 = M * (exL r q).2 * (t.ex r).2 := Int.mul_right_comm _ _ _
    have e3 : M * ((t.ex r).2 * (exL r q).2) / (t.ex r).2 = M * (exL r q).2 := by
      rw [e1, e2, Int.mul_ediv_cancel _ (by omega)]
    rw [e3, e1, ih, Int.mul_add]
    have e4 : w * (t.ex r).1 * (M * (exL r q).2) = M * (w * (t.ex r).1 * (exL r q).2) := by simp only [Int.mul_assoc, Int.mul_left_comm, Int.mul_comm]
    have e5 : M * (t.ex r).2 * (exL r q).1 = M * ((exL r q).1 * (t.ex r).2) := by simp only [Int.mul_assoc, Int.mul_left_comm, Int.mul_comm]
    rw [e4, e5]
theorem lawS_one {r : List Int} {ps : List (Int × Th)} (g : goodL ps) : lawS r (exL r ps).2 ps = (exL r ps).1 := by
  have := lawS_eq r ps 1 g
  simpa only [Int.one_mul] using this
/-- the program's fractions of the parts -/
def partsF (r : List Int) (ps : List (Int × Th)) : List (Int × Int) := ps.map fun p => lst (p.1 * (p.2.ex r).1) ((p.2.ex r).2)
theorem sumF_parts {r : List Int} {ps : List (Int × Th)} (g : goodL ps) : ∀ i, sumF ((partsF r ps).take i) = lst (exL r (ps.take i)).1 (exL r (ps.take i)).2
  | 0 => by simp only [List.take_zero, exL, sumF, List.foldl_nil, lst_01]
  | i + 1 => by
    have ih := sumF_parts (r := r) g i
    cases e : ps[i]? with
    | none =>
      have hl : ps.length ≤ i := List.getElem?_eq_none_iff.mp e
      have e1 : (partsF r ps).take (i + 1) = (partsF r ps).take i := by
        rw [List.take_of_length_le (by unfold partsF; rw [List.length_map]; omega), List.take_of_length_le (by unfold partsF; rw [List.length_map]; omega)]
      have e2 : ps.take (i + 1) = ps.take i := by rw [List.take_of_length_le (by omega), List.take_of_length_le hl]
      rw [e1, e2, ih]
    | some p =>
      obtain ⟨w, t⟩ := p
      have h1 : (partsF r ps)[i]? = some (lst (w * (t.ex r).1) (t.ex r).2) := by unfold partsF; rw [List.getElem?_map, e]; rfl
      have gt : goodL (ps.take i) := goodL_iff.mpr fun p hp => goodL_iff.mp g p (List.mem_of_mem_take hp)
      have gp := goodL_iff.mp g _ (List.mem_of_getElem? e)
      rw [sumF_take h1, ih, exL_take e]
      unfold addF
      rw [lst_sum (exL_pos r _ gt) (ex_pos r t gp)]
theorem sumF_all {r : List Int} {ps : List (Int × Th)} (g : goodL ps) : sumF (partsF r ps) = lst (exL r ps).1 (exL r ps).2 := by
  have := sumF_parts (r := r) g ps.length
  rwa [List.take_length, show (partsF r ps).take ps.length = partsF r ps from List.take_of_length_le (by unfold partsF; rw [List.length_map]; omega)] at this
end SC
namespace SC
open PySem PySem.Spec PyProof.Rows L2 StrLaws

/-! ## how great exact values get -/
abbrev ZN : Nat := 10 ^ 30
theorem znpos (k : Nat) : 1 ≤ ZN ^ k := Nat.one_le_pow _ _ (by decide)
theorem mul_le3 {a b c d : Nat} (h : a ≤ b) (k : c ≤ d) : a * c ≤ b * d := Nat.mul_le_mul h k
mutual
theorem ex_le {r : List Int} {R : Nat} (hr : ∀ i : Int, (rowAt r i).natAbs ≤ R) : ∀ t : Th, t.good → (t.ex r).1.natAbs ≤ t.nIn * R * ZN ^ t.nSt ∧ (t.ex r).2.natAbs ≤ ZN ^ t.nSt
  | .inp i, _ => by
    simp only [Th.ex, Th.nIn, Th.nSt, Nat.pow_zero, Nat.mul_one, Nat.one_mul]
    exact ⟨hr i, by decide⟩
  | .st n c ps, g => by
    simp only [Th.good] at g
    have hw : ∀ p ∈ ps, p.1.natAbs ≤ ZN := fun p hp => (g.1.ws.nz p.1 (List.mem_map.mpr ⟨p, hp, rfl⟩)).2
    obtain ⟨h1, h2⟩ := exL_le hr ps g.2 hw
    simp only [Th.ex, Th.nIn, Th.nSt]
    refine ⟨h1, ?_⟩
    rw [Int.natAbs_mul, Nat.pow_succ]
    exact Nat.mul_le_mul h2 (nat30 (by have := g.1.n1; omega) g.1.n2)
theorem exL_le {r : List Int} {R : Nat} (hr : ∀ i : Int, (rowAt r i).natAbs ≤ R) : ∀ ps : List (Int × Th), goodL ps → (∀ p ∈ ps, p.1.natAbs ≤ ZN) → (exL r ps).1.natAbs ≤ nInL ps * R * ZN ^ (nStL ps + 1) ∧ (exL r ps).2.natAbs ≤ ZN ^ nStL ps
  | [], _, _ => by simp only [exL, nInL, nStL]; exact ⟨Nat.zero_le _, by decide⟩
  | (w, t) :: q, g, hw => by
    simp only [goodL] at g
    obtain ⟨h1, h2⟩ := ex_le hr t g.1
    obtain ⟨h3, h4⟩ := exL_le hr q g.2 fun p hp => hw p (List.mem_cons_of_mem _ hp)
    have h5 : w.natAbs ≤ ZN := hw (w, t) (List.mem_cons_self ..)
    simp only [exL, nInL, nStL]
    refine ⟨?_, ?_⟩
    · have k1 : (w * (t.ex r).1 * (exL r q).2).natAbs ≤ t.nIn * R * ZN ^ (t.nSt + nStL q + 1) := by
        rw [Int.natAbs_mul, Int.natAbs_mul]
        refine Nat.le_trans (Nat.mul_le_mul (Nat.mul_le_mul h5 h1) h4) (Nat.le_of_eq ?_)
        rw [Nat.pow_succ, Nat.pow_add]
        simp only [Nat.mul_assoc, Nat.mul_left_comm, Nat.mul_comm]
      have k2 : ((exL r q).1 * (t.ex r).2).natAbs ≤ nInL q * R * ZN ^ (t.nSt + nStL q + 1) := by
        rw [Int.natAbs_mul]
        refine Nat.le_trans (Nat.mul_le_mul h3 h2) (Nat.le_of_eq ?_)
        rw [Nat.pow_succ, Nat.pow_succ, Nat.pow_add]
        simp only [Nat.mul_assoc, Nat.mul_left_comm, Nat.mul_comm]
      rw [Nat.add_mul, Nat.add_mul]
      exact Nat.le_trans (natAbs_add_le' _ _) (Nat.add_le_add k1 k2)
    · rw [Int.natAbs_mul, Nat.pow_add]
      exact Nat.mul_le_mul h2 h4
end
/-! ## what is told less the exact value, not in least terms -/
def Th.er (r : List Int) (t : Th) : Int := t.tell r * (t.ex r).2 - (t.ex r).1
def erL (r : List Int) (ps : List (Int × Th)) : Int := tellL r ps * (exL r ps).2 - (exL r ps).1
theorem erL_cons (r : List Int) (w : Int) (t : Th) (q : List (Int × Th)) : erL r ((w, t) :: q) = w * (exL r q).2 * t.er r + (t.ex r).2 * erL r q := by
  unfold erL Th.er
  simp only [tellL, exL, Int.add_mul, Int.mul_sub]
  have e1 : w * t.tell r * ((t.ex r).2 * (exL r q).2) = w * (exL r q).2 * (t.tell r * (t.ex r).2) := by simp only [Int.mul_assoc, Int.mul_left_comm, Int.mul_comm]
  have e2 : tellL r q * ((t.ex r).2 * (exL r q).2) = (t.ex r).2 * (tellL r q * (exL r q).2) := by simp only [Int.mul_assoc, Int.mul_left_comm, Int.mul_comm]
  have e3 : w * (exL r q).2 * (t.ex r).1 = w * (t.ex r).1 * (exL r q).2 := Int.mul_right_comm _ _ _
  have e4 : (t.ex r).2 * (exL r q).1 = (exL r q).1 * (t.ex r).2 := Int.mul_comm _ _
  rw [e1, e2, e3, e4]
  omega
/-- the rest of a stage -/
def restOf (r : List Int) (n c : Int) (ps : List (Int × Th)) : Int := (c + tellL r ps) % n
theorem er_st (r : List Int) (n c : Int) (ps : List (Int × Th)) : (Th.st n c ps).er r = (exL r ps).2 * (c - restOf r n c ps) + erL r ps := by
  have h : (c + tellL r ps) / n * n = c + tellL r ps - restOf r n c ps := by
    have := Int.emod_add_mul_ediv (c + tellL r ps) n
    unfold restOf
    rw [Int.mul_comm n] at this
    omega
  unfold Th.er erL
  simp only [Th.tell, Th.ex]
  have e1 : (c + tellL r ps) / n * ((exL r ps).2 * n) = (exL r ps).2 * ((c + tellL r ps) / n * n) := by simp only [Int.mul_assoc, Int.mul_left_comm, Int.mul_comm]
  rw [e1, h, Int.mul_sub, Int.mul_sub, Int.mul_add, Int.mul_comm (exL r ps).2 (tellL r ps)]
  omega
mutual
theorem er_le (r : List Int) : ∀ t : Th, t.good → (t.er r).natAbs ≤ t.nSt * ZN ^ t.nSt
  | .inp i, _ => by
    unfold Th.er
    simp only [Th.tell, Th.ex, Th.nSt, Nat.zero_mul]
    omega
  | .st n c ps, g => by
    have g0 := g
    simp only [Th.good] at g
    have hw : ∀ p ∈ ps, p.1.natAbs ≤ ZN := fun p hp => (g.1.ws.nz p.1 (List.mem_map.mpr ⟨p, hp, rfl⟩)).2
    have h1 := erL_le r ps g.2 hw
    have h2 : (exL r ps).2.natAbs ≤ ZN ^ nStL ps := (exL_le (r := []) (R := 0) (fun i => by simp [rowAt]) ps g.2 hw).2 |> fun h => by rwa [exL_2 r [] ps]
    have n1 := g.1.n1
    have n2 : n.natAbs ≤ ZN := nat30 (by omega) g.1.n2
    have c0 := g.1.c0
    have c1 := g.1.c1
    have q0 : 0 ≤ restOf r n c ps := Int.emod_nonneg _ (by omega)
    have q1 : restOf r n c ps < n := Int.emod_lt_of_pos _ (by omega)
    rw [er_st]
    simp only [Th.nSt]
    have k1 : ((exL r ps).2 * (c - restOf r n c ps)).natAbs ≤ ZN ^ (nStL ps + 1) := by
      rw [Int.natAbs_mul, Nat.pow_succ]
      exact Nat.mul_le_mul h2 (Nat.le_trans (by omega) n2)
    rw [Nat.add_mul, Nat.one_mul, Nat.add_comm (nStL ps * _)]
    exact Nat.le_trans (natAbs_add_le' _ _) (Nat.add_le_add k1 h1)
theorem erL_le (r : List Int) : ∀ ps : List (Int × Th), goodL ps → (∀ p ∈ ps, p.1.natAbs ≤ ZN) → (erL r ps).natAbs ≤ nStL ps * ZN ^ (nStL ps + 1)
  | [], _, _ => by unfold erL; simp [tellL, exL]
  | (w, t) :: q, g, hw => by
    simp only [goodL] at g
    have h1 := er_le r t g.1
    have hw' : ∀ p ∈ q, p.1.natAbs ≤ ZN := fun p hp => hw p (List.mem_cons_of_mem _ hp)
    have h2 := erL_le r q g.2 hw'
    have h3 : (exL r q).2.natAbs ≤ ZN ^ nStL q := (exL_le (r := []) (R := 0) (fun i => by simp [rowAt]) q g.2 hw').2 |> fun h => by rwa [exL_2 r [] q]
    have h4 : (t.ex r).2.natAbs ≤ ZN ^ t.nSt := (ex_le (r := []) (R := 0) (fun i => by simp [rowAt]) t g.1).2 |> fun h => by rwa [ex_2 r [] t]
    have h5 : w.natAbs ≤ ZN := hw (w, t) (List.mem_cons_self ..)
    rw [erL_cons]
    simp only [nStL]
    have k1 : (w * (exL r q).2 * t.er r).natAbs ≤ t.nSt * ZN ^ (t.nSt + nStL q + 1) := by
      rw [Int.natAbs_mul, Int.natAbs_mul]
      refine Nat.le_trans (Nat.mul_le_mul (Nat.mul_le_mul h5 h3) h1) (Nat.le_of_eq ?_)
      rw [Nat.pow_succ, Nat.pow_add]
      simp only [Nat.mul_assoc, Nat.mul_left_comm, Nat.mul_comm]
    have k2 : ((t.ex r).2 * erL r q).natAbs ≤ nStL q * ZN ^ (t.nSt + nStL q + 1) := by
      rw [Int.natAbs_mul]
      refine Nat.le_trans (Nat.mul_le_mul h4 h2) (Nat.le_of_eq ?_)
      rw [Nat.pow_succ, Nat.pow_succ, Nat.pow_add]
      simp only [Nat.mul_assoc, Nat.mul_left_comm, Nat.mul_comm]
    rw [Nat.add_mul]
    exact Nat.le_trans (natAbs_add_le' _ _) (Nat.add_le_add k1 k2)
theorem ex_2 (r r' : List Int) : ∀ t : Th, (t.ex r).2 = (t.ex r').2
  | .inp i => by simp only [Th.ex]
  | .st n c ps => by simp only [Th.ex, exL_2 r r' ps]
theorem exL_2 (r r' : List Int) : ∀ ps : List (Int × Th), (exL r ps).2 = (exL r' ps).2
  | [] => by simp only [exL]
  | (w, t) :: q => by simp only [exL, ex_2 r r' t, exL_2 r r' q]
end
theorem zn12 : ZN ^ 12 ≤ 2 ^ 1196 := by decide +kernel
theorem zn_le {k : Nat} (h : k ≤ 12) : ZN ^ k ≤ 2 ^ 1196 := Nat.le_trans (Nat.pow_le_pow_right (by decide) h) zn12
theorem mul24 {m B k : Nat} (h : m ≤ 24) (hk : k ≤ 12) : m * 2 ^ B * ZN ^ k ≤ 2 ^ (B + 1201) := by
  have h1 : m * 2 ^ B ≤ 2 ^ (B + 5) := by
    rw [Nat.pow_add, Nat.mul_comm]
    exact Nat.mul_le_mul_left _ (by omega)
  refine Nat.le_trans (Nat.mul_le_mul h1 (zn_le hk)) (Nat.le_of_eq ?_)
  rw [← Nat.pow_add]
theorem Runs.ex1 {t : Th} {r : List Int} {B : Nat} (h : Runs t r B) : (t.ex r).1.natAbs ≤ 2 ^ (B + 1201) :=
  Nat.le_trans (ex_le (rowAt_le h.row) t h.good).1 (mul24 h.inp h.st)
theorem Runs.ex2 {t : Th} {r : List Int} {B : Nat} (h : Runs t r B) : (t.ex r).2.natAbs ≤ 2 ^ 1196 :=
  Nat.le_trans (ex_le (rowAt_le h.row) t h.good).2 (zn_le h.st)
theorem Runs.er {t : Th} {r : List Int} {B : Nat} (h : Runs t r B) : (t.er r).natAbs ≤ 2 ^ 1200 := by
  refine Nat.le_trans (er_le r t h.good) (Nat.le_trans (Nat.mul_le_mul (show t.nSt ≤ 2 ^ 4 by have := h.st; omega) (zn_le h.st)) (Nat.le_of_eq ?_))
  rw [← Nat.pow_add]
theorem Runs.pos {t : Th} {r : List Int} {B : Nat} (h : Runs t r B) : 0 < (t.ex r).2 := ex_pos r t h.good
theorem Runs.goodL {n c : Int} {ps : List (Int × Th)} {r : List Int} {B : Nat} (h : Runs (.st n c ps) r B) : goodL ps := by
  have g := h.good
  simp only [Th.good] at g
  exact g.2
theorem Runs.ws {n c : Int} {ps : List (Int × Th)} {r : List Int} {B : Nat} (h : Runs (.st n c ps) r B) : ∀ p ∈ ps, p.1.natAbs ≤ ZN := fun p hp => by
  have g := h.good
  simp only [Th.good] at g
  exact (g.1.ws.nz p.1 (List.mem_map.mpr ⟨p, hp, rfl⟩)).2
theorem take_goodL {ps : List (Int × Th)} (g : goodL ps) (i : Nat) : SC.goodL (ps.take i) := goodL_iff.mpr fun p hp => goodL_iff.mp g p (List.mem_of_mem_take hp)
theorem nIn_takeL (ps : List (Int × Th)) (i : Nat) : nInL (ps.take i) ≤ nInL ps := by
  have e : ps = ps.take i ++ ps.drop i := (List.take_append_drop ..).symm
  have := nInL_app (ps.take i) (ps.drop i)
  rw [← e] at this
  omega
theorem nSt_takeL (ps : List (Int × Th)) (i : Nat) : nStL (ps.take i) ≤ nStL ps := by
  have e : ps = ps.take i ++ ps.drop i := (List.take_append_drop ..).symm
  have := nStL_app (ps.take i) (ps.drop i)
  rw [← e] at this
  omega
theorem Runs.exT {n c : Int} {ps : List (Int × Th)} {r : List Int} {B : Nat} (h : Runs (.st n c ps) r B) (i : Nat) : (exL r (ps.take i)).1.natAbs ≤ 2 ^ (B + 1201) ∧ (exL r (ps.take i)).2.natAbs ≤ 2 ^ 1196 ∧ 0 < (exL r (ps.take i)).2 := by
  have h1 := h.inp
  have h2 := h.st
  simp only [Th.nIn] at h1
  simp only [Th.nSt] at h2
  have h3 := nIn_takeL ps i
  have h4 := nSt_takeL ps i
  obtain ⟨k1, k2⟩ := exL_le (rowAt_le h.row) (ps.take i) (take_goodL h.goodL i) fun p hp => h.ws p (List.mem_of_mem_take hp)
  exact ⟨Nat.le_trans k1 (mul24 (by omega) (by omega)), Nat.le_trans k2 (zn_le (by omega)), exL_pos r _ (take_goodL h.goodL i)⟩
theorem big_mul {a b : Int} {x y : Nat} (ha : a.natAbs ≤ 2 ^ x) (hb : b.natAbs ≤ 2 ^ y) (h : x + y ≤ 900000) : CMulW a b :=
  wide_mul (a := x + 1) (b := y + 1) (Nat.lt_of_le_of_lt ha (Nat.pow_lt_pow_right (by decide) (by omega))) (Nat.lt_of_le_of_lt hb (Nat.pow_lt_pow_right (by decide) (by omega))) (by omega) (by omega) (by omega)
theorem big_prod {a b : Int} {x y : Nat} (ha : a.natAbs ≤ 2 ^ x) (hb : b.natAbs ≤ 2 ^ y) : (a * b).natAbs ≤ 2 ^ (x + y) := by
  rw [Int.natAbs_mul, Nat.pow_add]
  exact Nat.mul_le_mul ha hb
theorem gcd_div {a b : Int} {y : Nat} (h : 0 < b) (hb : b.natAbs ≤ 2 ^ y) (hy : y ≤ 8000) (i : Int) : CDivW i ((gcdN a b : Nat) : Int) := by
  have h1 := gcdN_pos (a := a) h
  have h2 := gcdN_le (a := a) h
  refine wide_div (b := y + 1) (by omega) ?_ (by omega) (by omega)
  rw [Int.natAbs_natCast]
  have : gcdN a b ≤ 2 ^ y := by omega
  exact Nat.lt_of_le_of_lt this (Nat.pow_lt_pow_right (by decide) (by omega))
end SC
namespace SC
open PySem PySem.Spec PyProof.Rows L2 StrLaws

/-! ## for x, y, z in zip(xs, ys, zs), three lists -/
def Itz3 (K : PySem.W.Frag) (a b c : Addr) : It :=
  ⟨fun i H => ∃ (xs ys zs : List V) (x y z : V), SqL K H a xs ∧ SqL K H b ys ∧ SqL K H c zs ∧ xs[i]? = some x ∧ ys[i]? = some y ∧ zs[i]? = some z,
    fun i H v H' => ∃ T x y z, v = .ref T ∧ H T = none ∧ H' = upd H T (.tup [x, y, z]) ∧ (∀ xs, SqL K H a xs → xs[i]? = some x) ∧ (∀ ys, SqL K H b ys → ys[i]? = some y) ∧ ∀ zs, SqL K H c zs → zs[i]? = some z,
    fun i H => ∃ xs ys zs : List V, SqL K H a xs ∧ SqL K H b ys ∧ SqL K H c zs ∧ i = min (min xs.length ys.length) zs.length⟩
theorem turn_zip3 {P : Program} {w : World} {K : PySem.W.Frag} {elts : List Expr} {kk : Nat} {tpos : Pos} {a b c z TI TO i1 i2 i3 : Addr} (S : ZipSep3 z TI TO i1 i2 i3 [i1, a] [i2, b] [i3, c]) (na : a ≠ i1) (nb : b ≠ i2) (nc : c ≠ i3) :
    Turn P w K (.Tuple elts kk tpos) (Itz3 K a b c) [z, TI, TO, i1, i2, i3] z (fun i h => IsZip h z TI TO .none ∧ IsTupOf3 h TI (.ref i1) (.ref i2) (.ref i3) ∧ (∃ x y u, IsTupOf3 h TO x y u) ∧ h.IsListIter i1 a i ∧ h.IsListIter i2 b i ∧ h.IsListIter i3 c i) where
  mem := by simp
  obj := fun i h st d hd => by
    obtain ⟨hz, hTI, ⟨x, y, u, hTO⟩, ⟨o1, e1, _, d1⟩, ⟨o2, e2, _, d2⟩, ⟨o3, e3, _, d3⟩⟩ := st
    have e' : d = z ∨ d = TI ∨ d = TO ∨ d = i1 ∨ d = i2 ∨ d = i3 := by simpa using hd
    rcases e' with q | q | q | q | q | q
    · rw [q]; exact ⟨_, hz, fun v q => nomatch q⟩
    · rw [q]; exact ⟨_, hTI, fun v q => nomatch q⟩
    · rw [q]; exact ⟨_, hTO, fun v q => nomatch q⟩
    · rw [q]; exact ⟨o1, e1, fun v q => by rw [d1] at q; cases q⟩
    · rw [q]; exact ⟨o2, e2, fun v q => by rw [d2] at q; cases q⟩
    · rw [q]; exact ⟨o3, e3, fun v q => by rw [d3] at q; cases q⟩
  keep := fun i h h' st k => by
    obtain ⟨hz, hTI, ⟨x, y, u, hTO⟩, h1, h2, h3⟩ := st
    exact ⟨k z (by simp) _ hz, k TI (by simp) _ hTI, ⟨x, y, u, k TO (by simp) _ hTO⟩, h1.at fun o q => k i1 (by simp) o q, h2.at fun o q => k i2 (by simp) o q, h3.at fun o q => k i3 (by simp) o q⟩
  item := by
    intro X hP hw hK hc i pins s σ H E I hf st hg
    subst hP hw hK
    obtain ⟨hz, hTI, hTO, h1, h2, h3⟩ := st
    obtain ⟨xs, ys, zs, x, y, u, hqx, hqy, hqz, hx, hy, hu⟩ := hg
    obtain ⟨its, rv, p, _⟩ := I.list hqx
    obtain ⟨its2, rv2, p2, _⟩ := I.list hqy
    obtain ⟨its3, rv3, p3, _⟩ := I.list hqz
    have hh : X.A.in1.handled = none := I.ok.hd hc
    have W := GoesN.zip3 (prog := X.prog) (w := X.w) (A := X.A) (elts := elts) (x1 := kk) (pos := tpos) S (Draws.list hh i1 a na its.toArray) (Draws.list hh i2 b nb its2.toArray) (Draws.list hh i3 c nc its3.toArray)
    obtain ⟨v1, hv1, r1⟩ := rv.get hx
    obtain ⟨v2, hv2, r2⟩ := rv2.get hy
    obtain ⟨v3, hv3, r3⟩ := rv3.get hu
    have l1 := (List.getElem?_eq_some_iff.mp hv1).1
    have l2 := (List.getElem?_eq_some_iff.mp hv2).1
    have l3 := (List.getElem?_eq_some_iff.mp hv3).1
    have hlt : i < min (min its.toArray.size its2.toArray.size) its3.toArray.size := by simp only [List.size_toArray]; omega
    have fpl : ∀ d ∈ [z, TI, TO, i1, i2, i3], d < s.heap.objs.size := fun d hd => by
      obtain ⟨o1, e1, _⟩ := h1
      obtain ⟨o2, e2, _⟩ := h2
      obtain ⟨o3, e3, _⟩ := h3
      obtain ⟨_, _, _, hTO⟩ := hTO
      have e' : d = z ∨ d = TI ∨ d = TO ∨ d = i1 ∨ d = i2 ∨ d = i3 := by simpa using hd
      rcases e' with q | q | q | q | q | q
      · rw [q]; exact Heap.lt_size hz
      · rw [q]; exact Heap.lt_size hTI
      · rw [q]; exact Heap.lt_size hTO
      · rw [q]; exact Heap.lt_size e1
      · rw [q]; exact Heap.lt_size e2
      · rw [q]; exact Heap.lt_size e3
    refine W.goes i s (fun v s2 => ∃ x H', Inv X pins σ H' s2 ∧ RelV x v ∧ (Itz3 X.K a b c).yld i H x H' ∧ _ ∧ ∀ d ∈ [z, TI, TO, i1, i2, i3], H' d = none) E hlt ⟨hz, hTI, hTO, ⟨h1, p.isList⟩, ⟨h2, p2.isList⟩, ⟨h3, p3.isList⟩⟩ fun v h' tk hY st' hk htk => ?_
    obtain ⟨T', y1, y2, y3, rfl, hT, q1, q2, q3, hTup⟩ := hY
    have e1 : y1 = v1 := by
      have : its[i]? = some y1 := by simpa using q1
      rw [hv1] at this; exact (Option.some.inj this).symm
    have e2 : y2 = v2 := by
      have : its2[i]? = some y2 := by simpa using q2
      rw [hv2] at this; exact (Option.some.inj this).symm
    have e3 : y3 = v3 := by
      have : its3[i]? = some y3 := by simpa using q3
      rw [hv3] at this; exact (Option.some.inj this).symm
    subst e1 e2 e3
    obtain ⟨sz', sTI, sTO, ⟨s1, _⟩, ⟨s2, _⟩, ⟨s3, _⟩⟩ := st'
    have new : ObjOk X.prog X.w (upd H T' (.tup [x, y, u])) h' T' (.tup [x, y, u]) :=
      ⟨by show 3 ≤ sizeLine; decide, [y1, y2, y3], .cons r1 (.cons r2 (.cons r3 .nil)), hTup⟩
    have I1 : Inv X pins σ (upd H T' (.tup [x, y, u])) { s with heap := h', toks := tk } :=
      I.turnedNew (ch := [z, TO, i1, i2, i3]) hk (fun d hd => hf d (by
        simp only [List.mem_cons, List.not_mem_nil, or_false] at hd ⊢
        rcases hd with q | q | q | q | q <;> simp [q])) hT new
    refine ⟨.ref T', _, I1, rfl, ⟨T', x, y, u, rfl, I.hok.fresh hT, rfl, fun l hl => by rw [I.list_inj hl hqx]; exact hx, fun l hl => by rw [I.list_inj hl hqy]; exact hy, fun l hl => by rw [I.list_inj hl hqz]; exact hu⟩, ⟨sz', sTI, sTO, s1, s2, s3⟩, fun d hd => ?_⟩
    rw [upd_ne (Nat.ne_of_lt (Nat.lt_of_lt_of_le (fpl d hd) hT))]
    exact (hf d hd).1
  done := by
    intro X hP hw hK hc i pins s σ H E I hf st hg
    subst hP hw hK
    obtain ⟨hz, hTI, hTO, h1, h2, h3⟩ := st
    obtain ⟨xs, ys, zs, hqx, hqy, hqz, he⟩ := hg
    obtain ⟨its, rv, p, _⟩ := I.list hqx
    obtain ⟨its2, rv2, p2, _⟩ := I.list hqy
    obtain ⟨its3, rv3, p3, _⟩ := I.list hqz
    have hh : X.A.in1.handled = none := I.ok.hd hc
    have W := GoesN.zip3 (prog := X.prog) (w := X.w) (A := X.A) (elts := elts) (x1 := kk) (pos := tpos) S (Draws.list hh i1 a na its.toArray) (Draws.list hh i2 b nb its2.toArray) (Draws.list hh i3 c nc its3.toArray)
    have l1 := rv.length
    have l2 := rv2.length
    have l3 := rv3.length
    have e : i = min (min its.toArray.size its2.toArray.size) its3.toArray.size := by simp only [List.size_toArray]; rw [he, l1, l2, l3]
    have h1' := h1
    have h2' := h2
    have h3' := h3
    rw [e] at h1' h2' h3'
    refine W.stops s (fun s1 => Inv X pins σ H s1) E ⟨hz, hTI, hTO, ⟨h1', p.isList⟩, ⟨h2', p2.isList⟩, ⟨h3', p3.isList⟩⟩ fun h' tk hk htk => ?_
    exact I.turnedL (t' := tk) (ch := [z, TO, i1, i2, i3]) hk fun d hd => hf d (by
      simp only [List.mem_cons, List.not_mem_nil, or_false] at hd ⊢
      rcases hd with q | q | q | q | q <;> simp [q])
  self := fun A i s Q E st h => wpAny_pyIter_zip st.1 h
def iZip3 (K : PySem.W.Frag) (ta : TA) : TI := fun σ H R => ta σ H fun vs H1 => ∃ a b c xs ys zs, vs = [.ref a, .ref b, .ref c] ∧ SqL K H1 a xs ∧ SqL K H1 b ys ∧ SqL K H1 c zs ∧ R (Itz3 K a b c) H1
theorem pi_zip3 {X : Cx} {e e2 e3 : Expr} {ta : TA} {p pos tpos : Pos} {elts : List Expr} {kk : Nat} (hg : Gl X "zip") (hm : X.mg "zip" = none) (ha : PA X [e, e2, e3] ta)
    (hs : starEach [e, e2, e3] X.env = (false, eval e X.env) :: starEach [e2, e3] X.env := by rfl) (hpl : (backTo pos (starEach [e2, e3] X.env)).any (·.1) = false := by rfl) :
    PI X (.Tuple elts kk tpos) (.Call (.Name "zip" p) [e, e2, e3] [] pos) (iZip3 X.K ta) := by
  refine ⟨fun pins s σ H R I h => ?_⟩
  refine Call_ (ld_blt I hg hm PyProof.Rows.boot_zip (PyProof.Rows.callWith_type1 (thn (ha.run pos pins s σ H _ I h) fun us s1 ⟨vs, H1, I1, r1, q1⟩ => ?_) hs hpl))
  obtain ⟨a, b, c, xs, ys, zs, rfl, hqx, hqy, hqz, q⟩ := q1
  cases r1 with
  | cons r rr =>
    cases rr with
    | cons r' rr =>
      cases rr with
      | cons r'' rr =>
        cases rr
        cases r
        cases r'
        cases r''
        obtain ⟨its, rv, p1, _⟩ := I1.list hqx
        obtain ⟨its2, rv2, p2, _⟩ := I1.list hqy
        obtain ⟨its3, rv3, p3, _⟩ := I1.list hqz
        refine zip_begins3 (begins_list a its.toArray) (begins_list b its2.toArray) (begins_list c its3.toArray) p1.isList p2.isList p3.isList fun h' hz hTI hTO g1 g2 g3 hsz hk => wpAny_pyIter_zip hz ?_
        have I2 : Inv X pins σ H1 { s1 with heap := h' } := I1.kept (t' := s1.toks) hk
        have la := p1.lt
        have lb := p2.lt
        have lc := p3.lt
        have sep : ZipSep3 (s1.heap.objs.size + 5) (s1.heap.objs.size + 3) (s1.heap.objs.size + 4) s1.heap.objs.size (s1.heap.objs.size + 1) (s1.heap.objs.size + 2) [s1.heap.objs.size, a] [s1.heap.objs.size + 1, b] [s1.heap.objs.size + 2, c] :=
          zip_sep3 (fun d hd => by rw [List.mem_singleton.mp hd]; exact la) (fun d hd => by rw [List.mem_singleton.mp hd]; exact lb) (fun d hd => by rw [List.mem_singleton.mp hd]; exact lc)
        refine ⟨s1.heap.objs.size + 5, [s1.heap.objs.size + 5, s1.heap.objs.size + 3, s1.heap.objs.size + 4, s1.heap.objs.size, s1.heap.objs.size + 1, s1.heap.objs.size + 2], _, _, H1, rfl, I2, turn_zip3 sep (Nat.ne_of_lt la) (Nat.ne_of_lt (Nat.lt_succ_of_lt lb)) (Nat.ne_of_lt (Nat.lt_succ_of_lt (Nat.lt_succ_of_lt lc))), ⟨hz, hTI, ⟨_, _, _, hTO⟩, ⟨_, g1, rfl, rfl⟩, ⟨_, g2, rfl, rfl⟩, ⟨_, g3, rfl, rfl⟩⟩, fun d hd => ?_, q⟩
        have hle : s1.heap.objs.size ≤ d := by
          simp only [List.mem_cons, List.not_mem_nil, or_false] at hd
          rcases hd with z | z | z | z | z | z <;> rw [z] <;> first | exact Nat.le_refl _ | exact Nat.le_add_right _ _
        exact I1.fpOk hle (I1.hok.fresh hle)
theorem g_iZip3 {K : PySem.W.Frag} {ta : TA} {σ : L2.St} {H : Hp} {R : It → Hp → Prop} (q : ta σ H fun vs H1 => ∃ a b c xs ys zs, vs = [.ref a, .ref b, .ref c] ∧ SqL K H1 a xs ∧ SqL K H1 b ys ∧ SqL K H1 c zs ∧ R (Itz3 K a b c) H1) : iZip3 K ta σ H R := q
theorem walk_zip3 {K : PySem.W.Frag} {a b c : Addr} {xs ys zs : List V} {n : Nat} (hx : n = xs.length) (hy : n = ys.length) (hz : n = zs.length) :
    Walk (Itz3 K a b c) n (fun H => SqL K H a xs ∧ SqL K H b ys ∧ SqL K H c zs) (fun i H v H' => ∃ T x y z, v = .ref T ∧ H T = none ∧ H' = upd H T (.tup [x, y, z]) ∧ xs[i]? = some x ∧ ys[i]? = some y ∧ zs[i]? = some z) where
  goes := fun i H hi q => ⟨xs, ys, zs, xs[i]'(by omega), ys[i]'(by omega), zs[i]'(by omega), q.1, q.2.1, q.2.2, by simp, by simp, by simp⟩
  stops := fun H q => ⟨xs, ys, zs, q.1, q.2.1, q.2.2, by omega⟩
  yields := fun i H x H' hi q y => by
    obtain ⟨T, u, v, w, h1, h2, h3, h4, h5, h6⟩ := y
    exact ⟨T, u, v, w, h1, h2, h3, h4 xs q.1, h5 ys q.2.1, h6 zs q.2.2⟩
theorem g_par3 {i j k : Nat} {tl : TA} {D : Ends} {σ : L2.St} {H : Hp} (q : tl σ H fun vs H1 => ∃ u v w, vs = [u, v, w] ∧ D.nx (((σ.set i (some u)).set j (some v)).set k (some w)) H1) : tPar3 i j k tl D σ H := q
theorem l_three {x y z : V} {P : V → V → V → Prop} (q : P x y z) : ∃ u v w, [x, y, z] = [u, v, w] ∧ P u v w := ⟨x, y, z, rfl, q⟩
end SC
namespace SC
open PySem PySem.Spec PyProof.Rows L2 StrLaws

/-! ## shares, not in least terms; the error by stages -/
mutual
def Th.sh (a b : Int) : Th → List (Int × Int)
  | .inp _ => []
  | .st n _ ps => (a, b) :: shL a (b * n) ps
def shL (a b : Int) : List (Int × Th) → List (Int × Int)
  | [] => []
  | (w, t) :: q => t.sh (a * w) b ++ shL a b q
end
mutual
/-- the stages, in order -/
def Th.stL : Th → List Th
  | .inp _ => []
  | .st n c ps => .st n c ps :: stLL ps
def stLL : List (Int × Th) → List Th
  | [] => []
  | (_, t) :: q => t.stL ++ stLL q
end
mutual
theorem sh_len : ∀ (t : Th) (a b : Int), (t.sh a b).length = t.nSt
  | .inp _, _, _ => by simp only [Th.sh, Th.nSt, List.length_nil]
  | .st n c ps, a, b => by simp only [Th.sh, Th.nSt, List.length_cons, shL_len ps]
theorem shL_len : ∀ (ps : List (Int × Th)) (a b : Int), (shL a b ps).length = nStL ps
  | [], _, _ => by simp only [shL, nStL, List.length_nil]
  | (w, t) :: q, a, b => by simp only [shL, nStL, List.length_append, sh_len t, shL_len q]
end
mutual
theorem stL_len : ∀ t : Th, t.stL.length = t.nSt
  | .inp _ => by simp only [Th.stL, Th.nSt, List.length_nil]
  | .st n c ps => by simp only [Th.stL, Th.nSt, List.length_cons, stLL_len ps]
theorem stLL_len : ∀ ps : List (Int × Th), (stLL ps).length = nStL ps
  | [] => by simp only [stLL, nStL, List.length_nil]
  | (w, t) :: q => by simp only [stLL, nStL, List.length_append, stL_len t, stLL_len q]
end
theorem shL_app (a b : Int) : ∀ p q : List (Int × Th), shL a b (p ++ q) = shL a b p ++ shL a b q
  | [], q => by simp [shL]
  | (w, t) :: p, q => by simp only [List.cons_append, shL, shL_app a b p q, List.append_assoc]
theorem shL_take {a b : Int} {ps : List (Int × Th)} {i : Nat} {w : Int} {t : Th} (h : ps[i]? = some (w, t)) : shL a b (ps.take (i + 1)) = shL a b (ps.take i) ++ t.sh (a * w) b := by
  rw [take_one h, shL_app]
  simp only [shL, List.append_nil]
def stgOf : List Int × Th → Option Th
  | (_, .inp _) => none
  | (_, .st n c ps) => some (.st n c ps)
mutual
theorem things_stgs : ∀ (t : Th) (w : List Int), (t.things w).filterMap stgOf = t.stL
  | .inp _, _ => by simp only [Th.things, Th.stL, List.filterMap_cons, stgOf, List.filterMap_nil]
  | .st _ _ ps, w => by simp only [Th.things, Th.stL, List.filterMap_cons, stgOf, thingsAt_stgs ps w 0]
theorem thingsAt_stgs : ∀ (ps : List (Int × Th)) (w : List Int) (k : Nat), (thingsAt ps w k).filterMap stgOf = stLL ps
  | [], _, _ => by simp only [thingsAt, stLL, List.filterMap_nil]
  | (_, t) :: r, w, k => by simp only [thingsAt, stLL, List.filterMap_append, things_stgs t, thingsAt_stgs r]
end
mutual
theorem stL_st : ∀ (t : Th), t.good → ∀ u ∈ t.stL, ∃ n c ps, u = .st n c ps ∧ 1 ≤ n ∧ n ≤ 10 ^ 30 ∧ 0 ≤ c ∧ c < n
  | .inp _, _, u, h => by simp [Th.stL] at h
  | .st n c ps, g, u, h => by
    simp only [Th.good] at g
    simp only [Th.stL, List.mem_cons] at h
    rcases h with rfl | h
    · exact ⟨n, c, ps, rfl, g.1.n1, g.1.n2, g.1.c0, g.1.c1⟩
    · exact stLL_st ps g.2 u h
theorem stLL_st : ∀ (ps : List (Int × Th)), goodL ps → ∀ u ∈ stLL ps, ∃ n c ps, u = .st n c ps ∧ 1 ≤ n ∧ n ≤ 10 ^ 30 ∧ 0 ≤ c ∧ c < n
  | [], _, u, h => by simp [stLL] at h
  | (w, t) :: q, g, u, h => by
    simp only [goodL] at g
    simp only [stLL, List.mem_append] at h
    rcases h with h | h
    · exact stL_st t g.1 u h
    · exact stLL_st q g.2 u h
end
mutual
/-- how great they get -/
theorem sh_le : ∀ (t : Th) (a b : Int) (A : Nat), t.good → 0 < b → a.natAbs ≤ A → b.natAbs ≤ A → ∀ p ∈ t.sh a b, p.1.natAbs ≤ A * ZN ^ t.dep ∧ p.2.natAbs ≤ A * ZN ^ t.dep ∧ 0 < p.2
  | .inp _, _, _, _, _, _, _, _, p, h => by simp [Th.sh] at h
  | .st n c ps, a, b, A, g, hb, h1, h2, p, h => by
    simp only [Th.good] at g
    simp only [Th.sh, List.mem_cons] at h
    simp only [Th.dep]
    rcases h with rfl | h
    · have k : A ≤ A * ZN ^ (depL ps + 1) := Nat.le_mul_of_pos_right _ (znpos _)
      exact ⟨Nat.le_trans h1 k, Nat.le_trans h2 k, hb⟩
    · have n1 := g.1.n1
      have hn : n.natAbs ≤ ZN := nat30 (by omega) g.1.n2
      have hw : ∀ p ∈ ps, p.1.natAbs ≤ ZN := fun p hp => (g.1.ws.nz p.1 (List.mem_map.mpr ⟨p, hp, rfl⟩)).2
      have hbn : (b * n).natAbs ≤ A * ZN := by rw [Int.natAbs_mul]; exact Nat.mul_le_mul h2 hn
      have r := shL_le ps a (b * n) A g.2 (Int.mul_pos hb (by omega)) h1 hbn hw (depL ps) (Nat.le_refl _) p h
      rw [Nat.pow_succ, Nat.mul_comm (ZN ^ depL ps), ← Nat.mul_assoc]
      exact r
theorem shL_le : ∀ (ps : List (Int × Th)) (a b : Int) (A : Nat), goodL ps → 0 < b → a.natAbs ≤ A → b.natAbs ≤ A * ZN → (∀ p ∈ ps, p.1.natAbs ≤ ZN) → ∀ d, depL ps ≤ d → ∀ p ∈ shL a b ps, p.1.natAbs ≤ A * ZN * ZN ^ d ∧ p.2.natAbs ≤ A * ZN * ZN ^ d ∧ 0 < p.2
  | [], _, _, _, _, _, _, _, _, _, _, p, h => by simp [shL] at h
  | (w, t) :: q, a, b, A, g, hb, h1, h2, hw, d, hd, p, h => by
    simp only [goodL] at g
    simp only [depL] at hd
    simp only [shL, List.mem_append] at h
    rcases h with h | h
    · have h5 : w.natAbs ≤ ZN := hw (w, t) (List.mem_cons_self ..)
      have haw : (a * w).natAbs ≤ A * ZN := by rw [Int.natAbs_mul]; exact Nat.mul_le_mul h1 h5
      have r := sh_le t (a * w) b (A * ZN) g.1 hb haw h2 p h
      have k : A * ZN * ZN ^ t.dep ≤ A * ZN * ZN ^ d := Nat.mul_le_mul_left _ (Nat.pow_le_pow_right (by decide) (by omega))
      exact ⟨Nat.le_trans r.1 k, Nat.le_trans r.2.1 k, r.2.2⟩
    · exact shL_le q a b A g.2 hb h1 h2 (fun p hp => hw p (List.mem_cons_of_mem _ hp)) d (by omega) p h
end
/-- what a stage brings -/
def bring (W : Int) (u : Th) (s : Int × Int) (rest : Int) : Int := match u with
  | .inp _ => 0
  | .st n c _ => s.1 * (c - rest) * (W / (s.2 * n))
def byS (W : Int) : List Th → List (Int × Int) → List Int → Int
  | u :: us, s :: ss, x :: xs => bring W u s x + byS W us ss xs
  | _, _, _ => 0
theorem byS_app (W : Int) : ∀ (us us' : List Th) (ss ss' : List (Int × Int)) (xs xs' : List Int), us.length = ss.length → us.length = xs.length → byS W (us ++ us') (ss ++ ss') (xs ++ xs') = byS W us ss xs + byS W us' ss' xs'
  | [], us', [], ss', [], xs', _, _ => by simp [byS]
  | u :: us, us', s :: ss, ss', x :: xs, xs', h1, h2 => by
    simp only [List.cons_append, byS, byS_app W us us' ss ss' xs xs' (by simpa using h1) (by simpa using h2)]
    omega
  | [], _, _ :: _, _, _, _, h, _ => by simp at h
  | [], _, [], _, _ :: _, _, _, h => by simp at h
  | _ :: _, _, [], _, _, _, h, _ => by simp at h
  | _ :: _, _, _ :: _, _, [], _, _, h => by simp at h
theorem byS_take (W : Int) {us : List Th} {ss : List (Int × Int)} {xs : List Int} {i : Nat} {u : Th} {s : Int × Int} {x : Int} (h1 : us[i]? = some u) (h2 : ss[i]? = some s) (h3 : xs[i]? = some x) :
    byS W (us.take (i + 1)) (ss.take (i + 1)) (xs.take (i + 1)) = byS W (us.take i) (ss.take i) (xs.take i) + bring W u s x := by
  have l1 := (List.getElem?_eq_some_iff.mp h1).1
  have l2 := (List.getElem?_eq_some_iff.mp h2).1
  have l3 := (List.getElem?_eq_some_iff.mp h3).1
  rw [take_one h1, take_one h2, take_one h3, byS_app W _ _ _ _ _ _ (by rw [List.length_take, List.length_take]; omega) (by rw [List.length_take, List.length_take]; omega)]
  simp only [byS]
  omega
mutual
/-- the error is what the stages bring: V is what is left of W by the stages' divisors -/
theorem byS_th (r : List Int) : ∀ (t : Th) (a b V : Int), t.good → 0 < b → byS (V * (b * (t.ex r).2)) t.stL (t.sh a b) (t.rests r) = a * t.er r * V
  | .inp i, a, b, V, _, _ => by
    unfold Th.er
    simp [Th.stL, Th.sh, Th.rests, byS, Th.tell, Th.ex]
  | .st n c ps, a, b, V, g, hb => by
    simp only [Th.good] at g
    have n1 := g.1.n1
    have hbn : 0 < b * n := Int.mul_pos hb (by omega)
    have ih := byS_L r ps a (b * n) V g.2 hbn
    have er := er_st r n c ps
    simp only [Th.stL, Th.sh, Th.rests, byS, bring]
    rw [er]
    simp only [Th.ex]
    have e1 : V * (b * ((exL r ps).2 * n)) = V * (b * n * (exL r ps).2) := by simp only [Int.mul_assoc, Int.mul_left_comm, Int.mul_comm]
    have e2 : V * (b * n * (exL r ps).2) / (b * n) = V * (exL r ps).2 := by
      have : V * (b * n * (exL r ps).2) = V * (exL r ps).2 * (b * n) := by simp only [Int.mul_assoc, Int.mul_left_comm, Int.mul_comm]
      rw [this, Int.mul_ediv_cancel _ (by omega)]
    rw [e1, e2, ih]
    show a * (c - restOf r n c ps) * (V * (exL r ps).2) + a * erL r ps * V = _
    rw [Int.mul_add, Int.add_mul]
    have e3 : a * (c - restOf r n c ps) * (V * (exL r ps).2) = a * ((exL r ps).2 * (c - restOf r n c ps)) * V := by simp only [Int.mul_assoc, Int.mul_left_comm, Int.mul_comm]
    rw [e3]
theorem byS_L (r : List Int) : ∀ (ps : List (Int × Th)) (a b V : Int), goodL ps → 0 < b → byS (V * (b * (exL r ps).2)) (stLL ps) (shL a b ps) (restsL r ps) = a * erL r ps * V
  | [], a, b, V, _, _ => by
    unfold erL
    simp [stLL, shL, restsL, byS, tellL, exL]
  | (w, t) :: q, a, b, V, g, hb => by
    simp only [goodL] at g
    have i1 := byS_th r t (a * w) b (V * (exL r q).2) g.1 hb
    have i2 := byS_L r q a b (V * (t.ex r).2) g.2 hb
    simp only [stLL, shL, restsL]
    rw [byS_app _ _ _ _ _ _ _ (by rw [stL_len, sh_len]) (by rw [stL_len, rests_len]), erL_cons]
    simp only [exL]
    have e1 : V * (b * ((t.ex r).2 * (exL r q).2)) = V * (exL r q).2 * (b * (t.ex r).2) := by simp only [Int.mul_assoc, Int.mul_left_comm, Int.mul_comm]
    have e2 : V * (b * ((t.ex r).2 * (exL r q).2)) = V * (t.ex r).2 * (b * (exL r q).2) := by simp only [Int.mul_assoc, Int.mul_left_comm, Int.mul_comm]
    have s1 : byS (V * (b * ((t.ex r).2 * (exL r q).2))) t.stL (t.sh (a * w) b) (t.rests r) = a * w * t.er r * (V * (exL r q).2) := by rw [e1, i1]
    have s2 : byS (V * (b * ((t.ex r).2 * (exL r q).2))) (stLL q) (shL a b q) (restsL r q) = a * erL r q * (V * (t.ex r).2) := by rw [e2, i2]
    rw [s1, s2, Int.mul_add, Int.add_mul]
    have e3 : a * w * t.er r * (V * (exL r q).2) = a * (w * (exL r q).2 * t.er r) * V := by simp only [Int.mul_assoc, Int.mul_left_comm, Int.mul_comm]
    have e4 : a * erL r q * (V * (t.ex r).2) = a * ((t.ex r).2 * erL r q) * V := by simp only [Int.mul_assoc, Int.mul_left_comm, Int.mul_comm]
    rw [e3, e4]
end
theorem byS_all {r : List Int} {t : Th} (g : t.good) : byS (t.ex r).2 t.stL (t.sh 1 1) (t.rests r) = t.er r := by
  have := byS_th r t 1 1 1 g (by decide)
  simpa only [Int.one_mul, Int.mul_one] using this
end SC
namespace SC
open PySem PySem.Spec PyProof.Rows L2 StrLaws

/-! ## repr of data with integers of up to 4300 figures, where no limit of figures was set -/
mutual
def okX : PyData → Bool
  | .none => true
  | .bool _ => true
  | .int i => decide (i.natAbs < 10 ^ 1200)
  | .str _ => false
  | .list xs => okXAll xs
  | .tuple xs => okXAll xs
  | .dict _ => false
def okXAll : List PyData → Bool
  | [] => true
  | x :: xs => okX x && okXAll xs
end
mutual
theorem okX_len : ∀ d : PyData, okX d = true → d.shown.length + 5 ≤ 1210 * nd d
  | .none, _ => by
    have e : (PyData.shown .none).length = 4 := rfl
    simp only [nd]; omega
  | .bool b, _ => by
    have e : (PyData.shown (.bool b)).length ≤ 5 := by cases b <;> decide
    simp only [nd]; omega
  | .int i, h => by
    have h1 : i.natAbs < 10 ^ 1200 := by simpa only [okX, decide_eq_true_eq] using h
    have e := int_text_length_le10 (k := 1200) (by decide) h1
    have e2 : (PyData.shown (.int i)).length ≤ 1201 := by
      show (Str.ofString (toString i)).length ≤ 1201
      rw [PySem.ofString_length]
      exact e
    simp only [nd]; omega
  | .str x, h => by simp only [okX] at h; cases h
  | .list xs, h => by
    have h1 := okX_lenA xs (by simpa only [okX] using h)
    have h2 := listText_len_le (PyData.shownAll xs)
    have h3 := PyData.shownAll_length xs
    simp only [PyData.shown, nd]
    omega
  | .tuple xs, h => by
    have h1 := okX_lenA xs (by simpa only [okX] using h)
    have h2 := tupleText_len_le (PyData.shownAll xs)
    have h3 := PyData.shownAll_length xs
    simp only [PyData.shown, nd]
    omega
  | .dict kvs, h => by simp only [okX] at h; cases h
theorem okX_lenA : ∀ xs : List PyData, okXAll xs = true → ((PyData.shownAll xs).map (·.length)).sum + 5 * xs.length ≤ 1210 * ndAll xs
  | [], _ => by simp only [PyData.shownAll, ndAll, List.map_nil, List.sum_nil, List.length_nil]; omega
  | x :: xs, h => by
    have h' : okX x = true ∧ okXAll xs = true := by simpa only [okXAll, Bool.and_eq_true] using h
    have h1 := okX_len x h'.1
    have h2 := okX_lenA xs h'.2
    simp only [PyData.shownAll, ndAll, List.map_cons, List.sum_cons, List.length_cons]
    omega
end
section
variable {P : Program} {w : World} {hp : Heap}
theorem big_int {i : Int} {t : Tok} {bs : List Addr} {d : Nat} (z : hp.NoDigits) (hi : i.natAbs < 10 ^ 4300) : ReprK P w bs hp d (.int i t) (PyData.shown (.int i)) := fun b0 hz A g E s Q hg hc hu hk hQ => by
  rw [pyReprUnder_leaf (v := .int i t) (by omega) (fun _ e => nomatch e)]
  unfold pyRepr
  refine wpAny_bind (wpAny_pyReprObj_slot (by omega) (typeIs_int s i t) F.slot_int_repr.toG ?_)
  refine wpAny_call_entry F.slot_int_repr (typeIs_int s i t) F.entry_int_repr ?_ (F.args_int_repr_1 _)
  unfold Builtin.«int.__repr__»
  show wpAny _ _ (do let r ← Builtin.overDigitLimit? i; _) _ _ s
  refine wpAny_bind (overDigitLimit_any (z.keeps hk) (fun hlt => ?_) (fun hge => absurd hi (Nat.not_lt.mpr hge)))
  exact wpAny_bind (wpAny_mkStr (wpAny_pure ⟨_, rfl, _, _, rfl, wpAny_pure (hQ s.heap _ fun _ _ e => e)⟩) (int_text_fits10 hlt))
mutual
theorem big_one (z : hp.NoDigits) : ∀ {v : Value} {d : PyData} {as : List Addr}, Reads hp v d as → okX d = true → d.shown.length ≤ sizeLine → ∃ bs, ReadAtMost hp d.depth bs ∧ ReprK P w bs hp d.depth v d.shown
  | _, _, _, .none, _, _ => ⟨[], (fun _ h => nomatch h), .of_is ReprIs.none _ _ _⟩
  | _, _, _, .bool b, _, _ => ⟨[], (fun _ h => nomatch h), .of_is (ReprIs.bool b) _ _ _⟩
  | _, _, _, .int i t, hs, _ => ⟨[], (fun _ h => nomatch h), big_int z (by
      have : i.natAbs < 10 ^ 1200 := by simpa only [okX, decide_eq_true_eq] using hs
      exact Nat.lt_trans this (by decide +kernel))⟩
  | _, _, _, .str x t, hs, _ => by simp only [okX] at hs; cases hs
  | _, _, _, .list (a := a) (vs := vs) (xs := xs) e1 e2 e3 e4, hs, hz => by
    have hy : (listText (PyData.shownAll xs)).length ≤ sizeLine := by simpa only [PyData.shown] using hz
    obtain ⟨bs, hb, hk⟩ := big_all z e4 (by simpa only [okX] using hs) (fun t ht => Nat.le_trans (listText_mem_le ht) hy)
    have r : Reads hp (.ref a) (.list xs) _ := .list e1 e2 e3 e4
    have na : a ∉ bs := not_mem_of_deeper r (by simp only [PyData.depth]; omega) hb
    refine ⟨a :: bs, ReadAtMost.cons r (by simp only [PyData.depth]; omega) hb, ?_⟩
    simp only [PyData.depth, PyData.shown]
    obtain ⟨l⟩ := vs
    cases l with
    | nil =>
      have e5 : ReadsAll hp [] xs _ := e4
      cases e5
      simp only [PyData.shownAll, listText_nil]
      exact ReprK.listEmpty e1 e2 e3
    | cons x l => exact ReprK.list e1 e2 e3 na (by simpa using hk.length_eq) (fun i y e => hk.item i y (by simpa using e))
  | _, _, _, .tuple (a := a) (xs := xs) e1 e2 e3 e4, hs, hz => by
    have hy : (tupleText (PyData.shownAll xs)).length ≤ sizeLine := by simpa only [PyData.shown] using hz
    obtain ⟨bs, hb, hk⟩ := big_all z e4 (by simpa only [okX] using hs) (fun t ht => Nat.le_trans (tupleText_mem_le ht) hy)
    have r : Reads hp (.ref a) (.tuple xs) _ := .tuple e1 e2 e3 e4
    have na : a ∉ bs := not_mem_of_deeper r (by simp only [PyData.depth]; omega) hb
    refine ⟨a :: bs, ReadAtMost.cons r (by simp only [PyData.depth]; omega) hb, ?_⟩
    simp only [PyData.depth, PyData.shown]
    exact ReprK.tuple e1 e2 e3 na hk
  | _, _, _, .dict _ _ _ _ _, hs, _ => by simp only [okX] at hs; cases hs
theorem big_all (z : hp.NoDigits) : ∀ {vs : List Value} {ds : List PyData} {as : List Addr}, ReadsAll hp vs ds as → okXAll ds = true → (∀ t ∈ PyData.shownAll ds, t.length ≤ sizeLine) → ∃ bs, ReadAtMost hp (PyData.depthAll ds) bs ∧ ReprAllK P w bs hp (PyData.depthAll ds) vs (PyData.shownAll ds)
  | _, _, _, .nil, _, _ => ⟨[], (fun _ h => nomatch h), .nil⟩
  | _, _, _, .cons (d := d) (ds := ds) r rs, hs, hz => by
    have hs2 : okX d = true ∧ okXAll ds = true := by simpa only [okXAll, Bool.and_eq_true] using hs
    obtain ⟨b1, q1, k1⟩ := big_one z r hs2.1 (hz _ (by simp only [PyData.shownAll]; exact List.mem_cons_self ..))
    obtain ⟨b2, q2, k2⟩ := big_all z rs hs2.2 (fun t ht => hz t (by simp only [PyData.shownAll]; exact List.mem_cons_of_mem _ ht))
    refine ⟨b1 ++ b2, fun b hm => ?_, ?_⟩
    · simp only [PyData.depthAll]
      rcases List.mem_append.mp hm with hm | hm
      · obtain ⟨d1, as1, r1, hd1⟩ := q1 b hm
        exact ⟨d1, as1, r1, Nat.le_trans hd1 (Nat.le_max_left _ _)⟩
      · obtain ⟨d1, as1, r1, hd1⟩ := q2 b hm
        exact ⟨d1, as1, r1, Nat.le_trans hd1 (Nat.le_max_right _ _)⟩
    · simp only [PyData.depthAll, PyData.shownAll]
      exact .cons ((k1.more fun b hb => List.mem_append_left _ hb).level_le (Nat.le_max_left _ _)) (k2.more_le (fun b hb => List.mem_append_right _ hb) (Nat.le_max_right _ _))
end
end
structure ShowsX (d : PyData) : Prop where
  ok : okX d = true
  many : nd d ≤ 10000
  deep : d.depth ≤ 60
section
variable {X : Cx}
def rReprX (K : PySem.W.Frag) : List V → Hp → VK → Prop := fun xs H Q => ∃ (a : Addr) (d : PyData), xs = [.ref a] ∧ Dp K H (.ref a) d ∧ ShowsX d ∧ Q (.str d.shown) H
theorem call_reprX (hND : X.base.NoDigits) (hgd : X.A.guards = some []) (hu : X.A.units + 70 < cLine) : CallR X (.builtin "repr") (rReprX X.K) := by
  intro pins s σ H xs us Q I r h
  obtain ⟨a, d, rfl, hd, hs, q⟩ := h
  obtain ⟨u, rfl, rx⟩ := vals1 r
  cases rx
  obtain ⟨as, rd⟩ := Dp.reads I d _ _ hd rfl
  have z : s.heap.NoDigits := hND.keeps fun b o e => (I.env0.bs b o e).1
  have hl := okX_len d hs.ok
  have hm := hs.many
  have hp := hs.deep
  have hsz : d.shown.length ≤ sizeLine := by rw [sizeLine_eq]; omega
  have fin : ∀ h' u tk, (∀ b o, s.heap.get? b = some o → h'.get? b = some o) → EP X pins σ Q (.str d.shown u) { s with heap := h', toks := tk } := fun h' u tk hk => ⟨.str _, H, I.kept (t' := tk) hk, ⟨_, rfl⟩, q⟩
  cases rd with
  | list e1 e2 e3 e4 =>
    rename_i o vs n xs bs0
    have hy : (listText (PyData.shownAll xs)).length ≤ sizeLine := by simpa only [PyData.shown] using hsz
    obtain ⟨bs, hb, hk⟩ := big_all (P := X.prog) (w := X.w) z e4 (by simpa only [okX] using hs.ok) (fun t ht => Nat.le_trans (listText_mem_le ht) hy)
    have na : a ∉ bs := not_mem_of_deeper (.list e1 e2 e3 e4) (by simp only [PyData.depth]; omega) hb
    refine call_repr_slot (by omega) ⟨o, e1, e2⟩ F.slot_list_repr.toG ?_
    simp only [PyData.depth] at hp
    simp only [PyData.shown] at fin
    obtain ⟨l⟩ := vs
    cases l with
    | nil =>
      have e5 : ReadsAll s.heap [] xs _ := e4
      cases e5
      simp only [PyData.shownAll, listText_nil] at fin
      exact call_list_repr_empty ⟨o, e1, e2⟩ e1 e3 ⟨_, _, rfl, fin s.heap _ _ fun _ _ e => e⟩
    | cons x l =>
      exact call_list_reprK e1 e2 e3 na (by simpa using hk.length_eq) (fun i y e => hk.item i y (by simpa using e)) hgd (fun b _ => Clear.nil b) (by show X.A.units + 1 + _ < cLine; omega) (fun _ _ e => e) (fun h' u tk hk2 => ⟨_, _, rfl, fin h' u tk hk2⟩) hy
  | tuple e1 e2 e3 e4 =>
    rename_i o vs n xs
    have hy : (tupleText (PyData.shownAll xs)).length ≤ sizeLine := by simpa only [PyData.shown] using hsz
    obtain ⟨bs, hb, hk⟩ := big_all (P := X.prog) (w := X.w) z e4 (by simpa only [okX] using hs.ok) (fun t ht => Nat.le_trans (tupleText_mem_le ht) hy)
    have na : a ∉ bs := not_mem_of_deeper (.tuple e1 e2 e3 e4) (by simp only [PyData.depth]; omega) hb
    refine call_repr_slot (by omega) ⟨o, e1, e2⟩ F.slot_tuple_repr ?_
    simp only [PyData.depth] at hp
    simp only [PyData.shown] at fin
    exact call_tuple_reprK e1 e2 e3 na hk hgd (fun b _ => Clear.nil b) (by show X.A.units + 1 + _ < cLine; omega) (fun _ _ e => e) (fun h' u tk hk2 => ⟨_, _, rfl, fin h' u tk hk2⟩) hy
  | dict e1 e2 e3 e4 e5 =>
    have := hs.ok
    simp only [okX] at this
    cases this
end
end SC
namespace SC
open PySem PySem.Spec PyProof.Rows L2 StrLaws

/-! ## by which fractions the inputs go in, not in least terms -/
mutual
def Th.fm (a b : Int) : Th → List (Int × Int × Int)
  | .inp i => [(i, a, b)]
  | .st n _ ps => fmL a (b * n) ps
def fmL (a b : Int) : List (Int × Th) → List (Int × Int × Int)
  | [] => []
  | (w, t) :: q => t.fm (a * w) b ++ fmL a b q
end
theorem fmL_app (a b : Int) : ∀ p q : List (Int × Th), fmL a b (p ++ q) = fmL a b p ++ fmL a b q
  | [], q => by simp [fmL]
  | (w, t) :: p, q => by simp only [List.cons_append, fmL, fmL_app a b p q, List.append_assoc]
theorem fmL_take {a b : Int} {ps : List (Int × Th)} {i : Nat} {w : Int} {t : Th} (h : ps[i]? = some (w, t)) : fmL a b (ps.take (i + 1)) = fmL a b (ps.take i) ++ t.fm (a * w) b := by
  rw [take_one h, fmL_app]
  simp only [fmL, List.append_nil]
mutual
theorem fm_ins : ∀ (t : Th) (a b : Int), (t.fm a b).map (·.1) = t.ins
  | .inp i, _, _ => by simp only [Th.fm, Th.ins, List.map_cons, List.map_nil]
  | .st n c ps, a, b => by simp only [Th.fm, Th.ins, fmL_ins ps]
theorem fmL_ins : ∀ (ps : List (Int × Th)) (a b : Int), (fmL a b ps).map (·.1) = insL ps
  | [], _, _ => by simp only [fmL, insL, List.map_nil]
  | (w, t) :: q, a, b => by simp only [fmL, insL, List.map_append, fm_ins t, fmL_ins q]
end
theorem form_len (t : Th) (a b : Int) : (t.fm a b).length = t.nIn := by
  rw [← ins_len, ← fm_ins t a b, List.length_map]
theorem formL_len (ps : List (Int × Th)) (a b : Int) : (fmL a b ps).length = nInL ps := by
  rw [← insL_len, ← fmL_ins ps a b, List.length_map]
mutual
theorem fm_le : ∀ (t : Th) (a b : Int) (A : Nat), t.good → 0 < b → a.natAbs ≤ A → b.natAbs ≤ A → ∀ p ∈ t.fm a b, p.2.1.natAbs ≤ A * ZN ^ t.dep ∧ p.2.2.natAbs ≤ A * ZN ^ t.dep ∧ 0 < p.2.2
  | .inp i, a, b, A, _, hb, h1, h2, p, h => by
    simp only [Th.fm, List.mem_singleton] at h
    subst h
    simp only [Th.dep, Nat.pow_zero, Nat.mul_one]
    exact ⟨h1, h2, hb⟩
  | .st n c ps, a, b, A, g, hb, h1, h2, p, h => by
    simp only [Th.good] at g
    simp only [Th.fm] at h
    simp only [Th.dep]
    have n1 := g.1.n1
    have hn : n.natAbs ≤ ZN := nat30 (by omega) g.1.n2
    have hw : ∀ p ∈ ps, p.1.natAbs ≤ ZN := fun p hp => (g.1.ws.nz p.1 (List.mem_map.mpr ⟨p, hp, rfl⟩)).2
    have hbn : (b * n).natAbs ≤ A * ZN := by rw [Int.natAbs_mul]; exact Nat.mul_le_mul h2 hn
    have r := fmL_le ps a (b * n) A g.2 (Int.mul_pos hb (by omega)) h1 hbn hw (depL ps) (Nat.le_refl _) p h
    rw [Nat.pow_succ, Nat.mul_comm (ZN ^ depL ps), ← Nat.mul_assoc]
    exact r
theorem fmL_le : ∀ (ps : List (Int × Th)) (a b : Int) (A : Nat), goodL ps → 0 < b → a.natAbs ≤ A → b.natAbs ≤ A * ZN → (∀ p ∈ ps, p.1.natAbs ≤ ZN) → ∀ d, depL ps ≤ d → ∀ p ∈ fmL a b ps, p.2.1.natAbs ≤ A * ZN * ZN ^ d ∧ p.2.2.natAbs ≤ A * ZN * ZN ^ d ∧ 0 < p.2.2
  | [], _, _, _, _, _, _, _, _, _, _, p, h => by simp [fmL] at h
  | (w, t) :: q, a, b, A, g, hb, h1, h2, hw, d, hd, p, h => by
    simp only [goodL] at g
    simp only [depL] at hd
    simp only [fmL, List.mem_append] at h
    rcases h with h | h
    · have h5 : w.natAbs ≤ ZN := hw (w, t) (List.mem_cons_self ..)
      have haw : (a * w).natAbs ≤ A * ZN := by rw [Int.natAbs_mul]; exact Nat.mul_le_mul h1 h5
      have r := fm_le t (a * w) b (A * ZN) g.1 hb haw h2 p h
      have k : A * ZN * ZN ^ t.dep ≤ A * ZN * ZN ^ d := Nat.mul_le_mul_left _ (Nat.pow_le_pow_right (by decide) (by omega))
      exact ⟨Nat.le_trans r.1 k, Nat.le_trans r.2.1 k, r.2.2⟩
    · exact fmL_le q a b A g.2 hb h1 h2 (fun p hp => hw p (List.mem_cons_of_mem _ hp)) d (by omega) p h
end
mutual
/-- a stage's share and its divisors stand in front of each -/
theorem fm_scale : ∀ (t : Th) (a b i A B : Int), (i, A, B) ∈ t.fm a b → ∃ A0 B0, (i, A0, B0) ∈ t.fm 1 1 ∧ A = a * A0 ∧ B = b * B0
  | .inp j, a, b, i, A, B, h => by
    simp only [Th.fm, List.mem_singleton, Prod.mk.injEq] at h
    obtain ⟨rfl, rfl, rfl⟩ := h
    exact ⟨1, 1, by simp only [Th.fm, List.mem_singleton], by omega, by omega⟩
  | .st n c ps, a, b, i, A, B, h => by
    simp only [Th.fm] at h ⊢
    obtain ⟨A0, B0, k1, k2, k3⟩ := fmL_scale ps a (b * n) i A B h
    have k4 := fmL_up ps 1 (1 * n) i A0 B0 k1
    refine ⟨_, _, k4, ?_, ?_⟩
    · rw [k2, Int.one_mul]
    · rw [k3, Int.one_mul, Int.mul_assoc]
theorem fmL_scale : ∀ (ps : List (Int × Th)) (a b i A B : Int), (i, A, B) ∈ fmL a b ps → ∃ A0 B0, (i, A0, B0) ∈ fmL 1 1 ps ∧ A = a * A0 ∧ B = b * B0
  | [], _, _, _, _, _, h => by simp [fmL] at h
  | (w, t) :: q, a, b, i, A, B, h => by
    simp only [fmL, List.mem_append] at h ⊢
    rcases h with h | h
    · obtain ⟨A0, B0, k1, k2, k3⟩ := fm_scale t (a * w) b i A B h
      have k4 := fm_up t (1 * w) 1 i A0 B0 k1
      refine ⟨_, _, .inl k4, ?_, ?_⟩
      · rw [k2, Int.one_mul, Int.mul_assoc]
      · rw [k3, Int.one_mul]
    · obtain ⟨A0, B0, k1, k2, k3⟩ := fmL_scale q a b i A B h
      exact ⟨A0, B0, .inr k1, k2, k3⟩
theorem fm_up : ∀ (t : Th) (a b i A B : Int), (i, A, B) ∈ t.fm 1 1 → (i, a * A, b * B) ∈ t.fm a b
  | .inp j, a, b, i, A, B, h => by
    simp only [Th.fm, List.mem_singleton, Prod.mk.injEq] at h ⊢
    obtain ⟨rfl, rfl, rfl⟩ := h
    exact ⟨rfl, by omega, by omega⟩
  | .st n c ps, a, b, i, A, B, h => by
    simp only [Th.fm] at h ⊢
    obtain ⟨A0, B0, k1, k2, k3⟩ := fmL_scale ps 1 (1 * n) i A B h
    have k4 := fmL_up ps a (b * n) i A0 B0 k1
    rw [k2, k3, Int.one_mul, Int.one_mul, ← Int.mul_assoc]
    exact k4
theorem fmL_up : ∀ (ps : List (Int × Th)) (a b i A B : Int), (i, A, B) ∈ fmL 1 1 ps → (i, a * A, b * B) ∈ fmL a b ps
  | [], _, _, _, _, _, h => by simp [fmL] at h
  | (w, t) :: q, a, b, i, A, B, h => by
    simp only [fmL, List.mem_append] at h ⊢
    rcases h with h | h
    · obtain ⟨A0, B0, k1, k2, k3⟩ := fm_scale t (1 * w) 1 i A B h
      have k4 := fm_up t (a * w) b i A0 B0 k1
      rw [k2, k3, Int.one_mul, Int.one_mul, ← Int.mul_assoc]
      exact .inl k4
    · exact .inr (fmL_up q a b i A B h)
end
theorem mem_ins {t : Th} {a b i A B : Int} (h : (i, A, B) ∈ t.fm a b) : i ∈ t.ins := by
  rw [← fm_ins t a b]
  exact List.mem_map.mpr ⟨_, h, rfl⟩
theorem mem_insL {ps : List (Int × Th)} {a b i A B : Int} (h : (i, A, B) ∈ fmL a b ps) : i ∈ insL ps := by
  rw [← fmL_ins ps a b]
  exact List.mem_map.mpr ⟨_, h, rfl⟩
mutual
/-- what is told hangs on the own inputs alone -/
theorem agree {r r' : List Int} : ∀ t : Th, (∀ j ∈ t.ins, rowAt r' j = rowAt r j) → t.tell r' = t.tell r ∧ t.rests r' = t.rests r ∧ t.ex r' = t.ex r
  | .inp i, h => by
    have := h i (by simp [Th.ins])
    simp only [Th.tell, Th.rests, Th.ex, this, and_self]
  | .st n c ps, h => by
    simp only [Th.ins] at h
    obtain ⟨h1, h2, h3⟩ := agreeL ps h
    simp only [Th.tell, Th.rests, Th.ex, h1, h2, h3, and_self]
theorem agreeL {r r' : List Int} : ∀ ps : List (Int × Th), (∀ j ∈ insL ps, rowAt r' j = rowAt r j) → tellL r' ps = tellL r ps ∧ restsL r' ps = restsL r ps ∧ exL r' ps = exL r ps
  | [], _ => by simp only [tellL, restsL, exL, and_self]
  | (w, t) :: q, h => by
    simp only [insL, List.mem_append] at h
    obtain ⟨h1, h2, h3⟩ := agree t fun j hj => h j (.inl hj)
    obtain ⟨k1, k2, k3⟩ := agreeL q fun j hj => h j (.inr hj)
    simp only [tellL, restsL, exL, h1, h2, h3, k1, k2, k3, and_self]
end
mutual
/-- an input's item is moved by m times the divisors above it -/
theorem moved {r r' : List Int} : ∀ (t : Th), t.good → t.ins.Nodup → ∀ i A B m : Int, (i, A, B) ∈ t.fm 1 1 → rowAt r' i = rowAt r i + m * B → (∀ j ∈ t.ins, j ≠ i → rowAt r' j = rowAt r j) →
    t.tell r' = t.tell r + m * A ∧ t.rests r' = t.rests r ∧ (t.ex r').1 = (t.ex r).1 + m * A * (t.ex r).2
  | .inp k, _, _, i, A, B, m, h, e, _ => by
    simp only [Th.fm, List.mem_singleton, Prod.mk.injEq] at h
    obtain ⟨rfl, rfl, rfl⟩ := h
    simp only [Th.tell, Th.rests, Th.ex, e, Int.mul_one, true_and, and_self]
  | .st n c ps, g, nd, i, A, B, m, h, e, ho => by
    simp only [Th.good] at g
    simp only [Th.ins] at nd ho
    simp only [Th.fm] at h
    have n1 := g.1.n1
    obtain ⟨A0, B0, k1, k2, k3⟩ := fmL_scale ps 1 (1 * n) i A B h
    rw [Int.one_mul] at k2
    rw [Int.one_mul] at k3
    subst k2 k3
    have e2 : rowAt r' i = rowAt r i + m * n * B0 := by rw [e, Int.mul_assoc]
    obtain ⟨q1, q2, q3⟩ := movedL ps g.2 nd i A B0 (m * n) k1 e2 ho
    have s1 : c + tellL r' ps = c + tellL r ps + m * A * n := by
      rw [q1, Int.mul_right_comm m n A]; omega
    simp only [Th.tell, Th.rests, Th.ex]
    rw [s1, q2, q3, Int.add_mul_ediv_right _ _ (show n ≠ 0 by omega), Int.add_mul_emod_self_right]
    refine ⟨rfl, rfl, ?_⟩
    have : m * n * A * (exL r ps).2 = m * A * ((exL r ps).2 * n) := by simp only [Int.mul_assoc, Int.mul_left_comm, Int.mul_comm]
    rw [this]
theorem movedL {r r' : List Int} : ∀ (ps : List (Int × Th)), goodL ps → (insL ps).Nodup → ∀ i A B m : Int, (i, A, B) ∈ fmL 1 1 ps → rowAt r' i = rowAt r i + m * B → (∀ j ∈ insL ps, j ≠ i → rowAt r' j = rowAt r j) →
    tellL r' ps = tellL r ps + m * A ∧ restsL r' ps = restsL r ps ∧ (exL r' ps).1 = (exL r ps).1 + m * A * (exL r ps).2
  | [], _, _, _, _, _, _, h, _, _ => by simp [fmL] at h
  | (w, t) :: q, g, nd, i, A, B, m, h, e, ho => by
    simp only [goodL] at g
    simp only [insL] at nd ho
    simp only [fmL, List.mem_append] at h
    have nd2 := List.nodup_append.mp nd
    have t2 := ex_2 r' r t
    have q2' := exL_2 r' r q
    rcases h with h | h
    · obtain ⟨A0, B0, k1, k2, k3⟩ := fm_scale t (1 * w) 1 i A B h
      rw [Int.one_mul] at k2 k3
      subst k2 k3
      have hi := mem_ins k1
      obtain ⟨q1, q2, q3⟩ := moved t g.1 nd2.1 i A0 B m k1 e fun j hj => ho j (List.mem_append_left _ hj)
      obtain ⟨a1, a2, a3⟩ := agreeL (r := r) (r' := r') q fun j hj => ho j (List.mem_append_right _ hj) fun z => nd2.2.2 i hi j hj z.symm
      simp only [tellL, restsL, exL]
      rw [q1, q2, q3, a1, a2, a3, t2]
      refine ⟨?_, rfl, ?_⟩
      · rw [Int.mul_add, Int.mul_left_comm w m A0]; omega
      · rw [Int.mul_add, Int.add_mul]
        have z1 : w * (m * A0 * (t.ex r).2) * (exL r q).2 = m * (w * A0) * ((t.ex r).2 * (exL r q).2) := by simp only [Int.mul_assoc, Int.mul_left_comm, Int.mul_comm]
        rw [z1]; omega
    · have hi := mem_insL h
      obtain ⟨q1, q2, q3⟩ := movedL q g.2 nd2.2.1 i A B m h e fun j hj => ho j (List.mem_append_right _ hj)
      obtain ⟨a1, a2, a3⟩ := agree (r := r) (r' := r') t fun j hj => ho j (List.mem_append_left _ hj) fun z => nd2.2.2 j hj i hi z
      simp only [tellL, restsL, exL]
      rw [q1, q2, q3, a1, a2, a3, q2']
      refine ⟨by omega, rfl, ?_⟩
      rw [Int.add_mul]
      have z1 : m * A * (exL r q).2 * (t.ex r).2 = m * A * ((t.ex r).2 * (exL r q).2) := by simp only [Int.mul_assoc, Int.mul_left_comm, Int.mul_comm]
      rw [z1]; omega
end
/-- a fraction and an integer -/
theorem lst_add {e d : Int} (g : Int) (hd : 0 < d) : lst (e + g * d) d = ((lst e d).1 + g * (lst e d).2, (lst e d).2) := by
  have hg : gcdN (e + g * d) d = gcdN e d := by
    unfold gcdN
    have : Int.gcd (e + g * d) d = Int.gcd e d := by rw [Int.gcd_add_mul_right_left]
    simpa only [Int.gcd] using this
  have hp := gcdN_pos (a := e) hd
  have h2 := lst_2 e d
  unfold lst at h2 ⊢
  rw [hg]
  simp only at h2 ⊢
  refine Prod.ext ?_ rfl
  show (e + g * d) / (gcdN e d : Int) = e / (gcdN e d : Int) + g * (d / (gcdN e d : Int))
  have e3 : g * d = g * (d / (gcdN e d : Int)) * (gcdN e d : Int) := by rw [Int.mul_assoc, h2]
  rw [e3, Int.add_mul_ediv_right _ _ (by omega)]
theorem rowAt_set {r : List Int} {i : Int} {v : Int} (h0 : 0 ≤ i) (h1 : i < (r.length : Nat)) : rowAt (r.set i.toNat v) i = v := by
  unfold rowAt
  rw [List.getD_eq_getElem?_getD, List.getElem?_set_self (by omega)]
  rfl
theorem rowAt_ne {r : List Int} {i j : Int} {v : Int} (h0 : 0 ≤ i) (h1 : 0 ≤ j) (h : j ≠ i) : rowAt (r.set i.toNat v) j = rowAt r j := by
  unfold rowAt
  rw [List.getD_eq_getElem?_getD, List.getD_eq_getElem?_getD, List.getElem?_set_ne (by omega)]
theorem set_map (r : List Int) (i : Nat) (v : Int) : (r.map V.int).set i (.int v) = (r.set i v).map V.int := by rw [List.map_set]
theorem set_bound {r : List Int} {i : Nat} {v : Int} {B : Nat} (h : ∀ x ∈ r, x.natAbs ≤ B) (hv : v.natAbs ≤ B) : ∀ x ∈ r.set i v, x.natAbs ≤ B := fun x hx => by
  rcases List.mem_or_eq_of_mem_set hx with h1 | h1
  · exact h x h1
  · rw [h1]; exact hv
end SC
namespace SC
open PySem PySem.Spec PyProof.Rows L2 StrLaws

/-! ## sorted(xs), a list of triples of integers -/
def tri (p : Int × Int × Int) : PyData := .tuple [.int p.1, .int p.2.1, .int p.2.2]
/-- x stands for the triple -/
def Tri (K : PySem.W.Frag) (H : Hp) (x : V) (p : Int × Int × Int) : Prop := ∃ q, x = .ref q ∧ SqT K H q [.int p.1, .int p.2.1, .int p.2.2]
abbrev Tris (K : PySem.W.Frag) (H : Hp) (xs : List V) (ps : List (Int × Int × Int)) : Prop := PySem.W.EachIs (Tri K H) xs ps
theorem Tri.ts {K : PySem.W.Frag} {H H' : Hp} {x : V} {p : Int × Int × Int} (s : TSame H H') (h : Tri K H x p) : Tri K H' x p := by
  obtain ⟨q, e, h⟩ := h
  exact ⟨q, e, ts_t s h⟩
theorem Tris.ts {K : PySem.W.Frag} {H H' : Hp} (s : TSame H H') : ∀ {xs : List V} {ps : List (Int × Int × Int)}, Tris K H xs ps → Tris K H' xs ps
  | _, _, .nil => .nil
  | _, _, .cons h t => .cons (h.ts s) (Tris.ts s t)
theorem Tris.of {K : PySem.W.Frag} {H : Hp} : ∀ {xs : List V} {ps : List (Int × Int × Int)}, DpAll K H xs (ps.map tri) → Tris K H xs ps
  | _, [], h => by
    cases h
    exact .nil
  | _, p :: ps, h => by
    cases h with
    | cons h1 h2 =>
      refine .cons ?_ (Tris.of h2)
      have h1' : Dp K H _ (.tuple [.int p.1, .int p.2.1, .int p.2.2]) := h1
      obtain ⟨q, rfl⟩ := dp_tuple h1'
      obtain ⟨vs, k1, k2⟩ := dp_tup h1'
      cases k2 with
      | cons k3 k4 =>
        cases k4 with
        | cons k5 k6 =>
          cases k6 with
          | cons k7 k8 =>
            cases k8
            obtain rfl := dp_int k3
            obtain rfl := dp_int k5
            obtain rfl := dp_int k7
            exact ⟨q, rfl, k1⟩
theorem Tris.len {K : PySem.W.Frag} {H : Hp} : ∀ {xs : List V} {ps : List (Int × Int × Int)}, Tris K H xs ps → xs.length = ps.length
  | _, _, .nil => rfl
  | _, _, .cons _ t => congrArg (· + 1) (Tris.len t)
theorem Tris.get {K : PySem.W.Frag} {H : Hp} : ∀ {xs : List V} {ps : List (Int × Int × Int)} {i : Nat} {x : V}, Tris K H xs ps → xs[i]? = some x → ∃ p, ps[i]? = some p ∧ Tri K H x p
  | _, _, _, _, .nil, e => by simp at e
  | _, _, 0, x, .cons h _, e => by
    simp at e; subst e
    exact ⟨_, rfl, h⟩
  | _, _, i + 1, x, .cons _ t, e => by
    obtain ⟨p, h1, h2⟩ := Tris.get (i := i) t (by simpa using e)
    exact ⟨p, by simpa using h1, h2⟩
theorem Tris.mem {K : PySem.W.Frag} {H : Hp} {xs : List V} {ps : List (Int × Int × Int)} (h : Tris K H xs ps) {x : V} (hx : x ∈ xs) : ∃ p ∈ ps, Tri K H x p := by
  obtain ⟨i, hi⟩ := List.mem_iff_getElem?.mp hx
  obtain ⟨p, h1, h2⟩ := Tris.get h hi
  exact ⟨p, List.mem_of_getElem? h1, h2⟩
theorem Tri.nm {K : PySem.W.Frag} {H : Hp} {x : V} {p : Int × Int × Int} (h : Tri K H x p) : Nm K H x := by
  obtain ⟨q, rfl, h⟩ := h
  refine ⟨tri p, .tup h (.cons (.int _) (.cons (.int _) (.cons (.int _) .nil))), ?_, ?_⟩
  · simp only [tri, numD, numAll, Bool.and_self]
  · simp only [tri, depth_tuple, PyData.depthAll, PyData.depth]; omega
/-- the order of triples -/
def triLe : (Int × Int × Int) → (Int × Int × Int) → Bool := PySem.W.dataLe false tri
def rSortTri (K : PySem.W.Frag) : List V → Hp → VK → Prop := fun vs H Q => ∃ (a : Addr) (xs : List V) (ps : List (Int × Int × Int)), vs = [.ref a] ∧ SqL K H a xs ∧ Tris K H xs ps ∧ ps.length ≤ 1000 ∧
  ∀ (ys : List V) (p : Addr), Tris K H ys (ps.mergeSort triLe) → H p = none → Q (.ref p) (upd H p (.lst ys))
section
variable {X : Cx}
theorem tri_vals {K : PySem.W.Frag} {H : Hp} : ∀ {us : List Value} {ps : List (Int × Int × Int)}, PySem.W.EachIs (fun u p => ∃ q, u = Value.ref q ∧ Tri K H (.ref q) p) us ps → ∃ ys, Vals ys us ∧ Tris K H ys ps
  | _, _, .nil => ⟨[], .nil, .nil⟩
  | _, _, .cons h t => by
    obtain ⟨ys, h1, h2⟩ := tri_vals t
    obtain ⟨q, rfl, h⟩ := h
    exact ⟨.ref q :: ys, .cons rfl h1, .cons h h2⟩
theorem vals_tri {K : PySem.W.Frag} {H : Hp} : ∀ {us : List Value} {xs : List V} {ps : List (Int × Int × Int)}, Vals xs us → Tris K H xs ps → PySem.W.EachIs (fun u p => ∃ q, u = Value.ref q ∧ Tri K H (.ref q) p) us ps
  | _, _, _, .nil, h => by cases h; exact .nil
  | _, _, _, .cons r rr, h => by
    cases h with
    | cons h1 h2 =>
      obtain ⟨q, rfl, h1⟩ := h1
      cases r
      exact .cons ⟨q, rfl, q, rfl, h1⟩ (vals_tri rr h2)
theorem tri_reads {H : Hp} {s : Shared} {pins : List (Addr × Obj)} {σ : L2.St} (I : Inv X pins σ H s) : ∀ {us : List Value} {ps : List (Int × Int × Int)}, PySem.W.EachIs (fun u p => ∃ q, u = Value.ref q ∧ Tri X.K H (.ref q) p) us ps → PySem.W.EachIs (fun v b => ∃ as, Reads s.heap v (tri b) as) us ps
  | _, _, .nil => .nil
  | _, _, .cons h t => by
    obtain ⟨q, rfl, q2, e, h⟩ := h
    cases e
    exact .cons (Dp.reads I _ _ _ (.tup h (.cons (.int _) (.cons (.int _) (.cons (.int _) .nil)))) rfl) (tri_reads I t)
theorem cr_sortTri (hu : X.A.units + 70 < cLine) : CallR X (.builtin "sorted") (rSortTri X.K) := by
  intro pins s σ H vs us Q I r h
  obtain ⟨a, xs, ps, rfl, hs, ht, h64, q⟩ := h
  obtain ⟨its, rv, hl, hz⟩ := I.list hs
  rw [Vals.ref1 r]
  have e := vals_tri rv ht
  refine PySem.W.sorted_data (R := fun u p => ∃ q, u = Value.ref q ∧ Tri X.K H (.ref q) p) (enc := tri) (bs := ps) hl.isList e (tri_reads I e) ?_ ?_ (by rw [sizeLine_eq]; omega) (fun b _ => ?_) fun out ho eo => ?_
  · refine PySem.W.AllAlike.of fun b b' => ?_
    simp only [tri, PySem.W.alike, PySem.W.alikeAll, Bool.and_self]
  · exact PySem.W.Sortable.tuples fun b => ⟨_, _, rfl⟩
  · simp only [tri, depth_tuple, PyData.depthAll, PyData.depth]; omega
  · obtain ⟨ys, vy, ty⟩ := tri_vals eo
    obtain ⟨ep, he'⟩ := PyProof.Rows.sortedAll_at s.heap its out.toArray
    have hlen : ys.length ≤ sizeLine := by
      rw [Tris.len ty, List.length_mergeSort, sizeLine_eq]; omega
    exact ⟨.ref _, upd H (s.heap.objs.size + 1) (.lst ys), I.laid (t' := s.toks) (fun _ _ => PyProof.Rows.sortedAll_old) (Nat.le_succ _) ⟨hlen, out, ep, vy, he'⟩, rfl, q ys _ ty (I.hok.fresh (Nat.le_succ _))⟩
end
theorem g_gsub {to ti : TE} {t : TSet} {v : V} {σ : L2.St} {H : Hp} {Q : L2.St → Hp → Prop} (q : to σ H fun o H1 => ti σ H1 fun i H2 => t o i v H2 fun H3 => Q σ H3) : gSub to ti t v σ H Q := q
end SC
namespace SC
open PySem PySem.Spec PyProof.Rows L2 StrLaws

/-! ## name = {k: v for .. if ..} is served by pe_dc; its reading -/
theorem g_dc {wi : TI} {g : TG} {tt : TT} {tk tv : TE} {vs : List Nat} {σ : L2.St} {H : Hp} {Q : VK} (q : wi σ H fun J H1 => ∀ D, H1 D = none → ∃ W : Nat → Nat → Hp → Prop, (∃ m, W 0 m (upd H1 D (.dK []))) ∧ ∀ i m H, W i m H →
  (J.stop i H ∧ Q (.ref D) H) ∨ (J.go i H ∧ ∃ Nx : Hp → Prop, (∀ H', Nx H' → ∃ m', m' < m ∧ W (i + 1) m' H') ∧ ∀ x H', J.yld i H x H' → g x (wipe σ vs) H' fun σ2 H2 => wipe σ2 vs = wipe σ vs ∧ tt σ2 H2 fun b H3 =>
    if b = true then tk σ2 H3 fun y H4 => tv σ2 H4 fun z H5 => ∃ kvs k, y = kV k ∧ H5 D = some (.dK kvs) ∧ kvs.length < sizeLine ∧ Nx (upd H5 D (.dK (putK kvs k z))) else Nx H3)) : tDc wi g tt tk tv vs σ H Q := q
theorem dc_L {K : PySem.W.Frag} {a : Addr} {xs : List V} {g : TG} {tt : TT} {tk tv : TE} {vs : List Nat} {σ : L2.St} {H1 : Hp} {D : Addr} {Qd : Hp → Prop} (Pv : Nat → Hp → Prop) (h0 : Pv 0 (upd H1 D (.dK []))) (hl : ∀ i H, Pv i H → SqL K H a xs)
    (hs : ∀ i x H, xs[i]? = some x → Pv i H → g x (wipe σ vs) H fun σ2 H2 => wipe σ2 vs = wipe σ vs ∧ tt σ2 H2 fun b H3 =>
      if b = true then tk σ2 H3 fun y H4 => tv σ2 H4 fun z H5 => ∃ kvs k, y = kV k ∧ H5 D = some (.dK kvs) ∧ kvs.length < sizeLine ∧ Pv (i + 1) (upd H5 D (.dK (putK kvs k z))) else Pv (i + 1) H3) (hd : ∀ H, Pv xs.length H → Qd H) :
    ∃ W : Nat → Nat → Hp → Prop, (∃ m, W 0 m (upd H1 D (.dK []))) ∧ ∀ i m H, W i m H →
      ((Itl K a).stop i H ∧ Qd H) ∨ ((Itl K a).go i H ∧ ∃ Nx : Hp → Prop, (∀ H', Nx H' → ∃ m', m' < m ∧ W (i + 1) m' H') ∧ ∀ x H', (Itl K a).yld i H x H' → g x (wipe σ vs) H' fun σ2 H2 => wipe σ2 vs = wipe σ vs ∧ tt σ2 H2 fun b H3 =>
        if b = true then tk σ2 H3 fun y H4 => tv σ2 H4 fun z H5 => ∃ kvs k, y = kV k ∧ H5 D = some (.dK kvs) ∧ kvs.length < sizeLine ∧ Nx (upd H5 D (.dK (putK kvs k z))) else Nx H3) := by
  refine ⟨fun i m H => i + m = xs.length ∧ Pv i H, ⟨xs.length, Nat.zero_add _, h0⟩, fun i m H ⟨e, p⟩ => ?_⟩
  have q := hl i H p
  cases m with
  | zero =>
    obtain rfl : i = xs.length := by omega
    exact .inl ⟨⟨xs, q, Nat.le_refl _⟩, hd H p⟩
  | succ m =>
    have hlt : i < xs.length := by omega
    refine .inr ⟨⟨xs, xs[i], q, List.getElem?_eq_getElem hlt⟩, Pv (i + 1), fun H' p' => ⟨m, by omega, by omega, p'⟩, fun x H' y => ?_⟩
    obtain ⟨rfl, y⟩ := y
    exact hs i x _ (y xs q) p

/-! ## all things with their shares -/
mutual
def Th.tws (a b : Int) : Th → List (Th × Int × Int)
  | .inp i => [(.inp i, a, b)]
  | .st n c ps => (.st n c ps, a, b) :: twsL a (b * n) ps
def twsL (a b : Int) : List (Int × Th) → List (Th × Int × Int)
  | [] => []
  | (w, t) :: q => t.tws (a * w) b ++ twsL a b q
end
def twSt : Th × Int × Int → Option (Int × Int)
  | (.inp _, _) => none
  | (.st _ _ _, s) => some s
def twIn : Th × Int × Int → Option (Int × Int × Int)
  | (.inp i, s) => some (i, s)
  | (.st _ _ _, _) => none
theorem twsL_app (a b : Int) : ∀ p q : List (Int × Th), twsL a b (p ++ q) = twsL a b p ++ twsL a b q
  | [], q => by simp [twsL]
  | (w, t) :: p, q => by simp only [List.cons_append, twsL, twsL_app a b p q, List.append_assoc]
theorem twsL_take {a b : Int} {ps : List (Int × Th)} {i : Nat} {w : Int} {t : Th} (h : ps[i]? = some (w, t)) : twsL a b (ps.take (i + 1)) = twsL a b (ps.take i) ++ t.tws (a * w) b := by
  rw [take_one h, twsL_app]
  simp only [twsL, List.append_nil]
mutual
theorem tws_len : ∀ (t : Th) (a b : Int), (t.tws a b).length = t.nIn + t.nSt
  | .inp _, _, _ => by simp only [Th.tws, Th.nIn, Th.nSt, List.length_singleton]
  | .st n c ps, a, b => by simp only [Th.tws, Th.nIn, Th.nSt, List.length_cons, twsL_len ps]; omega
theorem twsL_len : ∀ (ps : List (Int × Th)) (a b : Int), (twsL a b ps).length = nInL ps + nStL ps
  | [], _, _ => by simp only [twsL, nInL, nStL, List.length_nil]
  | (w, t) :: q, a, b => by simp only [twsL, nInL, nStL, List.length_append, tws_len t, twsL_len q]; omega
end
mutual
theorem tws_sh : ∀ (t : Th) (a b : Int), (t.tws a b).filterMap twSt = t.sh a b
  | .inp _, _, _ => by simp only [Th.tws, Th.sh, List.filterMap_cons, twSt, List.filterMap_nil]
  | .st n c ps, a, b => by simp only [Th.tws, Th.sh, List.filterMap_cons, twSt, twsL_sh ps]
theorem twsL_sh : ∀ (ps : List (Int × Th)) (a b : Int), (twsL a b ps).filterMap twSt = shL a b ps
  | [], _, _ => by simp only [twsL, shL, List.filterMap_nil]
  | (w, t) :: q, a, b => by simp only [twsL, shL, List.filterMap_append, tws_sh t, twsL_sh q]
end
mutual
theorem tws_fm : ∀ (t : Th) (a b : Int), (t.tws a b).filterMap twIn = t.fm a b
  | .inp _, _, _ => by simp only [Th.tws, Th.fm, List.filterMap_cons, twIn, List.filterMap_nil]
  | .st n c ps, a, b => by simp only [Th.tws, Th.fm, List.filterMap_cons, twIn, twsL_fm ps]
theorem twsL_fm : ∀ (ps : List (Int × Th)) (a b : Int), (twsL a b ps).filterMap twIn = fmL a b ps
  | [], _, _ => by simp only [twsL, fmL, List.filterMap_nil]
  | (w, t) :: q, a, b => by simp only [twsL, fmL, List.filterMap_append, tws_fm t, twsL_fm q]
end

/-! ## the form in the order of the inputs -/
def trl (p : Int × Int × Int) : List Int := [p.1, p.2.1, p.2.2]
theorem triLe_eq (p q : Int × Int × Int) : triLe p q = decide (trl p ≤ trl q) := by
  have e : ∀ p : Int × Int × Int, tri p = .tuple ((trl p).map PyData.int) := fun p => rfl
  show (!PySem.W.dataLt (tri q) (tri p)) = _
  rw [e, e, PySem.W.dataLt_tuple]
  show (!PySem.W.rowLt ((trl q).map PyData.int) ((trl p).map PyData.int)) = _
  rw [PySem.W.dataLt_ints]
  by_cases h : trl q < trl p
  · have h2 : ¬ trl p ≤ trl q := fun z => z h
    simp [h, h2]
  · have h2 : trl p ≤ trl q := h
    simp [h, h2]
theorem triLe_fst {p q : Int × Int × Int} (h : triLe p q = true) : p.1 ≤ q.1 := by
  rw [triLe_eq, decide_eq_true_eq] at h
  refine Int.le_of_not_gt fun z => h ?_
  exact List.Lex.rel z
theorem srt_pair (ps : List (Int × Int × Int)) : (ps.mergeSort triLe).Pairwise (fun p q => triLe p q = true) := by
  refine List.pairwise_mergeSort (fun a b c h1 h2 => ?_) (fun a b => ?_) ps
  · rw [triLe_eq, decide_eq_true_eq] at h1 h2 ⊢
    exact List.le_trans h1 h2
  · rw [triLe_eq, triLe_eq, Bool.or_eq_true, decide_eq_true_eq, decide_eq_true_eq]
    exact List.le_total (trl a) (trl b)
theorem rngI_srt (n : Nat) : (rngI n).Pairwise (· ≤ ·) := by
  unfold rngI
  exact List.pairwise_map.mpr (List.pairwise_lt_range.imp fun h => Int.ofNat_le.mpr (Nat.le_of_lt h))
/-- the first items are 0, 1, .. -/
theorem srt_fst {t : Th} (pl : IsPlan t) : ((t.fm 1 1).mergeSort triLe).map (·.1) = rngI t.nIn := by
  have h1 := (List.mergeSort_perm (t.fm 1 1) triLe).map (·.1)
  rw [fm_ins] at h1
  refine List.Perm.eq_of_pairwise (le := (· ≤ ·)) (fun a b _ _ h1 h2 => Int.le_antisymm h1 h2) ?_ (rngI_srt _) (h1.trans pl.perm)
  exact List.pairwise_map.mpr ((srt_pair _).imp fun h => triLe_fst h)
theorem srt_len (t : Th) : ((t.fm 1 1).mergeSort triLe).length = t.nIn := by rw [List.length_mergeSort, form_len]
theorem srt_at {t : Th} (pl : IsPlan t) {i : Nat} (h : i < t.nIn) : ∃ A B, ((t.fm 1 1).mergeSort triLe)[i]? = some ((i : Int), A, B) ∧ ((i : Int), A, B) ∈ t.fm 1 1 := by
  have hl : i < ((t.fm 1 1).mergeSort triLe).length := by rw [srt_len]; exact h
  have e := congrArg (fun l => l[i]?) (srt_fst pl)
  simp only [List.getElem?_map, List.getElem?_eq_getElem hl, Option.map_some] at e
  have e2 : (rngI t.nIn)[i]? = some (i : Int) := by
    unfold rngI
    rw [List.getElem?_map, List.getElem?_range h]
    rfl
  rw [e2] at e
  have e3 := Option.some.inj e
  have hm := (List.mergeSort_perm (t.fm 1 1) triLe).mem_iff.mp (List.getElem_mem hl)
  obtain ⟨a, A, B⟩ : Int × Int × Int := ((t.fm 1 1).mergeSort triLe)[i]
  generalize hx : ((t.fm 1 1).mergeSort triLe)[i] = x at e3 hm
  obtain ⟨o, A, B⟩ := x
  simp only at e3
  subst e3
  exact ⟨A, B, by rw [List.getElem?_eq_getElem hl, hx], hm⟩
theorem fm_one {t : Th} (pl : IsPlan t) {o A B A' B' : Int} (h : (o, A, B) ∈ t.fm 1 1) (h' : (o, A', B') ∈ t.fm 1 1) : (A, B) = (A', B') := by
  have nd : ((t.fm 1 1).map (·.1)).Nodup := by
    rw [fm_ins]
    exact pl.perm.nodup_iff.mpr (by
      unfold rngI
      exact List.pairwise_map.mpr (List.nodup_range.imp fun h e => h (Int.ofNat.inj e)))
  generalize t.fm 1 1 = l at h h' nd
  induction l with
  | nil => cases h
  | cons p l ih =>
    rw [List.map_cons, List.nodup_cons] at nd
    rcases List.mem_cons.mp h with e | h
    · rcases List.mem_cons.mp h' with e' | h'
      · rw [← e] at e'
        exact (Prod.mk.inj e').2.symm
      · exact absurd (List.mem_map.mpr ⟨_, h', by rw [← e]⟩) nd.1
    · rcases List.mem_cons.mp h' with e' | h'
      · exact absurd (List.mem_map.mpr ⟨_, h, by rw [← e']⟩) nd.1
      · exact ih h h' nd.2

/-! ## the exact value by the form -/
def fsum (r : List Int) (W : Int) (l : List (Int × Int × Int)) : Int := (l.map fun p => rowAt r p.1 * p.2.1 * (W / p.2.2)).sum
theorem fsum_app (r : List Int) (W : Int) (a b : List (Int × Int × Int)) : fsum r W (a ++ b) = fsum r W a + fsum r W b := by
  unfold fsum
  rw [List.map_append, List.sum_append]
theorem fsum_perm {r : List Int} {W : Int} {a b : List (Int × Int × Int)} (h : a.Perm b) : fsum r W a = fsum r W b := by
  induction h with
  | nil => rfl
  | cons x _ ih =>
    unfold fsum at ih ⊢
    rw [List.map_cons, List.map_cons, List.sum_cons, List.sum_cons, ih]
  | swap x y l =>
    unfold fsum
    simp only [List.map_cons, List.sum_cons]
    omega
  | trans _ _ h1 h2 => exact h1.trans h2
mutual
theorem fsum_th (r : List Int) : ∀ (t : Th) (a b V : Int), t.good → 0 < b → fsum r (V * (b * (t.ex r).2)) (t.fm a b) = a * (t.ex r).1 * V
  | .inp i, a, b, V, _, hb => by
    unfold fsum
    simp only [Th.fm, Th.ex, List.map_cons, List.map_nil, List.sum_cons, List.sum_nil, Int.mul_one]
    rw [Int.mul_ediv_cancel _ (by omega), Int.mul_comm a]
    omega
  | .st n c ps, a, b, V, g, hb => by
    simp only [Th.good] at g
    have n1 := g.1.n1
    have ih := fsum_L r ps a (b * n) V g.2 (Int.mul_pos hb (by omega))
    simp only [Th.fm, Th.ex]
    have e1 : V * (b * ((exL r ps).2 * n)) = V * (b * n * (exL r ps).2) := by simp only [Int.mul_assoc, Int.mul_left_comm, Int.mul_comm]
    rw [e1, ih]
theorem fsum_L (r : List Int) : ∀ (ps : List (Int × Th)) (a b V : Int), goodL ps → 0 < b → fsum r (V * (b * (exL r ps).2)) (fmL a b ps) = a * (exL r ps).1 * V
  | [], a, b, V, _, _ => by simp [fsum, fmL, exL]
  | (w, t) :: q, a, b, V, g, hb => by
    simp only [goodL] at g
    have i1 := fsum_th r t (a * w) b (V * (exL r q).2) g.1 hb
    have i2 := fsum_L r q a b (V * (t.ex r).2) g.2 hb
    simp only [fmL, exL]
    rw [fsum_app]
    have e1 : V * (b * ((t.ex r).2 * (exL r q).2)) = V * (exL r q).2 * (b * (t.ex r).2) := by simp only [Int.mul_assoc, Int.mul_left_comm, Int.mul_comm]
    have e2 : V * (b * ((t.ex r).2 * (exL r q).2)) = V * (t.ex r).2 * (b * (exL r q).2) := by simp only [Int.mul_assoc, Int.mul_left_comm, Int.mul_comm]
    have s1 : fsum r (V * (b * ((t.ex r).2 * (exL r q).2))) (t.fm (a * w) b) = a * w * (t.ex r).1 * (V * (exL r q).2) := by rw [e1, i1]
    have s2 : fsum r (V * (b * ((t.ex r).2 * (exL r q).2))) (fmL a b q) = a * (exL r q).1 * (V * (t.ex r).2) := by rw [e2, i2]
    rw [s1, s2, Int.mul_add, Int.add_mul]
    have e3 : a * w * (t.ex r).1 * (V * (exL r q).2) = a * (w * (t.ex r).1 * (exL r q).2) * V := by simp only [Int.mul_assoc, Int.mul_left_comm, Int.mul_comm]
    have e4 : a * (exL r q).1 * (V * (t.ex r).2) = a * ((exL r q).1 * (t.ex r).2) * V := by simp only [Int.mul_assoc, Int.mul_left_comm, Int.mul_comm]
    rw [e3, e4]
end
theorem fsum_all {r : List Int} {t : Th} (g : t.good) : fsum r (t.ex r).2 ((t.fm 1 1).mergeSort triLe) = (t.ex r).1 := by
  rw [fsum_perm (List.mergeSort_perm (t.fm 1 1) triLe)]
  have := fsum_th r t 1 1 1 g (by decide)
  simpa only [Int.one_mul, Int.mul_one] using this
/-! ## the product of all divisors -/
def dvOf : List Int × Th → Int
  | (_, .inp _) => 1
  | (_, .st n _ _) => n
def prodI (l : List Int) : Int := l.foldl (· * ·) 1
theorem prodI_snoc (l : List Int) (x : Int) : prodI (l ++ [x]) = prodI l * x := by
  unfold prodI
  rw [List.foldl_append]
  rfl
theorem prod_fold : ∀ (l : List Int) (a : Int), l.foldl (· * ·) a = a * prodI l
  | [], a => by simp [prodI]
  | x :: l, a => by
    unfold prodI
    rw [List.foldl_cons, List.foldl_cons, prod_fold l (a * x), prod_fold l (1 * x), Int.one_mul, Int.mul_assoc]
theorem prodI_cons (x : Int) (l : List Int) : prodI (x :: l) = x * prodI l := by
  unfold prodI
  rw [List.foldl_cons, prod_fold l (1 * x), Int.one_mul]
  rfl
theorem prodI_app (a b : List Int) : prodI (a ++ b) = prodI a * prodI b := by
  unfold prodI
  rw [List.foldl_append, prod_fold b]
  rfl
mutual
theorem things_prod (r : List Int) : ∀ (t : Th) (w : List Int), prodI ((t.things w).map dvOf) = (t.ex r).2
  | .inp _, _ => by simp only [Th.things, Th.ex, List.map_cons, List.map_nil, dvOf, prodI_cons]; rfl
  | .st n c ps, w => by
    simp only [Th.things, Th.ex, List.map_cons, dvOf, prodI_cons, thingsAt_prod r ps w 0]
    exact Int.mul_comm _ _
theorem thingsAt_prod (r : List Int) : ∀ (ps : List (Int × Th)) (w : List Int) (k : Nat), prodI ((thingsAt ps w k).map dvOf) = (exL r ps).2
  | [], _, _ => by simp only [thingsAt, exL, List.map_nil]; rfl
  | (_, t) :: q, w, k => by simp only [thingsAt, exL, List.map_append, prodI_app, things_prod r t, thingsAt_prod r q]
end
theorem prodI_le {l : List Int} (h : ∀ x ∈ l, x.natAbs ≤ 2 ^ 100) : (prodI l).natAbs ≤ 2 ^ (100 * l.length) := by
  induction l with
  | nil => simp [prodI]
  | cons x l ih =>
    rw [prodI_cons, List.length_cons, Nat.mul_succ, Nat.add_comm]
    exact big_prod (h x (List.mem_cons_self ..)) (ih fun y hy => h y (List.mem_cons_of_mem _ hy))
/-! offsets don't matter -/
mutual
theorem bare_ex (r : List Int) : ∀ t : Th, t.bare.ex r = t.ex r
  | .inp _ => by simp only [Th.bare]
  | .st n c ps => by simp only [Th.bare, Th.ex, bareL_ex r ps]
theorem bareL_ex (r : List Int) : ∀ ps : List (Int × Th), exL r (bareL ps) = exL r ps
  | [] => by simp only [bareL]
  | (w, t) :: q => by simp only [bareL, exL, bare_ex r t, bareL_ex r q]
end
mutual
theorem bare_sh : ∀ (t : Th) (a b : Int), t.bare.sh a b = t.sh a b
  | .inp _, _, _ => by simp only [Th.bare]
  | .st n c ps, a, b => by simp only [Th.bare, Th.sh, bareL_sh ps]
theorem bareL_sh : ∀ (ps : List (Int × Th)) (a b : Int), shL a b (bareL ps) = shL a b ps
  | [], _, _ => by simp only [bareL]
  | (w, t) :: q, a, b => by simp only [bareL, shL, bare_sh t, bareL_sh q]
end
mutual
theorem bare_fm : ∀ (t : Th) (a b : Int), t.bare.fm a b = t.fm a b
  | .inp _, _, _ => by simp only [Th.bare]
  | .st n c ps, a, b => by simp only [Th.bare, Th.fm, bareL_fm ps]
theorem bareL_fm : ∀ (ps : List (Int × Th)) (a b : Int), fmL a b (bareL ps) = fmL a b ps
  | [], _, _ => by simp only [bareL]
  | (w, t) :: q, a, b => by simp only [bareL, fmL, bare_fm t, bareL_fm q]
end
theorem alike_bare {t u : Th} (h : t.bare = u.bare) : (∀ r, t.ex r = u.ex r) ∧ t.sh 1 1 = u.sh 1 1 ∧ t.fm 1 1 = u.fm 1 1 :=
  ⟨fun r => by rw [← bare_ex r t, h, bare_ex r u], by rw [← bare_sh t, h, bare_sh u], by rw [← bare_fm t, h, bare_fm u]⟩
end SC
namespace SC
open PySem PySem.Spec PyProof.Rows L2
def topS (i : Nat) : Stmt := PySem.Challenge.pw_stagecuts_k07_whole_shares_and_forms.main.body.getD i (.Pass ⟨0, 0, 0, 0⟩)
abbrev s_is_stage : Stmt := topS 2
abbrev s_fraction_of : Stmt := topS 4
abbrev s_scaled : Stmt := topS 5
abbrev s_sum_of : Stmt := topS 6
abbrev s_things_with_shares : Stmt := topS 8
abbrev s_stages_with_shares : Stmt := topS 9
abbrev s_shares_of : Stmt := topS 10
abbrev s_form_of : Stmt := topS 11
abbrev s_exact_of_thing : Stmt := topS 13
abbrev s_exact_of : Stmt := topS 14
abbrev s_l_deck : Stmt := topS 16
abbrev s_l_draw : Stmt := topS 17
abbrev s_l_pick : Stmt := topS 18
abbrev s_l_mixed : Stmt := topS 19
abbrev s_l_shape : Stmt := topS 20
abbrev s_l_divisor_of : Stmt := topS 21
abbrev s_l_weights : Stmt := topS 22
abbrev s_l_stage : Stmt := topS 23
abbrev s_l_many_inputs : Stmt := topS 24
abbrev s_l_plan : Stmt := topS 25
abbrev s_l_things : Stmt := topS 26
abbrev s_l_drawn : Stmt := topS 27
abbrev s_l_row : Stmt := topS 28
abbrev s_l_least : Stmt := topS 30
abbrev s_l_exact : Stmt := topS 31
abbrev s_l_shares : Stmt := topS 32
abbrev s_l_form : Stmt := topS 33
abbrev s_l_other : Stmt := topS 34
abbrev s_l_is_right : Stmt := topS 35
abbrev s_l_seen : Stmt := topS 36
abbrev s_l_are_mingled : Stmt := topS 37
abbrev s_law : Stmt := topS 38
theorem sc_is_stage : FnScope ["thing"] ["thing"] (defScope s_is_stage) := ⟨rfl, rfl, rfl, by decide +kernel, rfl, by decide +kernel, by decide +kernel⟩
theorem sc_fraction_of : FnScope ["above", "below", "common"] ["above", "below"] (defScope s_fraction_of) := ⟨rfl, rfl, rfl, by decide +kernel, rfl, by decide +kernel, by decide +kernel⟩
theorem sc_scaled : FnScope ["fraction", "factor", "divisor"] ["fraction", "factor", "divisor"] (defScope s_scaled) := ⟨rfl, rfl, rfl, by decide +kernel, rfl, by decide +kernel, by decide +kernel⟩
theorem sc_sum_of : FnScope ["fractions", "total_above", "total_below", "above", "below"] ["fractions"] (defScope s_sum_of) := ⟨rfl, rfl, rfl, by decide +kernel, rfl, by decide +kernel, by decide +kernel⟩
theorem sc_things_with_shares : FnScope ["thing", "share", "found", "divisor", "_", "parts", "weight", "beneath"] ["thing", "share"] (defScope s_things_with_shares) := ⟨rfl, rfl, rfl, by decide +kernel, rfl, by decide +kernel, by decide +kernel⟩
theorem sc_stages_with_shares : FnScope ["plan", "found", "thing", "share"] ["plan"] (defScope s_stages_with_shares) := ⟨rfl, rfl, rfl, by decide +kernel, rfl, by decide +kernel, by decide +kernel⟩
theorem sc_shares_of : FnScope ["plan", "_", "share"] ["plan"] (defScope s_shares_of) := ⟨rfl, rfl, rfl, by decide +kernel, rfl, by decide +kernel, by decide +kernel⟩
theorem sc_form_of : FnScope ["plan", "found", "share_of_input", "thing", "share", "number"] ["plan"] (defScope s_form_of) := ⟨rfl, rfl, rfl, by decide +kernel, rfl, by decide +kernel, by decide +kernel⟩
theorem sc_exact_of_thing : FnScope ["thing", "row", "divisor", "_", "parts", "whole", "weight", "beneath"] ["thing", "row"] (defScope s_exact_of_thing) := ⟨rfl, rfl, rfl, by decide +kernel, rfl, by decide +kernel, by decide +kernel⟩
theorem sc_exact_of : FnScope ["plan", "row"] ["plan", "row"] (defScope s_exact_of) := ⟨rfl, rfl, rfl, by decide +kernel, rfl, by decide +kernel, by decide +kernel⟩
theorem sc_l_deck : FnScope ["script", "deck", "cell", "whole"] ["script"] (defScope s_l_deck) := ⟨rfl, rfl, rfl, by decide +kernel, rfl, by decide +kernel, by decide +kernel⟩
theorem sc_l_draw : FnScope ["deck", "many", "whole", "found"] ["deck", "many"] (defScope s_l_draw) := ⟨rfl, rfl, rfl, by decide +kernel, rfl, by decide +kernel, by decide +kernel⟩
theorem sc_l_pick : FnScope ["deck", "items"] ["deck", "items"] (defScope s_l_pick) := ⟨rfl, rfl, rfl, by decide +kernel, rfl, by decide +kernel, by decide +kernel⟩
theorem sc_l_mixed : FnScope ["deck", "items", "left", "found"] ["deck", "items"] (defScope s_l_mixed) := ⟨rfl, rfl, rfl, by decide +kernel, rfl, by decide +kernel, by decide +kernel⟩
theorem sc_l_shape : FnScope ["deck", "many", "deep", "wide", "parts", "left", "own", "inputs"] ["deck", "many", "deep", "wide"] (defScope s_l_shape) := ⟨rfl, rfl, rfl, by decide +kernel, rfl, by decide +kernel, by decide +kernel⟩
theorem sc_l_divisor_of : FnScope ["one", "other"] ["one", "other"] (defScope s_l_divisor_of) := ⟨rfl, rfl, rfl, by decide +kernel, rfl, by decide +kernel, by decide +kernel⟩
theorem sc_l_weights : FnScope ["deck", "many", "sort", "menu", "found", "common", "weight", "turn"] ["deck", "many", "sort"] (defScope s_l_weights) := ⟨rfl, rfl, rfl, by decide +kernel, rfl, by decide +kernel, by decide +kernel⟩
theorem sc_l_stage : FnScope ["deck", "shape", "left", "sort", "menu", "divisor", "parts", "weight", "own", "offset"] ["deck", "shape", "left", "sort"] (defScope s_l_stage) := ⟨rfl, rfl, rfl, by decide +kernel, rfl, by decide +kernel, by decide +kernel⟩
theorem sc_l_many_inputs : FnScope ["shape", "own"] ["shape"] (defScope s_l_many_inputs) := ⟨rfl, rfl, rfl, by decide +kernel, rfl, by decide +kernel, by decide +kernel⟩
theorem sc_l_plan : FnScope ["deck", "many", "deep", "wide", "sort", "shape", "less"] ["deck", "many", "deep", "wide", "sort"] (defScope s_l_plan) := ⟨rfl, rfl, rfl, by decide +kernel, rfl, by decide +kernel, by decide +kernel⟩
theorem sc_l_things : FnScope ["thing", "way", "found", "place", "weight", "own"] ["thing", "way"] (defScope s_l_things) := ⟨rfl, rfl, rfl, by decide +kernel, rfl, by decide +kernel, by decide +kernel⟩
theorem sc_l_drawn : FnScope ["deck", "turn", "many", "deep", "wide"] ["deck", "turn"] (defScope s_l_drawn) := ⟨rfl, rfl, rfl, by decide +kernel, rfl, by decide +kernel, by decide +kernel⟩
theorem sc_l_row : FnScope ["deck", "plan", "many", "sizes", "found", "turn", "size", "near", "small", "far", "way", "thing"] ["deck", "plan", "many"] (defScope s_l_row) := ⟨rfl, rfl, rfl, by decide +kernel, rfl, by decide +kernel, by decide +kernel⟩
theorem sc_l_least : FnScope ["above", "below", "common"] ["above", "below"] (defScope s_l_least) := ⟨rfl, rfl, rfl, by decide +kernel, rfl, by decide +kernel, by decide +kernel⟩
theorem sc_l_exact : FnScope ["thing", "row", "parts", "whole", "above", "weight", "own", "one", "below"] ["thing", "row"] (defScope s_l_exact) := ⟨rfl, rfl, rfl, by decide +kernel, rfl, by decide +kernel, by decide +kernel⟩
theorem sc_l_shares : FnScope ["thing", "above", "below", "found", "weight", "own"] ["thing", "above", "below"] (defScope s_l_shares) := ⟨rfl, rfl, rfl, by decide +kernel, rfl, by decide +kernel, by decide +kernel⟩
theorem sc_l_form : FnScope ["thing", "above", "below", "found", "weight", "own"] ["thing", "above", "below"] (defScope s_l_form) := ⟨rfl, rfl, rfl, by decide +kernel, rfl, by decide +kernel, by decide +kernel⟩
theorem sc_l_other : FnScope ["deck", "thing", "offset", "weight", "own"] ["deck", "thing"] (defScope s_l_other) := ⟨rfl, rfl, rfl, by decide +kernel, rfl, by decide +kernel, by decide +kernel⟩
theorem sc_l_is_right : FnScope ["deck", "plan", "is_named", "known", "form", "whole", "way", "thing", "due", "seen", "other", "turn", "row", "total", "above", "below", "own"] ["deck", "plan", "is_named"] (defScope s_l_is_right) := ⟨rfl, rfl, rfl, by decide +kernel, rfl, by decide +kernel, by decide +kernel⟩
theorem sc_l_seen : FnScope ["word", "plan", "row"] ["word", "plan", "row"] (defScope s_l_seen) := ⟨rfl, rfl, rfl, by decide +kernel, rfl, by decide +kernel, by decide +kernel⟩
theorem sc_l_are_mingled : FnScope ["deck", "cases", "calls", "nth", "plan", "form", "row", "due", "above", "below", "word", "own"] ["deck"] (defScope s_l_are_mingled) := ⟨rfl, rfl, rfl, by decide +kernel, rfl, by decide +kernel, by decide +kernel⟩
theorem sc_law : FnScope ["script", "deck", "turn", "one"] ["script"] (defScope s_law) := ⟨rfl, rfl, rfl, by decide +kernel, rfl, by decide +kernel, by decide +kernel⟩
structure Tx (K : PySem.W.Frag) (mg : Str → Option Value) where
  f_is_stage : Addr
  fd_is_stage : FuncData
  F_is_stage : Fun K "is_stage" "is_stage" s_is_stage f_is_stage fd_is_stage
  g_is_stage : mg "is_stage" = some (.ref f_is_stage)
  f_fraction_of : Addr
  fd_fraction_of : FuncData
  F_fraction_of : Fun K "fraction_of" "fraction_of" s_fraction_of f_fraction_of fd_fraction_of
  g_fraction_of : mg "fraction_of" = some (.ref f_fraction_of)
  f_scaled : Addr
  fd_scaled : FuncData
  F_scaled : Fun K "scaled" "scaled" s_scaled f_scaled fd_scaled
  g_scaled : mg "scaled" = some (.ref f_scaled)
  f_sum_of : Addr
  fd_sum_of : FuncData
  F_sum_of : Fun K "sum_of" "sum_of" s_sum_of f_sum_of fd_sum_of
  g_sum_of : mg "sum_of" = some (.ref f_sum_of)
  f_things_with_shares : Addr
  fd_things_with_shares : FuncData
  F_things_with_shares : Fun K "things_with_shares" "things_with_shares" s_things_with_shares f_things_with_shares fd_things_with_shares
  g_things_with_shares : mg "things_with_shares" = some (.ref f_things_with_shares)
  f_stages_with_shares : Addr
  fd_stages_with_shares : FuncData
  F_stages_with_shares : Fun K "stages_with_shares" "stages_with_shares" s_stages_with_shares f_stages_with_shares fd_stages_with_shares
  g_stages_with_shares : mg "stages_with_shares" = some (.ref f_stages_with_shares)
  f_shares_of : Addr
  fd_shares_of : FuncData
  F_shares_of : Fun K "shares_of" "shares_of" s_shares_of f_shares_of fd_shares_of
  g_shares_of : mg "shares_of" = some (.ref f_shares_of)
  f_form_of : Addr
  fd_form_of : FuncData
  F_form_of : Fun K "form_of" "form_of" s_form_of f_form_of fd_form_of
  g_form_of : mg "form_of" = some (.ref f_form_of)
  f_exact_of_thing : Addr
  fd_exact_of_thing : FuncData
  F_exact_of_thing : Fun K "exact_of_thing" "exact_of_thing" s_exact_of_thing f_exact_of_thing fd_exact_of_thing
  g_exact_of_thing : mg "exact_of_thing" = some (.ref f_exact_of_thing)
  f_exact_of : Addr
  fd_exact_of : FuncData
  F_exact_of : Fun K "exact_of" "exact_of" s_exact_of f_exact_of fd_exact_of
  g_exact_of : mg "exact_of" = some (.ref f_exact_of)
  f_l_deck : Addr
  fd_l_deck : FuncData
  F_l_deck : Fun K "_law_deck" "_law_deck" s_l_deck f_l_deck fd_l_deck
  g_l_deck : mg "_law_deck" = some (.ref f_l_deck)
  f_l_draw : Addr
  fd_l_draw : FuncData
  F_l_draw : Fun K "_law_draw" "_law_draw" s_l_draw f_l_draw fd_l_draw
  g_l_draw : mg "_law_draw" = some (.ref f_l_draw)
  f_l_pick : Addr
  fd_l_pick : FuncData
  F_l_pick : Fun K "_law_pick" "_law_pick" s_l_pick f_l_pick fd_l_pick
  g_l_pick : mg "_law_pick" = some (.ref f_l_pick)
  f_l_mixed : Addr
  fd_l_mixed : FuncData
  F_l_mixed : Fun K "_law_mixed" "_law_mixed" s_l_mixed f_l_mixed fd_l_mixed
  g_l_mixed : mg "_law_mixed" = some (.ref f_l_mixed)
  f_l_shape : Addr
  fd_l_shape : FuncData
  F_l_shape : Fun K "_law_shape" "_law_shape" s_l_shape f_l_shape fd_l_shape
  g_l_shape : mg "_law_shape" = some (.ref f_l_shape)
  f_l_divisor_of : Addr
  fd_l_divisor_of : FuncData
  F_l_divisor_of : Fun K "_law_divisor_of" "_law_divisor_of" s_l_divisor_of f_l_divisor_of fd_l_divisor_of
  g_l_divisor_of : mg "_law_divisor_of" = some (.ref f_l_divisor_of)
  f_l_weights : Addr
  fd_l_weights : FuncData
  F_l_weights : Fun K "_law_weights" "_law_weights" s_l_weights f_l_weights fd_l_weights
  g_l_weights : mg "_law_weights" = some (.ref f_l_weights)
  f_l_stage : Addr
  fd_l_stage : FuncData
  F_l_stage : Fun K "_law_stage" "_law_stage" s_l_stage f_l_stage fd_l_stage
  g_l_stage : mg "_law_stage" = some (.ref f_l_stage)
  f_l_many_inputs : Addr
  fd_l_many_inputs : FuncData
  F_l_many_inputs : Fun K "_law_many_inputs" "_law_many_inputs" s_l_many_inputs f_l_many_inputs fd_l_many_inputs
  g_l_many_inputs : mg "_law_many_inputs" = some (.ref f_l_many_inputs)
  f_l_plan : Addr
  fd_l_plan : FuncData
  F_l_plan : Fun K "_law_plan" "_law_plan" s_l_plan f_l_plan fd_l_plan
  g_l_plan : mg "_law_plan" = some (.ref f_l_plan)
  f_l_things : Addr
  fd_l_things : FuncData
  F_l_things : Fun K "_law_things" "_law_things" s_l_things f_l_things fd_l_things
  g_l_things : mg "_law_things" = some (.ref f_l_things)
  f_l_drawn : Addr
  fd_l_drawn : FuncData
  F_l_drawn : Fun K "_law_drawn" "_law_drawn" s_l_drawn f_l_drawn fd_l_drawn
  g_l_drawn : mg "_law_drawn" = some (.ref f_l_drawn)
  f_l_row : Addr
  fd_l_row : FuncData
  F_l_row : Fun K "_law_row" "_law_row" s_l_row f_l_row fd_l_row
  g_l_row : mg "_law_row" = some (.ref f_l_row)
  f_l_least : Addr
  fd_l_least : FuncData
  F_l_least : Fun K "_law_least" "_law_least" s_l_least f_l_least fd_l_least
  g_l_least : mg "_law_least" = some (.ref f_l_least)
  f_l_exact : Addr
  fd_l_exact : FuncData
  F_l_exact : Fun K "_law_exact" "_law_exact" s_l_exact f_l_exact fd_l_exact
  g_l_exact : mg "_law_exact" = some (.ref f_l_exact)
  f_l_shares : Addr
  fd_l_shares : FuncData
  F_l_shares : Fun K "_law_shares" "_law_shares" s_l_shares f_l_shares fd_l_shares
  g_l_shares : mg "_law_shares" = some (.ref f_l_shares)
  f_l_form : Addr
  fd_l_form : FuncData
  F_l_form : Fun K "_law_form" "_law_form" s_l_form f_l_form fd_l_form
  g_l_form : mg "_law_form" = some (.ref f_l_form)
  f_l_other : Addr
  fd_l_other : FuncData
  F_l_other : Fun K "_law_other" "_law_other" s_l_other f_l_other fd_l_other
  g_l_other : mg "_law_other" = some (.ref f_l_other)
  f_l_is_right : Addr
  fd_l_is_right : FuncData
  F_l_is_right : Fun K "_law_is_right" "_law_is_right" s_l_is_right f_l_is_right fd_l_is_right
  g_l_is_right : mg "_law_is_right" = some (.ref f_l_is_right)
  f_l_seen : Addr
  fd_l_seen : FuncData
  F_l_seen : Fun K "_law_seen" "_law_seen" s_l_seen f_l_seen fd_l_seen
  g_l_seen : mg "_law_seen" = some (.ref f_l_seen)
  f_l_are_mingled : Addr
  fd_l_are_mingled : FuncData
  F_l_are_mingled : Fun K "_law_are_mingled" "_law_are_mingled" s_l_are_mingled f_l_are_mingled fd_l_are_mingled
  g_l_are_mingled : mg "_law_are_mingled" = some (.ref f_l_are_mingled)
  f_law : Addr
  fd_law : FuncData
  F_law : Fun K "law" "law" s_law f_law fd_law
  g_law : mg "law" = some (.ref f_law)
  m_abs : mg "abs" = none
  m_enumerate : mg "enumerate" = none
  m_int : mg "int" = none
  m_isinstance : mg "isinstance" = none
  m_len : mg "len" = none
  m_list : mg "list" = none
  m_min : mg "min" = none
  m_range : mg "range" = none
  m_repr : mg "repr" = none
  m_sorted : mg "sorted" = none
  m_sum : mg "sum" = none
  m_tuple : mg "tuple" = none
  m_zip : mg "zip" = none
  c_gcd : mg "gcd" = some (.builtin "math.gcd")
section
variable {K : PySem.W.Frag} {mg : Str → Option Value}
theorem Tx.b_is_stage (T : Tx K mg) : Binds K T.fd_is_stage ["thing"] [] := T.F_is_stage.binds (ps := ["thing"]) fun _ _ _ _ _ _ us hl => match us, hl with | [_], _ => rfl
theorem Tx.b_fraction_of (T : Tx K mg) : Binds K T.fd_fraction_of ["above", "below"] [] := T.F_fraction_of.binds (ps := ["above", "below"]) fun _ _ _ _ _ _ us hl => match us, hl with | [_, _], _ => rfl
theorem Tx.b_scaled (T : Tx K mg) : Binds K T.fd_scaled ["fraction", "factor", "divisor"] [] := T.F_scaled.binds (ps := ["fraction", "factor", "divisor"]) fun _ _ _ _ _ _ us hl => match us, hl with | [_, _, _], _ => rfl
theorem Tx.b_sum_of (T : Tx K mg) : Binds K T.fd_sum_of ["fractions"] [] := T.F_sum_of.binds (ps := ["fractions"]) fun _ _ _ _ _ _ us hl => match us, hl with | [_], _ => rfl
theorem Tx.b_things_with_shares (T : Tx K mg) : Binds K T.fd_things_with_shares ["thing", "share"] [] := T.F_things_with_shares.binds (ps := ["thing", "share"]) fun _ _ _ _ _ _ us hl => match us, hl with | [_, _], _ => rfl
theorem Tx.b_stages_with_shares (T : Tx K mg) : Binds K T.fd_stages_with_shares ["plan"] [] := T.F_stages_with_shares.binds (ps := ["plan"]) fun _ _ _ _ _ _ us hl => match us, hl with | [_], _ => rfl
theorem Tx.b_shares_of (T : Tx K mg) : Binds K T.fd_shares_of ["plan"] [] := T.F_shares_of.binds (ps := ["plan"]) fun _ _ _ _ _ _ us hl => match us, hl with | [_], _ => rfl
theorem Tx.b_form_of (T : Tx K mg) : Binds K T.fd_form_of ["plan"] [] := T.F_form_of.binds (ps := ["plan"]) fun _ _ _ _ _ _ us hl => match us, hl with | [_], _ => rfl
theorem Tx.b_exact_of_thing (T : Tx K mg) : Binds K T.fd_exact_of_thing ["thing", "row"] [] := T.F_exact_of_thing.binds (ps := ["thing", "row"]) fun _ _ _ _ _ _ us hl => match us, hl with | [_, _], _ => rfl
theorem Tx.b_exact_of (T : Tx K mg) : Binds K T.fd_exact_of ["plan", "row"] [] := T.F_exact_of.binds (ps := ["plan", "row"]) fun _ _ _ _ _ _ us hl => match us, hl with | [_, _], _ => rfl
theorem Tx.b_l_deck (T : Tx K mg) : Binds K T.fd_l_deck ["script"] [] := T.F_l_deck.binds (ps := ["script"]) fun _ _ _ _ _ _ us hl => match us, hl with | [_], _ => rfl
theorem Tx.b_l_draw (T : Tx K mg) : Binds K T.fd_l_draw ["deck", "many"] [] := T.F_l_draw.binds (ps := ["deck", "many"]) fun _ _ _ _ _ _ us hl => match us, hl with | [_, _], _ => rfl
theorem Tx.b_l_pick (T : Tx K mg) : Binds K T.fd_l_pick ["deck", "items"] [] := T.F_l_pick.binds (ps := ["deck", "items"]) fun _ _ _ _ _ _ us hl => match us, hl with | [_, _], _ => rfl
theorem Tx.b_l_mixed (T : Tx K mg) : Binds K T.fd_l_mixed ["deck", "items"] [] := T.F_l_mixed.binds (ps := ["deck", "items"]) fun _ _ _ _ _ _ us hl => match us, hl with | [_, _], _ => rfl
theorem Tx.b_l_shape (T : Tx K mg) : Binds K T.fd_l_shape ["deck", "many", "deep", "wide"] [] := T.F_l_shape.binds (ps := ["deck", "many", "deep", "wide"]) fun _ _ _ _ _ _ us hl => match us, hl with | [_, _, _, _], _ => rfl
theorem Tx.b_l_divisor_of (T : Tx K mg) : Binds K T.fd_l_divisor_of ["one", "other"] [] := T.F_l_divisor_of.binds (ps := ["one", "other"]) fun _ _ _ _ _ _ us hl => match us, hl with | [_, _], _ => rfl
theorem Tx.b_l_weights (T : Tx K mg) : Binds K T.fd_l_weights ["deck", "many", "sort"] [] := T.F_l_weights.binds (ps := ["deck", "many", "sort"]) fun _ _ _ _ _ _ us hl => match us, hl with | [_, _, _], _ => rfl
theorem Tx.b_l_stage (T : Tx K mg) : Binds K T.fd_l_stage ["deck", "shape", "left", "sort"] [] := T.F_l_stage.binds (ps := ["deck", "shape", "left", "sort"]) fun _ _ _ _ _ _ us hl => match us, hl with | [_, _, _, _], _ => rfl
theorem Tx.b_l_many_inputs (T : Tx K mg) : Binds K T.fd_l_many_inputs ["shape"] [] := T.F_l_many_inputs.binds (ps := ["shape"]) fun _ _ _ _ _ _ us hl => match us, hl with | [_], _ => rfl
theorem Tx.b_l_plan (T : Tx K mg) : Binds K T.fd_l_plan ["deck", "many", "deep", "wide", "sort"] [] := T.F_l_plan.binds (ps := ["deck", "many", "deep", "wide", "sort"]) fun _ _ _ _ _ _ us hl => match us, hl with | [_, _, _, _, _], _ => rfl
theorem Tx.b_l_things (T : Tx K mg) : Binds K T.fd_l_things ["thing", "way"] [] := T.F_l_things.binds (ps := ["thing", "way"]) fun _ _ _ _ _ _ us hl => match us, hl with | [_, _], _ => rfl
theorem Tx.b_l_drawn (T : Tx K mg) : Binds K T.fd_l_drawn ["deck", "turn"] [] := T.F_l_drawn.binds (ps := ["deck", "turn"]) fun _ _ _ _ _ _ us hl => match us, hl with | [_, _], _ => rfl
theorem Tx.b_l_row (T : Tx K mg) : Binds K T.fd_l_row ["deck", "plan", "many"] [] := T.F_l_row.binds (ps := ["deck", "plan", "many"]) fun _ _ _ _ _ _ us hl => match us, hl with | [_, _, _], _ => rfl
theorem Tx.b_l_least (T : Tx K mg) : Binds K T.fd_l_least ["above", "below"] [] := T.F_l_least.binds (ps := ["above", "below"]) fun _ _ _ _ _ _ us hl => match us, hl with | [_, _], _ => rfl
theorem Tx.b_l_exact (T : Tx K mg) : Binds K T.fd_l_exact ["thing", "row"] [] := T.F_l_exact.binds (ps := ["thing", "row"]) fun _ _ _ _ _ _ us hl => match us, hl with | [_, _], _ => rfl
theorem Tx.b_l_shares (T : Tx K mg) : Binds K T.fd_l_shares ["thing", "above", "below"] [] := T.F_l_shares.binds (ps := ["thing", "above", "below"]) fun _ _ _ _ _ _ us hl => match us, hl with | [_, _, _], _ => rfl
theorem Tx.b_l_form (T : Tx K mg) : Binds K T.fd_l_form ["thing", "above", "below"] [] := T.F_l_form.binds (ps := ["thing", "above", "below"]) fun _ _ _ _ _ _ us hl => match us, hl with | [_, _, _], _ => rfl
theorem Tx.b_l_other (T : Tx K mg) : Binds K T.fd_l_other ["deck", "thing"] [] := T.F_l_other.binds (ps := ["deck", "thing"]) fun _ _ _ _ _ _ us hl => match us, hl with | [_, _], _ => rfl
theorem Tx.b_l_is_right (T : Tx K mg) : Binds K T.fd_l_is_right ["deck", "plan", "is_named"] [] := T.F_l_is_right.binds (ps := ["deck", "plan", "is_named"]) fun _ _ _ _ _ _ us hl => match us, hl with | [_, _, _], _ => rfl
theorem Tx.b_l_seen (T : Tx K mg) : Binds K T.fd_l_seen ["word", "plan", "row"] [] := T.F_l_seen.binds (ps := ["word", "plan", "row"]) fun _ _ _ _ _ _ us hl => match us, hl with | [_, _, _], _ => rfl
theorem Tx.b_l_are_mingled (T : Tx K mg) : Binds K T.fd_l_are_mingled ["deck"] [] := T.F_l_are_mingled.binds (ps := ["deck"]) fun _ _ _ _ _ _ us hl => match us, hl with | [_], _ => rfl
theorem Tx.b_law (T : Tx K mg) : Binds K T.fd_law ["script"] [] := T.F_law.binds (ps := ["script"]) fun _ _ _ _ _ _ us hl => match us, hl with | [_], _ => rfl
theorem Tx.k_shares_of_plan (T : Tx K mg) : KBinds K T.fd_shares_of ["plan"] ["plan"] (gK 1 [0]) (gK 1 [0]) where
  rel := gK_rel
  to := fun s us ws KX hl => by
    obtain ⟨oc, od, kV, doc, pm, an, cdv, ct, osl, e, lk, hcd⟩ := T.F_shares_of.ex
    rw [e]
    match us, ws, hl with
    | [], [a0], _ => exact BindsTo.of_eq rfl
theorem Tx.k_form_of_plan (T : Tx K mg) : KBinds K T.fd_form_of ["plan"] ["plan"] (gK 1 [0]) (gK 1 [0]) where
  rel := gK_rel
  to := fun s us ws KX hl => by
    obtain ⟨oc, od, kV, doc, pm, an, cdv, ct, osl, e, lk, hcd⟩ := T.F_form_of.ex
    rw [e]
    match us, ws, hl with
    | [], [a0], _ => exact BindsTo.of_eq rfl
theorem Tx.k_exact_of_row_plan (T : Tx K mg) : KBinds K T.fd_exact_of ["plan", "row"] ["row", "plan"] (gK 2 [1, 0]) (gK 2 [1, 0]) where
  rel := gK_rel
  to := fun s us ws KX hl => by
    obtain ⟨oc, od, kV, doc, pm, an, cdv, ct, osl, e, lk, hcd⟩ := T.F_exact_of.ex
    rw [e]
    match us, ws, hl with
    | [], [a0, a1], _ => exact BindsTo.of_eq rfl
end
end SC
namespace SC
open PySem PySem.Spec PyProof.Rows L2 StrLaws
local macro_rules | `(tactic| walk_at "go") => `(tactic| ((try dsimp only [cxOf, Cx.nox, Cx.wish]); repeat (first
  | (with_reducible refine g_seq ?_)
  | (with_reducible refine g_asg ?_)
  | (with_reducible refine g_asg2 ?_)
  | (with_reducible refine g_ret ?_)
  | (with_reducible refine g_drop ?_)
  | (with_reducible refine g_next ?_)
  | (with_reducible refine g_ifs ?_)
  | (with_reducible refine g_par ?_)
  | (with_reducible refine g_par3 ?_)
  | ((with_reducible refine' g_var ?hv ?_); (case hv => exact rfl))
  | (with_reducible refine g_c ?_)
  | ((with_reducible refine' g_aug ?hv ?_); (case hv => exact rfl))
  | (with_reducible refine l_ip ?_)
  | (with_reducible refine g_op ?_)
  | (with_reducible refine g_un ?_)
  | (with_reducible refine g_cons ?_)
  | (with_reducible refine g_nil ?_)
  | (with_reducible refine g_cb ?_)
  | (with_reducible refine g_call ?_)
  | (with_reducible refine g_callK ?_)
  | (with_reducible refine g_test ?_)
  | (with_reducible refine g_b ?_)
  | (with_reducible refine g_not ?_)
  | (with_reducible refine g_chain ?_)
  | (with_reducible refine g_notV ?_)
  | (with_reducible refine g_and ?_)
  | (with_reducible refine g_or ?_)
  | (with_reducible refine g_ifx ?_)
  | (with_reducible refine g_isN ?_)
  | (with_reducible refine g_notN ?_)
  | (with_reducible refine g_andV ?_)
  | (with_reducible refine g_bm ?_)
  | (with_reducible refine g_bm0 ?_)
  | (with_reducible refine g_sl ?_)
  | (with_reducible refine g_part ?_)
  | (with_reducible refine g_nopart ?_)
  | (with_reducible refine g_dget ?_)
  | (with_reducible refine g_dput ?_)
  | (with_reducible refine g_tup ?_)
  | (with_reducible refine g_lst ?_)
  | (with_reducible refine g_yes ?_)
  | (with_reducible refine g_name ?_)
  | (with_reducible refine g_gsub ?_)
  | (with_reducible refine g_iList ?_)
  | (with_reducible refine g_iTup ?_)
  | (with_reducible refine g_for ?_)
  | (with_reducible refine g_lc ?_)
  | (with_reducible refine g_rng1 ?_)
  | (with_reducible refine g_iZip ?_)
  | (with_reducible refine g_allT ?_)
  | (with_reducible refine g_iZipA ?_)
  | (with_reducible refine g_iZip3 ?_)
  | (with_reducible refine g_dcT ?_)
  | (with_reducible refine g_dc ?_)
  | (with_reducible refine g_iEnumT ?_)
  | (with_reducible refine g_lstRg ?_)
  | (with_reducible refine g_rg1 ?_)
  | (with_reducible refine g_gcons ?_)
  | (with_reducible refine g_gnil ?_)
  | (with_reducible refine l_bl ?_)
  | (with_reducible refine l_int ?_)
  | (with_reducible refine l_two ?_)
  | (with_reducible refine l_three ?_)
  | (with_reducible refine l_I0 ?_)
  | (with_reducible refine l_U ?_)
  | dsimp only)))
section
variable {P : Program} {w : World} {K : PySem.W.Frag} {mg : Str → Option Value} {base : Heap}
/-! ### _law_draw: some number below many -/
def spDraw : Sp := fun vs H Q _ => ∃ dk gr m, vs = [.ref dk, .int m] ∧ Deck H dk gr ∧ m ≤ 10 ^ 31 ∧
  ∀ v H', 0 ≤ v → (v < m ∨ v = 0) → Deck H' dk gr → Same (hid [dk, gr] H) (hid [dk, gr] H') → Q (.int v) H'
theorem deck_new {H H' : Hp} {dk gr : Addr} (d : Deck H dk gr) (s : Same H H') : Deck H' dk gr := by
  obtain ⟨gs, mx, tn, h⟩ := d
  exact ⟨gs, mx, tn, s _ _ h.d, s _ _ h.g, h.few, h.mx0, h.mx1⟩
theorem hid_up2 {D : List Addr} {H : Hp} {a b : Addr} {o u : HO} (ha : a ∈ D) (hb : b ∈ D) : hid D (upd (upd H a o) b u) = hid D H := by rw [hid_upd hb, hid_upd ha]
theorem wide_of {i j : Int} (h0 : 0 < j) (h : j ≤ 10 ^ 31) : CDivW i j := ⟨h0, by
  have h1 : j.natAbs ≠ 0 := by omega
  have h2 : j.natAbs < 2 ^ 110 := by omega
  have h3 : j.natAbs.log2 < 110 := (Nat.log2_lt h1).mpr h2
  omega⟩
theorem fm0 {a b : Int} (h : 0 < b) : 0 ≤ a.fmod b := Int.fmod_nonneg_of_pos a h
theorem fm1 {a b : Int} (h : 0 < b) : a.fmod b < b := Int.fmod_lt_of_pos a h
theorem ok_l_draw (T : Tx K mg) : FnOk P w K mg base CX0 1 T.f_l_draw T.fd_l_draw ["deck", "many"] spDraw := by
  refine T.F_l_draw.ok sc_l_draw (fun vs H Q E h => ?_) (fun cdv A outer s H vs Q E hr h => ?_)
  · obtain ⟨_, _, _, rfl, _⟩ := h
    rfl
  obtain ⟨dk, gr, m, rfl, ⟨gs, mx, tn, D⟩, hm, q⟩ := h
  refine ⟨_, (pss_cons (ps_if (pt_cmpR op_lt (pv 1) pe_int (nomark _)) (pss_one (ps_ret pe_int)) pss_nil)
      (pss_cons (ps_if (pt_cmpR (op_neD hr.units) (pe_dget (hu_of hr) (pv 0) pe_str (fun _ _ => rfl)) (pe_lst pa_nil) (nomark _)) (pss_cons (ps_set (i := 2) sc_l_draw.nd rfl (Or.inl rfl) (pe_bm0 PySem.F.plainAttrs_list PySem.F.slot_list_pop PySem.F.type_list_pop mt_pop (pe_dget (hu_of hr) (pv 0) pe_str (fun _ _ => rfl))))
      (pss_cons (ps_if (pt_cmpR op_ge (pv 2) (pv 1) (nomark _)) (pss_one (ps_expr (pe_bm PySem.F.plainAttrs_list PySem.F.slot_list_append PySem.F.type_list_append mt_append (pe_dget (hu_of hr) (pv 0) pe_str (fun _ _ => rfl)) (pa_cons (pe_op op_fdivW (pv 2) (pv 1)) pa_nil)))) pss_nil)
      (pss_one (ps_ret (pe_op op_modN (pe_callTy call_int1 (by rfl) T.m_int (by decide +kernel) (pa_cons (pv 2) pa_nil)) (pv 1)))))) pss_nil)
      (pss_cons (ps_dput (hu_of hr) (pv 0) pe_str (pe_op op_add (pe_dget (hu_of hr) (pv 0) pe_str (fun _ _ => rfl)) pe_int) rfl)
      (pss_cons (ps_set (i := 3) sc_l_draw.nd rfl (Or.inl rfl) (pe_op op_modN (pe_callTy call_int1 (by rfl) T.m_int (by decide +kernel) (pa_cons (pe_op op_add (pe_dget (hu_of hr) (pv 0) pe_str (fun _ _ => rfl)) (pe_op op_mul pe_int (pe_dget (hu_of hr) (pv 0) pe_str (fun _ _ => rfl)))) pa_nil)) pe_int))
      (pss_cons (ps_set (i := 3) sc_l_draw.nd rfl (Or.inl rfl) (pe_op op_modN (pe_callTy call_int1 (by rfl) T.m_int (by decide +kernel) (pa_cons (pe_op op_add (pe_op op_add (pe_op op_mul (pv 3) (pv 3)) (pe_op op_mul pe_int (pe_dget (hu_of hr) (pv 0) pe_str (fun _ _ => rfl)))) pe_int) pa_nil)) pe_int))
      (pss_cons (ps_set (i := 3) sc_l_draw.nd rfl (Or.inl rfl) (pe_op op_modN (pe_callTy call_int1 (by rfl) T.m_int (by decide +kernel) (pa_cons (pe_op op_add (pe_op op_mul (pv 3) (pv 3)) (pe_op op_mul (pe_dget (hu_of hr) (pv 0) pe_str (fun _ _ => rfl)) pe_int)) pa_nil)) pe_int))
      (pss_one (ps_ret (pe_op op_modN (pe_callTy call_int1 (by rfl) T.m_int (by decide +kernel) (pa_cons (pe_op op_fdivW (pv 3) pe_int) pa_nil)) (pv 1)))))))))), ?_⟩
  have ne : dk ≠ gr := ne_of D.d D.g (by intro z; cases z)
  walk_at "go"
  refine iteB (fun h2 => ?_) (fun h2 => ?_)
  · walk_at "go"
    exact q 0 H (by omega) (.inr rfl) ⟨gs, mx, tn, D⟩ (Same.refl _)
  walk_at "go"
  refine l_dget D.d dk_great ?_
  walk_at "go"
  refine ⟨by decide, fun p np => ?_⟩
  have s1 : Same H (upd H p (.lst [])) := same_new np
  refine l_neNil (sq_l (s1 _ _ D.g)) (dps_ints gs) (num_ints gs) (by rw [depth_ints]; omega) upd_same ?_
  walk_at "go"
  have D1 : DeckAt (upd H p (.lst [])) dk gr gs mx tn := ⟨s1 _ _ D.d, s1 _ _ D.g, D.few, D.mx0, D.mx1⟩
  generalize upd H p (.lst []) = H1 at s1 D1
  refine iteBo (fun h3 => ?_) (fun h3 => ?_)
  · -- a great cell's digits
    obtain ⟨gi, g, rfl⟩ : ∃ gi g, gs = gi ++ [g] := by
      cases e : gs with
      | nil => rw [e] at h3; cases h3
      | cons x r => exact ⟨(x :: r).dropLast, (x :: r).getLast (List.cons_ne_nil _ _), (List.dropLast_concat_getLast _).symm⟩
    have hl := D1.few
    rw [List.length_append, List.length_singleton] at hl
    have hg := D1.g
    rw [List.map_append, List.map_singleton] at hg
    walk_at "go"
    refine l_dget D1.d dk_great ?_
    walk_at "go"
    refine l_tyL (sq_l hg) (l_pop hg ?_)
    walk_at "go"
    refine iteB (fun h4 => ?_) (fun h4 => ?_)
    · walk_at "go"
      refine l_dget (by rw [upd_ne ne]; exact D1.d) dk_great ?_
      walk_at "go"
      refine l_tyL (sq_l upd_same) ?_
      walk_at "go"
      refine l_I (wide_of (by omega) hm) ?_
      walk_at "go"
      refine l_app (xs := gi.map V.int) upd_same (sz1 (by rw [List.length_map]; omega)) ?_
      walk_at "go"
      refine .inl ⟨_, rfl, ?_⟩
      walk_at "go"
      refine l_I (show m ≠ 0 by omega) ?_
      walk_at "go"
      refine q _ _ (fm0 (by omega)) (.inl (fm1 (by omega))) ⟨gi ++ [g / m], mx, tn, ?_, ?_, ?_, D1.mx0, D1.mx1⟩ ?_
      · rw [upd_ne ne, upd_ne ne]; exact D1.d
      · rw [upd_same, List.map_append]; rfl
      · rw [List.length_append, List.length_singleton]; omega
      · rw [hid_up2 (by simp) (by simp)]; exact same_hid s1
    · walk_at "go"
      refine .inl ⟨_, rfl, ?_⟩
      walk_at "go"
      refine l_I (show m ≠ 0 by omega) ?_
      walk_at "go"
      refine q _ _ (fm0 (by omega)) (.inl (fm1 (by omega))) ⟨gi, mx, tn, ?_, ?_, by omega, D1.mx0, D1.mx1⟩ ?_
      · rw [upd_ne ne]; exact D1.d
      · rw [upd_same]
      · rw [hid_upd (by simp)]; exact same_hid s1
  · -- a mixed number
    walk_at "go"
    refine l_dget D1.d dk_turns ?_
    walk_at "go"
    refine l_dput D1.d (sz1 (show 3 < 1000000 by decide)) ?_
    walk_at "go"
    rw [dk_pturns]
    generalize eH : upd H1 dk (.dK (dkv gr mx (tn + 1))) = H2
    have D2 : DeckAt H2 dk gr gs mx (tn + 1) := by
      subst eH
      exact ⟨upd_same, by rw [upd_ne ne.symm]; exact D1.g, D1.few, D1.mx0, D1.mx1⟩
    have s2 : Same (hid [dk, gr] H) (hid [dk, gr] H2) := by
      subst eH
      rw [hid_upd (by simp)]; exact same_hid s1
    refine l_dget D2.d dk_mixed ?_
    walk_at "go"
    refine l_dget D2.d dk_turns ?_
    walk_at "go"
    refine l_I (.inl ⟨by decide, by decide⟩) ?_
    walk_at "go"
    refine .inl ⟨_, rfl, ?_⟩
    walk_at "go"
    refine l_I (by decide) ?_
    walk_at "go"
    generalize e3 : (mx + 2654435761 * (tn + 1)).fmod 4294967279 = x3
    have b3 : 0 ≤ x3 ∧ x3 < 4294967279 := by rw [← e3]; exact ⟨fm0 (by decide), fm1 (by decide)⟩
    refine l_I (.inl ⟨by omega, by omega⟩) ?_
    walk_at "go"
    refine l_dget D2.d dk_turns ?_
    walk_at "go"
    refine l_I (.inl ⟨by decide, by decide⟩) ?_
    walk_at "go"
    refine .inl ⟨_, rfl, ?_⟩
    walk_at "go"
    refine l_I (by decide) ?_
    walk_at "go"
    generalize e4 : (x3 * x3 + 40503 * (tn + 1) + 19).fmod 4294967231 = x4
    have b4 : 0 ≤ x4 ∧ x4 < 4294967231 := by rw [← e4]; exact ⟨fm0 (by decide), fm1 (by decide)⟩
    refine l_I (.inl ⟨by omega, by omega⟩) ?_
    walk_at "go"
    refine l_dget D2.d dk_mixed ?_
    walk_at "go"
    refine l_I (.inr ⟨by decide, by decide⟩) ?_
    walk_at "go"
    refine .inl ⟨_, rfl, ?_⟩
    walk_at "go"
    refine l_I (by decide) ?_
    walk_at "go"
    refine l_I ⟨by decide, by decide⟩ ?_
    walk_at "go"
    refine .inl ⟨_, rfl, ?_⟩
    walk_at "go"
    refine l_I (show m ≠ 0 by omega) ?_
    walk_at "go"
    exact q _ _ (fm0 (by omega)) (.inl (fm1 (by omega))) ⟨gs, mx, tn + 1, D2⟩ s2

end
end SC
namespace SC
open PySem PySem.Spec PyProof.Rows L2 StrLaws
local macro_rules | `(tactic| walk_at "go") => `(tactic| ((try dsimp only [cxOf, Cx.nox, Cx.wish]); repeat (first
  | (with_reducible refine g_seq ?_)
  | (with_reducible refine g_asg ?_)
  | (with_reducible refine g_asg2 ?_)
  | (with_reducible refine g_ret ?_)
  | (with_reducible refine g_drop ?_)
  | (with_reducible refine g_next ?_)
  | (with_reducible refine g_ifs ?_)
  | (with_reducible refine g_par ?_)
  | (with_reducible refine g_par3 ?_)
  | ((with_reducible refine' g_var ?hv ?_); (case hv => exact rfl))
  | (with_reducible refine g_c ?_)
  | ((with_reducible refine' g_aug ?hv ?_); (case hv => exact rfl))
  | (with_reducible refine l_ip ?_)
  | (with_reducible refine g_op ?_)
  | (with_reducible refine g_un ?_)
  | (with_reducible refine g_cons ?_)
  | (with_reducible refine g_nil ?_)
  | (with_reducible refine g_cb ?_)
  | (with_reducible refine g_call ?_)
  | (with_reducible refine g_callK ?_)
  | (with_reducible refine g_test ?_)
  | (with_reducible refine g_b ?_)
  | (with_reducible refine g_not ?_)
  | (with_reducible refine g_chain ?_)
  | (with_reducible refine g_notV ?_)
  | (with_reducible refine g_and ?_)
  | (with_reducible refine g_or ?_)
  | (with_reducible refine g_ifx ?_)
  | (with_reducible refine g_isN ?_)
  | (with_reducible refine g_notN ?_)
  | (with_reducible refine g_andV ?_)
  | (with_reducible refine g_bm ?_)
  | (with_reducible refine g_bm0 ?_)
  | (with_reducible refine g_sl ?_)
  | (with_reducible refine g_part ?_)
  | (with_reducible refine g_nopart ?_)
  | (with_reducible refine g_dget ?_)
  | (with_reducible refine g_dput ?_)
  | (with_reducible refine g_tup ?_)
  | (with_reducible refine g_lst ?_)
  | (with_reducible refine g_yes ?_)
  | (with_reducible refine g_name ?_)
  | (with_reducible refine g_gsub ?_)
  | (with_reducible refine g_iList ?_)
  | (with_reducible refine g_iTup ?_)
  | (with_reducible refine g_for ?_)
  | (with_reducible refine g_lc ?_)
  | (with_reducible refine g_rng1 ?_)
  | (with_reducible refine g_iZip ?_)
  | (with_reducible refine g_allT ?_)
  | (with_reducible refine g_iZipA ?_)
  | (with_reducible refine g_iZip3 ?_)
  | (with_reducible refine g_dcT ?_)
  | (with_reducible refine g_dc ?_)
  | (with_reducible refine g_iEnumT ?_)
  | (with_reducible refine g_lstRg ?_)
  | (with_reducible refine g_rg1 ?_)
  | (with_reducible refine g_gcons ?_)
  | (with_reducible refine g_gnil ?_)
  | (with_reducible refine l_bl ?_)
  | (with_reducible refine l_int ?_)
  | (with_reducible refine l_two ?_)
  | (with_reducible refine l_three ?_)
  | (with_reducible refine l_I0 ?_)
  | (with_reducible refine l_U ?_)
  | dsimp only)))
section
variable {P : Program} {w : World} {K : PySem.W.Frag} {mg : Str → Option Value} {base : Heap}
/-! ### _law_pick: one of some items -/
def spPick (K : PySem.W.Frag) : Sp := fun vs H Q _ => ∃ dk gr a xs, vs = [.ref dk, .ref a] ∧ Deck H dk gr ∧ SqL K (hid [dk, gr] H) a xs ∧ xs ≠ [] ∧ xs.length ≤ 1000000 ∧
  ∀ x H', x ∈ xs → Deck H' dk gr → Same (hid [dk, gr] H) (hid [dk, gr] H') → Q x H'
theorem at_nat {xs : List V} {v : Int} (h0 : 0 ≤ v) (h1 : v < (xs.length : Nat)) : ∃ x, atI xs v = some x ∧ x ∈ xs := by
  have hl : v.toNat < xs.length := by omega
  refine ⟨xs[v.toNat], ?_, List.getElem_mem hl⟩
  exact at_of (j := v.toNat) (by omega) (by simp [hl])
theorem ok_l_pick (T : Tx K mg) : FnOk P w K mg base CX0 2 T.f_l_pick T.fd_l_pick ["deck", "items"] (spPick K) := by
  refine T.F_l_pick.ok sc_l_pick (fun vs H Q E h => ?_) (fun cdv A outer s H vs Q E hr h => ?_)
  · obtain ⟨_, _, _, _, rfl, _⟩ := h
    rfl
  obtain ⟨dk, gr, a, xs, rfl, D, hx, hne, hz, q⟩ := h
  refine ⟨_, (pss_one (ps_ret (pe_ix ix_list (pv 1) (pe_call (ok_l_draw T) (hr.mono (by first | decide | omega)) (by rfl) T.g_l_draw T.F_l_draw.kp T.b_l_draw .nil pass0 (pa_cons (pv 0) (pa_cons (pe_callB call_len_seq (by rfl) T.m_len PySem.boot_len (pa_cons (pv 1) pa_nil)) pa_nil))) (fun _ _ => rfl)))), ?_⟩
  have hl : xs.length ≠ 0 := fun e => hne (List.eq_nil_of_length_eq_zero e)
  walk_at "go"
  refine ⟨_, _, rfl, .inl (hid_same.seq hx), ?_⟩
  walk_at "go"
  refine ⟨dk, gr, _, rfl, D, by omega, fun v H' h0 h1 D' s' => ?_⟩
  have hx' : SqL K H' a xs := hid_same.seq (s'.seq hx)
  obtain ⟨x, e, hm⟩ := at_nat (xs := xs) h0 (by omega)
  exact l_ixL hx' e (q x H' hm D' s')

end
end SC
namespace SC
open PySem PySem.Spec PyProof.Rows L2 StrLaws
local macro_rules | `(tactic| walk_at "go") => `(tactic| ((try dsimp only [cxOf, Cx.nox, Cx.wish]); repeat (first
  | (with_reducible refine g_seq ?_)
  | (with_reducible refine g_asg ?_)
  | (with_reducible refine g_asg2 ?_)
  | (with_reducible refine g_ret ?_)
  | (with_reducible refine g_drop ?_)
  | (with_reducible refine g_next ?_)
  | (with_reducible refine g_ifs ?_)
  | (with_reducible refine g_par ?_)
  | (with_reducible refine g_par3 ?_)
  | ((with_reducible refine' g_var ?hv ?_); (case hv => exact rfl))
  | (with_reducible refine g_c ?_)
  | ((with_reducible refine' g_aug ?hv ?_); (case hv => exact rfl))
  | (with_reducible refine l_ip ?_)
  | (with_reducible refine g_op ?_)
  | (with_reducible refine g_un ?_)
  | (with_reducible refine g_cons ?_)
  | (with_reducible refine g_nil ?_)
  | (with_reducible refine g_cb ?_)
  | (with_reducible refine g_call ?_)
  | (with_reducible refine g_callK ?_)
  | (with_reducible refine g_test ?_)
  | (with_reducible refine g_b ?_)
  | (with_reducible refine g_not ?_)
  | (with_reducible refine g_chain ?_)
  | (with_reducible refine g_notV ?_)
  | (with_reducible refine g_and ?_)
  | (with_reducible refine g_or ?_)
  | (with_reducible refine g_ifx ?_)
  | (with_reducible refine g_isN ?_)
  | (with_reducible refine g_notN ?_)
  | (with_reducible refine g_andV ?_)
  | (with_reducible refine g_bm ?_)
  | (with_reducible refine g_bm0 ?_)
  | (with_reducible refine g_sl ?_)
  | (with_reducible refine g_part ?_)
  | (with_reducible refine g_nopart ?_)
  | (with_reducible refine g_dget ?_)
  | (with_reducible refine g_dput ?_)
  | (with_reducible refine g_tup ?_)
  | (with_reducible refine g_lst ?_)
  | (with_reducible refine g_yes ?_)
  | (with_reducible refine g_name ?_)
  | (with_reducible refine g_gsub ?_)
  | (with_reducible refine g_iList ?_)
  | (with_reducible refine g_iTup ?_)
  | (with_reducible refine g_for ?_)
  | (with_reducible refine g_lc ?_)
  | (with_reducible refine g_rng1 ?_)
  | (with_reducible refine g_iZip ?_)
  | (with_reducible refine g_allT ?_)
  | (with_reducible refine g_iZipA ?_)
  | (with_reducible refine g_iZip3 ?_)
  | (with_reducible refine g_dcT ?_)
  | (with_reducible refine g_dc ?_)
  | (with_reducible refine g_iEnumT ?_)
  | (with_reducible refine g_lstRg ?_)
  | (with_reducible refine g_rg1 ?_)
  | (with_reducible refine g_gcons ?_)
  | (with_reducible refine g_gnil ?_)
  | (with_reducible refine l_bl ?_)
  | (with_reducible refine l_int ?_)
  | (with_reducible refine l_two ?_)
  | (with_reducible refine l_three ?_)
  | (with_reducible refine l_I0 ?_)
  | (with_reducible refine l_U ?_)
  | dsimp only)))
section
variable {P : Program} {w : World} {K : PySem.W.Frag} {mg : Str → Option Value} {base : Heap}
/-! ### _law_mixed: the items in a drawn order -/
def spMixed (K : PySem.W.Frag) : Sp := fun vs H Q _ => ∃ dk gr a xs, vs = [.ref dk, .ref a] ∧ Deck H dk gr ∧ SqL K (hid [dk, gr] H) a xs ∧ (∀ x ∈ xs, Nm K (hid [dk, gr] H) x) ∧ xs.length ≤ 1000 ∧
  ∀ ys p H', ys.Perm xs → H p = none → Deck H' dk gr → H' p = some (.lst ys) → Same (hid [dk, gr] H) (hid [dk, gr] H') → Q (.ref p) H'
theorem deck_mut {H : Hp} {dk gr p : Addr} {o : HO} (d : Deck H dk gr) (h1 : p ≠ dk) (h2 : p ≠ gr) : Deck (upd H p o) dk gr := by
  obtain ⟨gs, mx, tn, h⟩ := d
  exact ⟨gs, mx, tn, by rw [upd_ne h1.symm]; exact h.d, by rw [upd_ne h2.symm]; exact h.g, h.few, h.mx0, h.mx1⟩
theorem deck_ne {H : Hp} {dk gr p : Addr} (d : Deck H dk gr) (h : H p = none) : p ≠ dk ∧ p ≠ gr ∧ p ∉ [dk, gr] := by
  obtain ⟨gs, mx, tn, d⟩ := d
  have a := (ne_of_none d.d h).symm
  have b := (ne_of_none d.g h).symm
  exact ⟨a, b, by simp [a, b]⟩
theorem ok_l_mixed (T : Tx K mg) : FnOk P w K mg base CX0 2 T.f_l_mixed T.fd_l_mixed ["deck", "items"] (spMixed K) := by
  refine T.F_l_mixed.ok sc_l_mixed (fun vs H Q E h => ?_) (fun cdv A outer s H vs Q E hr h => ?_)
  · obtain ⟨_, _, _, _, rfl, _⟩ := h
    rfl
  obtain ⟨dk, gr, a, xs, rfl, D, hx, hn, hz, q⟩ := h
  refine ⟨_, (pss_cons (ps_par (i := 2) (j := 3) (by rfl) sc_l_mixed.nd rfl rfl (by decide) rfl rfl (pa_cons (pe_callTy call_list_of (by rfl) T.m_list (by decide +kernel) (pa_cons (pv 1) pa_nil)) (pa_cons (pe_lst pa_nil) pa_nil)) (by rfl))
      (pss_cons (ps_while PassesOwn.never (pt_cmpR (op_neD hr.units) (pv 2) (pe_lst pa_nil) (nomark _)) (pss_one (ps_expr (pe_bm PySem.F.plainAttrs_list PySem.F.slot_list_append PySem.F.type_list_append mt_append (pv 3) (pa_cons (pe_bm PySem.F.plainAttrs_list PySem.F.slot_list_pop PySem.F.type_list_pop mt_popAt (pv 2) (pa_cons (pe_call (ok_l_draw T) (hr.mono (by first | decide | omega)) (by rfl) T.g_l_draw T.F_l_draw.kp T.b_l_draw .nil pass0 (pa_cons (pv 0) (pa_cons (pe_callB call_len_seq (by rfl) T.m_len PySem.boot_len (pa_cons (pv 2) pa_nil)) pa_nil))) pa_nil)) pa_nil)))))
      (pss_one (ps_ret (pv 3))))), ?_⟩
  walk_at "go"
  refine ⟨a, xs, rfl, .inl (hid_same.seq hx), fun l nl => ?_⟩
  walk_at "go"
  refine ⟨Nat.zero_le _, fun f nf => ?_⟩
  walk_at "go"
  obtain ⟨l1, l2, l3⟩ := deck_ne D nl
  have s1 : Same H (upd H l (.lst xs)) := same_new nl
  have nf0 : H f = none := s1.free nf
  obtain ⟨f1, f2, f3⟩ := deck_ne D nf0
  have lf : l ≠ f := fun e => by rw [e, upd_same] at nf; cases nf
  refine ⟨fun m σ H' => ∃ ls fs, m = ls.length ∧ σ = [some (.ref dk), some (.ref a), some (.ref l), some (.ref f)] ∧ Deck H' dk gr ∧ H' l = some (.lst ls) ∧ H' f = some (.lst fs) ∧
      (ls ++ fs).Perm xs ∧ Same (hid [dk, gr] H) (hid [dk, gr] H'), ⟨xs.length, xs, [], rfl, rfl, ?_, ?_, upd_same, by simp, ?_⟩, ?_⟩
  · exact deck_new (deck_new D s1) (same_new nf)
  · rw [upd_ne lf, upd_same]
  · exact same_hid (s1.trans (same_new nf))
  rintro m σ H1 ⟨ls, fs, rfl, rfl, D1, e1, e2, hp, s⟩
  have mem : ∀ x ∈ ls, x ∈ xs := fun x hm => hp.mem_iff.mp (List.mem_append_left _ hm)
  have lenl : ls.length + fs.length = xs.length := by rw [← List.length_append]; exact hp.length_eq
  have nl1 : hid [dk, gr] H l = none := hid_none nl
  have nf1 : hid [dk, gr] H f = none := hid_none nf0
  walk_at "go"
  refine ⟨Nat.zero_le _, fun p np => ?_⟩
  have s2 : Same H1 (upd H1 p (.lst [])) := same_new np
  refine l_neN (sq_l (s2 _ _ e1)) (fun x hm => ((hn x (mem x hm)).same s).same (hid_same.trans s2)) upd_same ?_
  walk_at "go"
  have D2 := deck_new D1 s2
  have e12 := s2 _ _ e1
  have e22 := s2 _ _ e2
  have s3 := s.trans (same_hid (D := [dk, gr]) s2)
  generalize upd H1 p (.lst []) = H2 at D2 e12 e22 s3
  refine iteBo (fun h3 => ?_) (fun h3 => ?_)
  · refine ⟨_, fun σ' H' z => z, ?_⟩
    have hne : ls.length ≠ 0 := fun e => by rw [List.eq_nil_of_length_eq_zero e] at h3; cases h3
    walk_at "go"
    refine l_tyL (sq_l e22) ?_
    walk_at "go"
    refine l_tyL (sq_l e12) ?_
    walk_at "go"
    refine ⟨_, _, rfl, .inl (sq_l e12), ?_⟩
    walk_at "go"
    refine ⟨dk, gr, _, rfl, D2, by omega, fun v H3 h0 h1 D4 s4 => ?_⟩
    have g1 := (hid_get (s4 _ _ (hid_put l3 e12))).2
    have g2 := (hid_get (s4 _ _ (hid_put f3 e22))).2
    have hk : v.toNat < ls.length := by omega
    walk_at "go"
    refine l_popAt (k := v.toNat) g1 (by omega) (List.getElem?_eq_getElem hk) (by omega) ?_
    walk_at "go"
    refine l_app (xs := fs) (by rw [upd_ne lf.symm]; exact g2) (sz1 (by omega)) ?_
    walk_at "go"
    refine ⟨(ls.eraseIdx v.toNat).length, by have := erase_len hk; omega, _, _, rfl, rfl, ?_, ?_, upd_same, ?_, ?_⟩
    · exact deck_mut (deck_mut D4 l1 l2) f1 f2
    · rw [upd_ne lf, upd_same]
    · refine List.Perm.trans ?_ hp
      rw [← List.append_assoc]
      refine List.perm_append_comm.trans ?_
      rw [List.singleton_append, ← List.cons_append]
      exact (perm_erase (List.getElem?_eq_getElem hk)).append_right fs
    · exact hid_mut (hid_mut (s3.trans s4) nl1) nf1
  · have he : ls = [] := by
      cases ls with
      | nil => rfl
      | cons x r => cases h3
    subst he
    walk_at "go"
    exact q fs f H2 hp nf0 D2 e22 s3

end
end SC
namespace SC
open PySem PySem.Spec PyProof.Rows L2 StrLaws
local macro_rules | `(tactic| walk_at "go") => `(tactic| ((try dsimp only [cxOf, Cx.nox, Cx.wish]); repeat (first
  | (with_reducible refine g_seq ?_)
  | (with_reducible refine g_asg ?_)
  | (with_reducible refine g_asg2 ?_)
  | (with_reducible refine g_ret ?_)
  | (with_reducible refine g_drop ?_)
  | (with_reducible refine g_next ?_)
  | (with_reducible refine g_ifs ?_)
  | (with_reducible refine g_par ?_)
  | (with_reducible refine g_par3 ?_)
  | ((with_reducible refine' g_var ?hv ?_); (case hv => exact rfl))
  | (with_reducible refine g_c ?_)
  | ((with_reducible refine' g_aug ?hv ?_); (case hv => exact rfl))
  | (with_reducible refine l_ip ?_)
  | (with_reducible refine g_op ?_)
  | (with_reducible refine g_un ?_)
  | (with_reducible refine g_cons ?_)
  | (with_reducible refine g_nil ?_)
  | (with_reducible refine g_cb ?_)
  | (with_reducible refine g_call ?_)
  | (with_reducible refine g_callK ?_)
  | (with_reducible refine g_test ?_)
  | (with_reducible refine g_b ?_)
  | (with_reducible refine g_not ?_)
  | (with_reducible refine g_chain ?_)
  | (with_reducible refine g_notV ?_)
  | (with_reducible refine g_and ?_)
  | (with_reducible refine g_or ?_)
  | (with_reducible refine g_ifx ?_)
  | (with_reducible refine g_isN ?_)
  | (with_reducible refine g_notN ?_)
  | (with_reducible refine g_andV ?_)
  | (with_reducible refine g_bm ?_)
  | (with_reducible refine g_bm0 ?_)
  | (with_reducible refine g_sl ?_)
  | (with_reducible refine g_part ?_)
  | (with_reducible refine g_nopart ?_)
  | (with_reducible refine g_dget ?_)
  | (with_reducible refine g_dput ?_)
  | (with_reducible refine g_tup ?_)
  | (with_reducible refine g_lst ?_)
  | (with_reducible refine g_yes ?_)
  | (with_reducible refine g_name ?_)
  | (with_reducible refine g_gsub ?_)
  | (with_reducible refine g_iList ?_)
  | (with_reducible refine g_iTup ?_)
  | (with_reducible refine g_for ?_)
  | (with_reducible refine g_lc ?_)
  | (with_reducible refine g_rng1 ?_)
  | (with_reducible refine g_iZip ?_)
  | (with_reducible refine g_allT ?_)
  | (with_reducible refine g_iZipA ?_)
  | (with_reducible refine g_iZip3 ?_)
  | (with_reducible refine g_dcT ?_)
  | (with_reducible refine g_dc ?_)
  | (with_reducible refine g_iEnumT ?_)
  | (with_reducible refine g_lstRg ?_)
  | (with_reducible refine g_rg1 ?_)
  | (with_reducible refine g_gcons ?_)
  | (with_reducible refine g_gnil ?_)
  | (with_reducible refine l_bl ?_)
  | (with_reducible refine l_int ?_)
  | (with_reducible refine l_two ?_)
  | (with_reducible refine l_three ?_)
  | (with_reducible refine l_I0 ?_)
  | (with_reducible refine l_U ?_)
  | dsimp only)))
section
variable {P : Program} {w : World} {K : PySem.W.Frag} {mg : Str → Option Value} {base : Heap}
/-! ### _law_divisor_of -/
def spDiv : Sp := fun vs H Q _ => ∃ a b : Int, vs = [.int a, .int b] ∧ Q (.int (Nat.gcd a.natAbs b.natAbs : Nat)) H
theorem ok_l_divisor_of (T : Tx K mg) : FnOk P w K mg base CX0 1 T.f_l_divisor_of T.fd_l_divisor_of ["one", "other"] spDiv := by
  refine T.F_l_divisor_of.ok sc_l_divisor_of (fun vs H Q E h => ?_) (fun cdv A outer s H vs Q E hr h => ?_)
  · obtain ⟨_, _, rfl, _⟩ := h
    rfl
  obtain ⟨a, b, rfl, q⟩ := h
  refine ⟨_, (pss_cons (ps_par (i := 0) (j := 1) (by rfl) sc_l_divisor_of.nd rfl rfl (by decide) rfl rfl (pa_cons (pe_callB call_abs (by rfl) T.m_abs (by decide +kernel) (pa_cons (pv 0) pa_nil)) (pa_cons (pe_callB call_abs (by rfl) T.m_abs (by decide +kernel) (pa_cons (pv 1) pa_nil)) pa_nil)) (by rfl))
      (pss_cons (ps_while PassesOwn.never (pt_cmpR op_gt (pv 1) pe_int (nomark _)) (pss_one (ps_par (i := 0) (j := 1) (by rfl) sc_l_divisor_of.nd rfl rfl (by decide) rfl rfl (pa_cons (pv 1) (pa_cons (pe_op op_modN (pv 0) (pv 1)) pa_nil)) (by rfl))))
      (pss_one (ps_ret (pv 0))))), ?_⟩
  walk_at "go"
  refine ⟨_, rfl, ?_⟩
  walk_at "go"
  refine ⟨_, rfl, ?_⟩
  walk_at "go"
  rw [abs_ite, abs_ite]
  refine ⟨fun m σ H' => ∃ x y : Nat, y = m ∧ σ = [some (.int x), some (.int y)] ∧ Nat.gcd x y = Nat.gcd a.natAbs b.natAbs ∧ H' = H, ⟨b.natAbs, a.natAbs, b.natAbs, rfl, rfl, rfl, rfl⟩, ?_⟩
  rintro m σ H1 ⟨x, y, hy0, rfl, e, rfl⟩
  subst hy0
  walk_at "go"
  refine iteB (fun h3 => ?_) (fun h3 => ?_)
  · refine ⟨_, fun σ' H' z => z, ?_⟩
    walk_at "go"
    refine l_I (show (y : Int) ≠ 0 by omega) ?_
    walk_at "go"
    have hm : ((x : Int)).fmod (y : Int) = ((x % y : Nat) : Int) := by
      rw [Int.fmod_eq_emod_of_nonneg _ (by omega)]
      exact (Int.natCast_emod x y).symm
    rw [hm]
    have hy : 0 < y := by omega
    refine ⟨x % y, Nat.mod_lt _ hy, y, x % y, rfl, rfl, ?_, rfl⟩
    rw [← e, Nat.gcd_comm y, ← Nat.gcd_rec, Nat.gcd_comm]
  · have hy : y = 0 := by omega
    subst hy
    walk_at "go"
    rw [Nat.gcd_zero_right] at e
    rw [← e] at q
    exact q

end
end SC
namespace SC
open PySem PySem.Spec PyProof.Rows L2 StrLaws
local macro_rules | `(tactic| walk_at "go") => `(tactic| ((try dsimp only [cxOf, Cx.nox, Cx.wish]); repeat (first
  | (with_reducible refine g_seq ?_)
  | (with_reducible refine g_asg ?_)
  | (with_reducible refine g_asg2 ?_)
  | (with_reducible refine g_ret ?_)
  | (with_reducible refine g_drop ?_)
  | (with_reducible refine g_next ?_)
  | (with_reducible refine g_ifs ?_)
  | (with_reducible refine g_par ?_)
  | (with_reducible refine g_par3 ?_)
  | ((with_reducible refine' g_var ?hv ?_); (case hv => exact rfl))
  | (with_reducible refine g_c ?_)
  | ((with_reducible refine' g_aug ?hv ?_); (case hv => exact rfl))
  | (with_reducible refine l_ip ?_)
  | (with_reducible refine g_op ?_)
  | (with_reducible refine g_un ?_)
  | (with_reducible refine g_cons ?_)
  | (with_reducible refine g_nil ?_)
  | (with_reducible refine g_cb ?_)
  | (with_reducible refine g_call ?_)
  | (with_reducible refine g_callK ?_)
  | (with_reducible refine g_test ?_)
  | (with_reducible refine g_b ?_)
  | (with_reducible refine g_not ?_)
  | (with_reducible refine g_chain ?_)
  | (with_reducible refine g_notV ?_)
  | (with_reducible refine g_and ?_)
  | (with_reducible refine g_or ?_)
  | (with_reducible refine g_ifx ?_)
  | (with_reducible refine g_isN ?_)
  | (with_reducible refine g_notN ?_)
  | (with_reducible refine g_andV ?_)
  | (with_reducible refine g_bm ?_)
  | (with_reducible refine g_bm0 ?_)
  | (with_reducible refine g_sl ?_)
  | (with_reducible refine g_part ?_)
  | (with_reducible refine g_nopart ?_)
  | (with_reducible refine g_dget ?_)
  | (with_reducible refine g_dput ?_)
  | (with_reducible refine g_tup ?_)
  | (with_reducible refine g_lst ?_)
  | (with_reducible refine g_yes ?_)
  | (with_reducible refine g_name ?_)
  | (with_reducible refine g_gsub ?_)
  | (with_reducible refine g_iList ?_)
  | (with_reducible refine g_iTup ?_)
  | (with_reducible refine g_for ?_)
  | (with_reducible refine g_lc ?_)
  | (with_reducible refine g_rng1 ?_)
  | (with_reducible refine g_iZip ?_)
  | (with_reducible refine g_allT ?_)
  | (with_reducible refine g_iZipA ?_)
  | (with_reducible refine g_iZip3 ?_)
  | (with_reducible refine g_dcT ?_)
  | (with_reducible refine g_dc ?_)
  | (with_reducible refine g_iEnumT ?_)
  | (with_reducible refine g_lstRg ?_)
  | (with_reducible refine g_rg1 ?_)
  | (with_reducible refine g_gcons ?_)
  | (with_reducible refine g_gnil ?_)
  | (with_reducible refine l_bl ?_)
  | (with_reducible refine l_int ?_)
  | (with_reducible refine l_two ?_)
  | (with_reducible refine l_three ?_)
  | (with_reducible refine l_I0 ?_)
  | (with_reducible refine l_U ?_)
  | dsimp only)))
section
variable {P : Program} {w : World} {K : PySem.W.Frag} {mg : Str → Option Value} {base : Heap}
/-! ### _law_deck -/
def spDeck (K : PySem.W.Frag) : Sp := fun vs H Q _ => ∃ (a : Addr) (ns : List Int), vs = [.ref a] ∧ SqL K H a (ns.map V.int) ∧ ns.length ≤ 63 ∧
  ∀ dk gr H', H dk = none → H gr = none → Deck H' dk gr → Same H H' → Q (.ref dk) H'
theorem cut63 (xs : List V) (h : xs.length ≤ 63) : cutV xs none (some 63) = xs := by
  unfold cutV
  rw [HT.sIx_none, show HT.sIx xs.length xs.length (some 63) = min 63 xs.length from HT.sIx_nat xs.length xs.length 63, List.drop_zero]
  exact List.take_of_length_le (by omega)
theorem ok_l_deck (T : Tx K mg) : FnOk P w K mg base CX0 1 T.f_l_deck T.fd_l_deck ["script"] (spDeck K) := by
  refine T.F_l_deck.ok sc_l_deck (fun vs H Q E h => ?_) (fun cdv A outer s H vs Q E hr h => ?_)
  · obtain ⟨_, _, rfl, _⟩ := h
    rfl
  obtain ⟨a, ns, rfl, hx, hz, q⟩ := h
  refine ⟨_, (pss_cons (ps_set (i := 1) sc_l_deck.nd rfl (Or.inl rfl) (pe_disp (pps_cons pe_str (pe_lst pa_nil) (pps_cons pe_str (pe_op op_add pe_int (pe_callB call_len_seq (by rfl) T.m_len PySem.boot_len (pa_cons (pe_slice sl_list (pv 0) po_none (po_some pe_int)) pa_nil))) (pps_cons pe_str pe_int pps_nil))) (by rfl) (by rfl) (fun z => by cases z) (by decide)))
      (pss_cons (ps_for PassesOwn.never rfl (pi_list (pe_slice sl_list (pv 0) po_none (po_some pe_int))) (pg_name (i := 2) sc_l_deck.nd rfl (Or.inl rfl)) (pss_cons (ps_set (i := 3) sc_l_deck.nd rfl (Or.inl rfl) (pe_op op_add (pe_op op_mul pe_int (pe_callB call_abs (by rfl) T.m_abs (by decide +kernel) (pa_cons (pv 2) pa_nil))) (pe_callTy call_int1 (by rfl) T.m_int (by decide +kernel) (pa_cons (pe_cmpR op_lt (pv 2) pe_int (nomark _)) pa_nil))))
      (pss_cons (ps_if (pt_cmpR op_ge (pv 3) (pe_op op_pow pe_int pe_int) (nomark _)) (pss_one (ps_expr (pe_bm PySem.F.plainAttrs_list PySem.F.slot_list_append PySem.F.type_list_append mt_append (pe_dget (hu_of hr) (pv 1) pe_str (fun _ _ => rfl)) (pa_cons (pv 3) pa_nil)))) pss_nil)
      (pss_one (ps_dput (hu_of hr) (pv 1) pe_str (pe_op op_modN (pe_callTy call_int1 (by rfl) T.m_int (by decide +kernel) (pa_cons (pe_op op_add (pe_op op_add (pe_op op_mul (pe_dget (hu_of hr) (pv 1) pe_str (fun _ _ => rfl)) pe_int) (pv 3)) pe_int) pa_nil)) pe_int) rfl)))))
      (pss_one (ps_ret (pv 1))))), ?_⟩
  have hz' : (ns.map V.int).length ≤ 63 := by rw [List.length_map]; exact hz
  walk_at "go"
  intro dk ndk
  refine g_pc ?_
  walk_at "go"
  refine ⟨Nat.zero_le _, fun gr ngr => ?_⟩
  have s1 : Same H (upd H dk (.dK [])) := same_new ndk
  have ngr0 : H gr = none := s1.free ngr
  have ne : dk ≠ gr := fun e => by rw [e, upd_same] at ngr; cases ngr
  refine g_pc ?_
  walk_at "go"
  refine ⟨a, ns.map V.int, rfl, same_seq (s1.trans (same_new ngr)) hx, fun c nc => ?_⟩
  have s2 : Same (upd H dk (.dK [])) (upd (upd H dk (.dK [])) gr (.lst [])) := same_new ngr
  have s3 : Same (upd (upd H dk (.dK [])) gr (.lst [])) (upd (upd (upd H dk (.dK [])) gr (.lst [])) c (.lst (cutV (ns.map V.int) none (some 63)))) := same_new nc
  rw [cut63 _ hz'] at s3 ⊢
  walk_at "go"
  refine ⟨_, _, rfl, .inl (sq_l upd_same), ?_⟩
  walk_at "go"
  refine g_pc ?_
  walk_at "go"
  refine g_pn ?_
  have d1 : (upd (upd (upd H dk (.dK [])) gr (.lst [])) c (.lst (ns.map V.int))) dk = some (.dK []) := s3 _ _ (s2 _ _ upd_same)
  have g1 : (upd (upd (upd H dk (.dK [])) gr (.lst [])) c (.lst (ns.map V.int))) gr = some (.lst []) := s3 _ _ upd_same
  have st := s1.trans (s2.trans s3)
  generalize upd (upd (upd H dk (.dK [])) gr (.lst [])) c (.lst (ns.map V.int)) = H1 at d1 g1 st
  refine ⟨d1, dkv gr (977 + ((ns.map V.int).length : Nat)) 0, rfl, by show 3 ≤ 15; decide, ?_⟩
  have em : mergeK [] (dkv gr (977 + ((ns.map V.int).length : Nat)) 0) = dkv gr (977 + ((ns.map V.int).length : Nat)) 0 := rfl
  rw [em]
  walk_at "go"
  have s4 : Same H (upd H1 dk (.dK (dkv gr (977 + ((ns.map V.int).length : Nat)) 0))) := same_mut st ndk
  refine ⟨a, ns.map V.int, rfl, same_seq s4 hx, fun c2 nc2 => ?_⟩
  have nc20 : H c2 = none := s4.free nc2
  rw [cut63 _ hz']
  refine ⟨c2, rfl, ⟨_, sq_l upd_same⟩, ?_⟩
  have cdk : dk ≠ c2 := fun e => by rw [← e, upd_same] at nc2; cases nc2
  have cgr : gr ≠ c2 := fun e => by rw [← e, upd_ne ne.symm, g1] at nc2; cases nc2
  refine for_L (xs := ns.map V.int) (fun i σ H' => ∃ y2 y3 gs mx, σ = [some (.ref a), some (.ref dk), y2, y3] ∧ DeckAt H' dk gr gs mx 0 ∧ gs.length ≤ i ∧ Same H H' ∧ H' c2 = some (.lst (ns.map V.int)))
    ⟨none, none, [], 977 + ((ns.map V.int).length : Nat), rfl, ⟨?_, ?_, by simp, by omega, by omega⟩, by simp, s4.trans (same_new nc2), upd_same⟩ ?_ ?_ ?_
  · rw [upd_ne cdk, upd_same]
  · rw [upd_ne cgr, upd_ne ne.symm]; exact g1
  · rintro i σ H' _ ⟨y2, y3, gs, mx, rfl, D, hg, sm, e⟩
    exact sq_l e
  · rintro i x σ H' hi ⟨y2, y3, gs, mx, rfl, D, hg, sm, e⟩
    have hlt : i < ns.length := by have := (List.getElem?_eq_some_iff.mp hi).1; rwa [List.length_map] at this
    have ex : x = .int ns[i] := by
      rw [List.getElem?_map, List.getElem?_eq_getElem hlt] at hi
      exact (Option.some.inj hi).symm
    subst ex
    walk_at "go"
    refine ⟨_, rfl, ?_⟩
    walk_at "go"
    refine l_I (.inl ⟨by decide, by decide⟩) ?_
    walk_at "go"
    refine .inr ⟨_, rfl, ?_⟩
    walk_at "go"
    rw [abs_ite]
    have hw : 0 ≤ 2 * (ns[i].natAbs : Int) + (if decide (ns[i] < 0) = true then 1 else 0) := by split <;> omega
    generalize 2 * (ns[i].natAbs : Int) + (if decide (ns[i] < 0) = true then 1 else 0) = wh at hw ⊢
    refine l_I ⟨by decide, by decide, by decide⟩ ?_
    walk_at "go"
    -- the rest of the turn, from any deck
    have tail : ∀ (gs' : List Int) (H2 : Hp), DeckAt H2 dk gr gs' mx 0 → gs'.length ≤ i + 1 → Same H H2 → H2 c2 = some (.lst (ns.map V.int)) → ∀ (mx' : Int), 0 ≤ mx' → mx' < 4294967291 →
        DeckAt (upd H2 dk (.dK (dkv gr mx' 0))) dk gr gs' mx' 0 ∧ Same H (upd H2 dk (.dK (dkv gr mx' 0))) ∧ (upd H2 dk (.dK (dkv gr mx' 0))) c2 = some (.lst (ns.map V.int)) := fun gs' H2 D2 _ sm2 e2 mx' m0 m1 =>
      ⟨⟨upd_same, by rw [upd_ne ne.symm]; exact D2.g, D2.few, m0, m1⟩, same_mut sm2 ndk, by rw [upd_ne cdk.symm]; exact e2⟩
    refine iteB (fun h3 => ?_) (fun h3 => ?_)
    · walk_at "go"
      refine l_dget D.d dk_great ?_
      walk_at "go"
      refine l_tyL (sq_l D.g) ?_
      walk_at "go"
      refine l_app D.g (sz1 (by rw [List.length_map]; have := D.few; omega)) ?_
      walk_at "go"
      have D2 : DeckAt (upd H' gr (.lst (gs.map V.int ++ [.int wh]))) dk gr (gs ++ [wh]) mx 0 :=
        ⟨by rw [upd_ne ne]; exact D.d, by rw [upd_same, List.map_append]; rfl, by rw [List.length_append, List.length_singleton]; omega, D.mx0, D.mx1⟩
      refine l_dget D2.d dk_mixed ?_
      walk_at "go"
      refine l_I (.inr ⟨by decide, by decide⟩) ?_
      walk_at "go"
      refine .inl ⟨_, rfl, ?_⟩
      walk_at "go"
      refine l_I (by decide) ?_
      walk_at "go"
      refine l_dput D2.d (sz1 (show 3 < 1000000 by decide)) ?_
      walk_at "go"
      rw [dk_pmixed]
      obtain ⟨t1, t2, t3⟩ := tail _ _ D2 (by rw [List.length_append, List.length_singleton]; omega) (same_mut sm ngr0) (by rw [upd_ne cgr.symm]; exact e) ((mx * 75161 + wh + 11).fmod 4294967291) (fm0 (by decide)) (fm1 (by decide))
      exact ⟨_, _, _, _, rfl, t1, by rw [List.length_append, List.length_singleton]; omega, t2, t3⟩
    · walk_at "go"
      refine l_dget D.d dk_mixed ?_
      walk_at "go"
      refine l_I (.inr ⟨by decide, by decide⟩) ?_
      walk_at "go"
      refine .inl ⟨_, rfl, ?_⟩
      walk_at "go"
      refine l_I (by decide) ?_
      walk_at "go"
      refine l_dput D.d (sz1 (show 3 < 1000000 by decide)) ?_
      walk_at "go"
      rw [dk_pmixed]
      obtain ⟨t1, t2, t3⟩ := tail _ _ D (by omega) sm e ((mx * 75161 + wh + 11).fmod 4294967291) (fm0 (by decide)) (fm1 (by decide))
      exact ⟨_, _, _, _, rfl, t1, by omega, t2, t3⟩
  · rintro σ H' ⟨y2, y3, gs, mx, rfl, D, hg, sm, e⟩
    walk_at "go"
    exact q dk gr H' ndk ngr0 ⟨gs, mx, 0, D⟩ sm

end
end SC
namespace SC
open PySem PySem.Spec PyProof.Rows L2 StrLaws
local macro_rules | `(tactic| walk_at "go") => `(tactic| ((try dsimp only [cxOf, Cx.nox, Cx.wish]); repeat (first
  | (with_reducible refine g_seq ?_)
  | (with_reducible refine g_asg ?_)
  | (with_reducible refine g_asg2 ?_)
  | (with_reducible refine g_ret ?_)
  | (with_reducible refine g_drop ?_)
  | (with_reducible refine g_next ?_)
  | (with_reducible refine g_ifs ?_)
  | (with_reducible refine g_par ?_)
  | (with_reducible refine g_par3 ?_)
  | ((with_reducible refine' g_var ?hv ?_); (case hv => exact rfl))
  | (with_reducible refine g_c ?_)
  | ((with_reducible refine' g_aug ?hv ?_); (case hv => exact rfl))
  | (with_reducible refine l_ip ?_)
  | (with_reducible refine g_op ?_)
  | (with_reducible refine g_un ?_)
  | (with_reducible refine g_cons ?_)
  | (with_reducible refine g_nil ?_)
  | (with_reducible refine g_cb ?_)
  | (with_reducible refine g_call ?_)
  | (with_reducible refine g_callK ?_)
  | (with_reducible refine g_test ?_)
  | (with_reducible refine g_b ?_)
  | (with_reducible refine g_not ?_)
  | (with_reducible refine g_chain ?_)
  | (with_reducible refine g_notV ?_)
  | (with_reducible refine g_and ?_)
  | (with_reducible refine g_or ?_)
  | (with_reducible refine g_ifx ?_)
  | (with_reducible refine g_isN ?_)
  | (with_reducible refine g_notN ?_)
  | (with_reducible refine g_andV ?_)
  | (with_reducible refine g_bm ?_)
  | (with_reducible refine g_bm0 ?_)
  | (with_reducible refine g_sl ?_)
  | (with_reducible refine g_part ?_)
  | (with_reducible refine g_nopart ?_)
  | (with_reducible refine g_dget ?_)
  | (with_reducible refine g_dput ?_)
  | (with_reducible refine g_tup ?_)
  | (with_reducible refine g_lst ?_)
  | (with_reducible refine g_yes ?_)
  | (with_reducible refine g_name ?_)
  | (with_reducible refine g_gsub ?_)
  | (with_reducible refine g_iList ?_)
  | (with_reducible refine g_iTup ?_)
  | (with_reducible refine g_for ?_)
  | (with_reducible refine g_lc ?_)
  | (with_reducible refine g_rng1 ?_)
  | (with_reducible refine g_iZip ?_)
  | (with_reducible refine g_allT ?_)
  | (with_reducible refine g_iZipA ?_)
  | (with_reducible refine g_iZip3 ?_)
  | (with_reducible refine g_dcT ?_)
  | (with_reducible refine g_dc ?_)
  | (with_reducible refine g_iEnumT ?_)
  | (with_reducible refine g_lstRg ?_)
  | (with_reducible refine g_rg1 ?_)
  | (with_reducible refine g_gcons ?_)
  | (with_reducible refine g_gnil ?_)
  | (with_reducible refine l_bl ?_)
  | (with_reducible refine l_int ?_)
  | (with_reducible refine l_two ?_)
  | (with_reducible refine l_three ?_)
  | (with_reducible refine l_I0 ?_)
  | (with_reducible refine l_U ?_)
  | dsimp only)))
section
variable {P : Program} {w : World} {K : PySem.W.Frag} {mg : Str → Option Value} {base : Heap}
/-! ### _law_shape -/
/-- a drawn shape -/
structure ShOk (t : Th) (many deep wide : Int) : Prop where
  full : t.full = true
  st : (t.nSt : Int) ≤ many
  dep : (t.dep : Int) ≤ deep
  inp : (t.nIn : Int) ≤ wide * t.nSt
def spShape (K : PySem.W.Frag) (n : Nat) : Sp := fun vs H Q _ => ∃ dk gr many deep wide, vs = [.ref dk, .int many, .int deep, .int wide] ∧ Deck H dk gr ∧ 1 ≤ many ∧ many ≤ 100 ∧ 1 ≤ deep ∧ deep ≤ n ∧ deep ≤ 30 ∧ 1 ≤ wide ∧ wide ≤ 100 ∧
  ∀ (L : List (V × Th)) p H', ShOk (stOf L) many deep wide → H p = none → Deck H' dk gr → Same (hid [dk, gr] H) (hid [dk, gr] H') → H' p = some (.lst (L.map (·.1))) → (∀ q ∈ L, Dp K (fresh H H') q.1 q.2.shD) → Q (.ref p) H'
theorem deck_new' {H : Hp} {dk gr p : Addr} {o : HO} (d : Deck H dk gr) (h : H p = none) : Deck (upd H p o) dk gr := deck_new d (same_new h)
theorem ok_l_shape (T : Tx K mg) : ∀ n : Nat, FnOk P w K mg base CX0 (3 + n) T.f_l_shape T.fd_l_shape ["deck", "many", "deep", "wide"] (spShape K n)
  | 0 => by
    refine (T.F_l_shape.ok (k := 2) sc_l_shape (fun vs H Q E h => ?_) (fun cdv A outer s H vs Q E hr h => ?_)).mono (by omega)
    · obtain ⟨_, _, _, _, _, rfl, _⟩ := h
      rfl
    · obtain ⟨_, _, _, _, _, rfl, _, _, _, h1, h2, _⟩ := h
      exact absurd h2 (by omega)
  | n + 1 => by
    have ih := ok_l_shape T n
    refine (T.F_l_shape.ok (k := 3 + n) sc_l_shape (fun vs H Q E h => ?_) (fun cdv A outer s H vs Q E hr h => ?_)).mono (by omega)
    · obtain ⟨_, _, _, _, _, rfl, _⟩ := h
      rfl
    obtain ⟨dk, gr, many, deep, wide, rfl, D, hm1, hm2, hd1, hd2, hd3, hw1, hw2, q⟩ := h
    refine ⟨_, (pss_cons (ps_par (i := 4) (j := 5) (by rfl) sc_l_shape.nd rfl rfl (by decide) rfl rfl (pa_cons (pe_lst pa_nil) (pa_cons (pe_op op_sub (pv 1) pe_int) pa_nil)) (by rfl))
      (Evl.pss_cut (ps_while PassesOwn.never (PW.pt (pw_and (pt_cmpR op_gt (pv 5) pe_int (nomark _)) (pw_and1 (pt_cmpR op_gt (pv 2) pe_int (nomark _))))) (pss_cons (ps_set (i := 6) sc_l_shape.nd rfl (Or.inl rfl) (pe_op op_add pe_int (pe_call (ok_l_draw T) (hr.mono (by first | decide | omega)) (by rfl) T.g_l_draw T.F_l_draw.kp T.b_l_draw .nil pass0 (pa_cons (pv 0) (pa_cons (pv 5) pa_nil)))))
      (pss_cons (ps_expr (pe_bm PySem.F.plainAttrs_list PySem.F.slot_list_append PySem.F.type_list_append mt_append (pv 4) (pa_cons (pe_call ih (hr.mono (by omega)) (by rfl) T.g_l_shape T.F_l_shape.kp T.b_l_shape .nil pass0 (pa_cons (pv 0) (pa_cons (pv 6) (pa_cons (pe_op op_sub (pv 2) pe_int) (pa_cons (pv 3) pa_nil))))) pa_nil)))
      (pss_one (ps_set (i := 5) sc_l_shape.nd rfl (Or.inl rfl) (pe_op op_sub (pv 5) (pv 6)))))))
      (Evl.pss_cut (ps_set (i := 7) sc_l_shape.nd rfl (Or.inl rfl) (pe_ifExp (pt_cmpR (op_neD hr.units) (pv 4) (pe_lst pa_nil) (nomark _)) (pe_call (ok_l_draw T) (hr.mono (by first | decide | omega)) (by rfl) T.g_l_draw T.F_l_draw.kp T.b_l_draw .nil pass0 (pa_cons (pv 0) (pa_cons (pe_op op_add (pv 3) pe_int) pa_nil))) (pe_op op_add pe_int (pe_call (ok_l_draw T) (hr.mono (by first | decide | omega)) (by rfl) T.g_l_draw T.F_l_draw.kp T.b_l_draw .nil pass0 (pa_cons (pv 0) (pa_cons (pv 3) pa_nil))))))
      (pss_one (ps_ret (pe_call (ok_l_mixed T) (hr.mono (by first | decide | omega)) (by rfl) T.g_l_mixed T.F_l_mixed.kp T.b_l_mixed .nil pass0 (pa_cons (pv 0) (pa_cons (pe_op op_cat (pv 4) (pe_op op_rep (pe_lst (pa_cons pe_non pa_nil)) (pv 7))) pa_nil)))))))), ?_⟩
    walk_at "go"
    refine ⟨Nat.zero_le _, fun pl npl => ?_⟩
    walk_at "go"
    obtain ⟨p1, p2, p3⟩ := deck_ne D npl
    -- what may change: what stood, and the list of the parts
    generalize eS : (fun a => (H a).isSome || decide (a = pl)) = S
    have Sdk : S dk = true := by subst eS; simp [deck_some D dk (by simp)]
    have Sgr : S gr = true := by subst eS; simp [deck_some D gr (by simp)]
    have SD : ∀ d ∈ [dk, gr], S d = true := fun d hd => by
      rcases List.mem_cons.mp hd with e | e
      · rw [e]; exact Sdk
      · rw [List.mem_singleton.mp e]; exact Sgr
    have Spl : S pl = true := by subst eS; simp
    have Sof : ∀ {H1 : Hp}, Same (hid [dk, gr] H) (hid [dk, gr] H1) → Deck H1 dk gr → (H1 pl).isSome = true → ∀ a, (H1 a).isSome = false → S a = false := fun {H1} s D1 hpl a ha => by
      subst eS
      simp only [Bool.or_eq_false_iff, decide_eq_false_iff_not]
      refine ⟨?_, fun e => ?_⟩
      · cases e : (H a).isSome with
        | false => rfl
        | true => rw [stay s (deck_some D1) e] at ha; cases ha
      · rw [e, hpl] at ha; cases ha
    generalize eW : (fun (m : Nat) (σ : L2.St) (H' : Hp) => ∃ (L : List (V × Th)) (left : Int) (y6 : Option V), m = left.toNat ∧ σ = [some (.ref dk), some (.int many), some (.int deep), some (.int wide), some (.ref pl), some (.int left), y6, none] ∧
        0 ≤ left ∧ (stS L : Int) + left ≤ many - 1 ∧ (inS L : Int) ≤ wide * stS L ∧ L.length ≤ stS L ∧
        (∀ p ∈ L, p.2.full = true ∧ (p.2.dep : Int) ≤ deep - 1) ∧ Deck H' dk gr ∧ H' pl = some (.lst (L.map (·.1))) ∧ (∀ p ∈ L, Dp K (hidP S H') p.1 p.2.shD) ∧ Same (hid [dk, gr] H) (hid [dk, gr] H')) = W
    refine g_cut (fun σ H' => ∃ m, W m σ H') (g_while W (many - 1).toNat ?_ ?_) ?_
    · subst eW
      refine ⟨[], many - 1, none, rfl, rfl, by omega, ?_, ?_, Nat.zero_le _, fun _ hp => (by cases hp), deck_new' D npl, upd_same, fun _ hp => (by cases hp), same_hid (same_new npl)⟩
      · show ((0 : Nat) : Int) + (many - 1) ≤ many - 1; omega
      · show ((0 : Nat) : Int) ≤ wide * ((0 : Nat) : Int); omega
    · rintro m σ H1 w1
      have w1' := w1
      subst eW
      obtain ⟨L, left, y6, rfl, rfl, hl0, hst, hin, hln, hall, D1, ePl, hdp, s⟩ := w1
      walk_at "go"
      refine iteB (fun h1 => ?_) (fun h1 => ?_)
      · walk_at "go"
        refine iteB (fun h2 => ?_) (fun h2 => ?_)
        · -- one more stage within
          refine ⟨_, fun σ' H' z => z, ?_⟩
          walk_at "go"
          refine ⟨dk, gr, left, rfl, D1, by omega, fun v H2 v0 v1 D2 s2 => ?_⟩
          walk_at "go"
          have e2 := (hid_get (s2 _ _ (hid_put p3 ePl))).2
          refine l_tyL (sq_l e2) ?_
          walk_at "go"
          refine ⟨dk, gr, 1 + v, deep - 1, wide, rfl, D2, by omega, by omega, by omega, by omega, by omega, hw1, hw2, fun L' p' H3 ok np D3 s3 ep hdp' => ?_⟩
          walk_at "go"
          have e3 := (hid_get (s3 _ _ (hid_put p3 e2))).2
          have sP : Same (hidP S H1) (hidP S H3) := hidP_of SD (s2.trans s3)
          refine l_app e3 (sz1 (by rw [List.length_map]; omega)) ?_
          walk_at "go"
          have fr : ∀ a, (H2 a).isSome = false → S a = false := Sof (s.trans s2) D2 (some_of e2)
          have np2 : p' ≠ pl := fun e => by rw [e, e2] at np; cases np
          have sN : Same (fresh H2 H3) (hidP S H3) := hidP_more (Same.refl _) fr
          have frp : S p' = false := fr p' (by rw [np]; rfl)
          refine ⟨(left - (1 + v)).toNat, by omega, L ++ [(.ref p', stOf L')], left - (1 + v), some (.int (1 + v)), rfl, rfl, by omega, ?_, ?_, ?_, ?_, ?_, ?_, ?_, ?_⟩
          · have := ok.st
            rw [stS_app, stS_one]
            show ((stS L + (stOf L').nSt : Nat) : Int) + _ ≤ _
            omega
          · have := ok.inp
            rw [stS_app, inS_app, stS_one, inS_one, Int.natCast_add, Int.natCast_add, Int.mul_add]
            exact Int.add_le_add hin this
          · rw [stS_app, stS_one, List.length_append, List.length_singleton]
            show _ ≤ stS L + (stOf L').nSt
            rw [stOf_st]
            omega
          · intro z hz
            rcases List.mem_append.mp hz with hz | hz
            · exact hall z hz
            · rw [List.mem_singleton.mp hz]
              exact ⟨ok.full, ok.dep⟩
          · exact deck_mut D3 p1 p2
          · rw [upd_same, List.map_append]; rfl
          · intro z hz
            have keep : Same (hidP S H3) (hidP S (upd H3 pl (.lst (L.map (·.1) ++ [.ref p'])))) := hidP_mut (Same.refl _) (hidP_in Spl)
            rcases List.mem_append.mp hz with hz | hz
            · exact dp_same keep (dp_same sP (hdp z hz))
            · rw [List.mem_singleton.mp hz]
              refine dp_same keep ?_
              show Dp K _ _ (stOf L').shD
              rw [stOf_sh]
              refine .lst (xs := L'.map (·.1)) (sq_l (by rw [hidP_out frp]; exact ep)) (dps_map (f := fun z : V × Th => z.1) fun z hz => dp_same sN (hdp' z hz))
          · exact hid_mut ((s.trans s2).trans s3) (hid_none npl)
        · walk_at "go"
          exact ⟨_, w1'⟩
      · walk_at "go"
        exact ⟨_, w1'⟩
    · rintro σ H1 ⟨m, w1⟩
      subst eW
      obtain ⟨L, left, y6, rfl, rfl, hl0, hst, hin, hln, hall, D1, ePl, hdp, s⟩ := w1
      have nl1 : hid [dk, gr] H pl = none := hid_none npl
      have lenm : L.length ≤ 100 := by omega
      have hnm : ∀ (H2 : Hp), Same (hidP S H1) (hidP S H2) → ∀ p ∈ L, Nm K (hid [dk, gr] H2) p.1 := fun H2 sm p hp =>
        ⟨p.2.shD, dp_same (hidP_hid SD) (dp_same sm (hdp p hp)), sh_num _, Nat.le_trans (sh_depth _) (by have := (hall p hp).2; omega)⟩
      refine g_cut (fun σ H' => ∃ k : Int, σ = [some (.ref dk), some (.int many), some (.int deep), some (.int wide), some (.ref pl), some (.int left), y6, some (.int k)] ∧ 0 ≤ k ∧ k ≤ wide ∧ (L = [] → 1 ≤ k) ∧
          Deck H' dk gr ∧ H' pl = some (.lst (L.map (·.1))) ∧ Same (hid [dk, gr] H1) (hid [dk, gr] H')) ?_ ?_
      · walk_at "go"
        refine ⟨Nat.zero_le _, fun p np => ?_⟩
        have s2 : Same H1 (upd H1 p (.lst [])) := same_new np
        have hN : ∀ x ∈ L.map (·.1), Nm K (upd H1 p (.lst [])) x := fun x hm => by
          obtain ⟨z, hz, rfl⟩ := List.mem_map.mp hm
          exact (hnm _ (hidP_of SD (same_hid s2)) z hz).same hid_same
        refine l_neN (sq_l (s2 _ _ ePl)) hN upd_same ?_
        walk_at "go"
        refine iteBo (fun h3 => ?_) (fun h3 => ?_)
        · walk_at "go"
          refine ⟨dk, gr, _, rfl, deck_new D1 s2, by omega, fun v H2 v0 v1 D2 s3 => ?_⟩
          walk_at "go"
          refine ⟨v, rfl, v0, by omega, fun e => ?_, D2, (hid_get (s3 _ _ (hid_put p3 (s2 _ _ ePl)))).2, (same_hid s2).trans s3⟩
          rw [e] at h3; cases h3
        · walk_at "go"
          refine ⟨dk, gr, _, rfl, deck_new D1 s2, by omega, fun v H2 v0 v1 D2 s3 => ?_⟩
          walk_at "go"
          exact ⟨1 + v, rfl, by omega, by omega, fun e => by omega, D2, (hid_get (s3 _ _ (hid_put p3 (s2 _ _ ePl)))).2, (same_hid s2).trans s3⟩
      · rintro σ H2 ⟨k, rfl, k0, k1, kne, D2, e2, s2⟩
        walk_at "go"
        refine ⟨by show 1 ≤ sizeLine; exact sz (by omega), fun n1 h1 => ?_⟩
        walk_at "go"
        refine ⟨n1, k, [.non], rfl, rfl, upd_same, by omega, by omega, sz (by simp; omega), fun n2 h2 => ?_⟩
        have t1 : Same H2 (upd H2 n1 (.lst [.non])) := same_new h1
        have t2 : Same (upd H2 n1 (.lst [.non])) (upd (upd H2 n1 (.lst [.non])) n2 (.lst (List.replicate k.toNat [V.non]).flatten)) := same_new h2
        refine ⟨pl, n2, L.map (·.1), _, rfl, rfl, t2 _ _ (t1 _ _ e2), upd_same, sz (by rw [flat_rep, List.length_replicate, List.length_map]; omega), fun n3 h3 => ?_⟩
        walk_at "go"
        rw [flat_rep] at h3 t2 ⊢
        have t3 := same_new (o := .lst (L.map (·.1) ++ List.replicate k.toNat V.non)) h3
        have tt := t1.trans (t2.trans t3)
        have h30 : H2 n3 = none := (t1.trans t2).free h3
        generalize eH : upd (upd (upd H2 n1 (.lst [.non])) n2 (.lst (List.replicate k.toNat V.non))) n3 (.lst (L.map (·.1) ++ List.replicate k.toNat V.non)) = H3 at t3 tt ⊢
        have e3 : H3 n3 = some (.lst (L.map (·.1) ++ List.replicate k.toNat V.non)) := by rw [← eH]; exact upd_same
        obtain ⟨m1, m2, m3⟩ := deck_ne D2 h30
        have sP : Same (hidP S H1) (hidP S H3) := hidP_of SD (s2.trans (same_hid tt))
        have eL : L.map (·.1) ++ List.replicate k.toNat V.non = (L ++ List.replicate k.toNat (V.non, Th.inp 0)).map (·.1) := by rw [List.map_append, List.map_replicate]
        refine ⟨dk, gr, n3, _, rfl, deck_new D2 tt, sq_l (hid_put m3 e3), fun x hx => ?_, by rw [List.length_append, List.length_map, List.length_replicate]; omega, fun ys p H4 hp np D4 e4 s4 => ?_⟩
        · rcases List.mem_append.mp hx with hx | hx
          · obtain ⟨z, hz, rfl⟩ := List.mem_map.mp hx
            exact hnm _ sP z hz
          · rw [List.eq_of_mem_replicate hx]; exact nm_non
        rw [eL] at hp
        obtain ⟨L', hL, rfl⟩ := perm_map hp
        have stay2 : Same (hid [dk, gr] H) (hid [dk, gr] H4) := (s.trans (s2.trans (same_hid tt))).trans s4
        have np0 : H p = none := by
          cases e : H p with
          | none => rfl
          | some o =>
            have z := stay ((s.trans (s2.trans (same_hid tt)))) (deck_some (deck_new D2 tt)) (some_of e)
            rw [np] at z; cases z
        have mem : ∀ z ∈ L', z ∈ L ∨ z = (V.non, Th.inp 0) := fun z hz => by
          rcases List.mem_append.mp (hL.mem_iff.mp hz) with h | h
          · exact .inl h
          · exact .inr (List.eq_of_mem_replicate h)
        refine q L' p H4 ⟨stOf_full (fun e => ?_) (fun z hz => ?_), ?_, ?_, ?_⟩ np0 D4 stay2 e4 (fun z hz => ?_)
        · rw [e] at hL
          have hl := hL.length_eq
          rw [List.length_append, List.length_replicate, List.length_nil] at hl
          have := kne (List.eq_nil_of_length_eq_zero (by omega))
          omega
        · rcases mem z hz with h | h
          · exact (hall z h).1
          · rw [h]; simp only [Th.full]
        · rw [stOf_st, stS_perm hL, stS_app, stS_rep]
          omega
        · have := stOf_dep (L := L') (n := (deep - 1).toNat) fun z hz => by
            rcases mem z hz with h | h
            · have := (hall z h).2; omega
            · rw [h]; simp only [Th.dep]; omega
          omega
        · rw [stOf_st, stOf_in, stS_perm hL, inS_perm hL, stS_app, stS_rep, inS_app, inS_rep]
          have e5 : wide * ((stS L + 0 + 1 : Nat) : Int) = wide * (stS L : Int) + wide := by
            rw [Nat.add_zero, Int.natCast_add, Int.mul_add]; simp
          rw [e5]
          omega
        · rcases mem z hz with h | h
          · refine dp_same ?_ (dp_same (sP.trans (hidP_of SD s4)) (hdp z h))
            exact hidP_more (Same.refl _) fun a ha => by
              subst eS
              simp only [Bool.or_eq_false_iff] at ha
              exact ha.1
          · rw [h]; simp only [Th.shD]; exact .non

end
end SC
namespace SC
open PySem PySem.Spec PyProof.Rows L2 StrLaws
local macro_rules | `(tactic| walk_at "go") => `(tactic| ((try dsimp only [cxOf, Cx.nox, Cx.wish]); repeat (first
  | (with_reducible refine g_seq ?_)
  | (with_reducible refine g_asg ?_)
  | (with_reducible refine g_asg2 ?_)
  | (with_reducible refine g_ret ?_)
  | (with_reducible refine g_drop ?_)
  | (with_reducible refine g_next ?_)
  | (with_reducible refine g_ifs ?_)
  | (with_reducible refine g_par ?_)
  | (with_reducible refine g_par3 ?_)
  | ((with_reducible refine' g_var ?hv ?_); (case hv => exact rfl))
  | (with_reducible refine g_c ?_)
  | ((with_reducible refine' g_aug ?hv ?_); (case hv => exact rfl))
  | (with_reducible refine l_ip ?_)
  | (with_reducible refine g_op ?_)
  | (with_reducible refine g_un ?_)
  | (with_reducible refine g_cons ?_)
  | (with_reducible refine g_nil ?_)
  | (with_reducible refine g_cb ?_)
  | (with_reducible refine g_call ?_)
  | (with_reducible refine g_callK ?_)
  | (with_reducible refine g_test ?_)
  | (with_reducible refine g_b ?_)
  | (with_reducible refine g_not ?_)
  | (with_reducible refine g_chain ?_)
  | (with_reducible refine g_notV ?_)
  | (with_reducible refine g_and ?_)
  | (with_reducible refine g_or ?_)
  | (with_reducible refine g_ifx ?_)
  | (with_reducible refine g_isN ?_)
  | (with_reducible refine g_notN ?_)
  | (with_reducible refine g_andV ?_)
  | (with_reducible refine g_bm ?_)
  | (with_reducible refine g_bm0 ?_)
  | (with_reducible refine g_sl ?_)
  | (with_reducible refine g_part ?_)
  | (with_reducible refine g_nopart ?_)
  | (with_reducible refine g_dget ?_)
  | (with_reducible refine g_dput ?_)
  | (with_reducible refine g_tup ?_)
  | (with_reducible refine g_lst ?_)
  | (with_reducible refine g_yes ?_)
  | (with_reducible refine g_name ?_)
  | (with_reducible refine g_gsub ?_)
  | (with_reducible refine g_iList ?_)
  | (with_reducible refine g_iTup ?_)
  | (with_reducible refine g_for ?_)
  | (with_reducible refine g_lc ?_)
  | (with_reducible refine g_rng1 ?_)
  | (with_reducible refine g_iZip ?_)
  | (with_reducible refine g_allT ?_)
  | (with_reducible refine g_iZipA ?_)
  | (with_reducible refine g_iZip3 ?_)
  | (with_reducible refine g_dcT ?_)
  | (with_reducible refine g_dc ?_)
  | (with_reducible refine g_iEnumT ?_)
  | (with_reducible refine g_lstRg ?_)
  | (with_reducible refine g_rg1 ?_)
  | (with_reducible refine g_gcons ?_)
  | (with_reducible refine g_gnil ?_)
  | (with_reducible refine l_bl ?_)
  | (with_reducible refine l_int ?_)
  | (with_reducible refine l_two ?_)
  | (with_reducible refine l_three ?_)
  | (with_reducible refine l_I0 ?_)
  | (with_reducible refine l_U ?_)
  | dsimp only)))
section
variable {P : Program} {w : World} {K : PySem.W.Frag} {mg : Str → Option Value} {base : Heap}
/-! ### _law_many_inputs -/
def spMany (K : PySem.W.Frag) (n : Nat) : Sp := fun vs H Q _ => ∃ a c d ps, vs = [.ref a] ∧ Dp K H (.ref a) (Th.st c d ps).shD ∧ (Th.st c d ps).dep ≤ n ∧ (Th.st c d ps).full = true ∧ (Th.st c d ps).nIn ≤ 100000 ∧
  ∀ H', Same H H' → Q (.int ((Th.st c d ps).nIn : Nat)) H'
theorem ok_l_many_inputs (T : Tx K mg) : ∀ n : Nat, FnOk P w K mg base CX0 (n + 1) T.f_l_many_inputs T.fd_l_many_inputs ["shape"] (spMany K n)
  | 0 => by
    refine T.F_l_many_inputs.ok (k := 0) sc_l_many_inputs (fun vs H Q E h => ?_) (fun cdv A outer s H vs Q E hr h => ?_)
    · obtain ⟨_, _, _, _, rfl, _⟩ := h
      rfl
    · obtain ⟨_, _, _, _, rfl, _, h1, _⟩ := h
      simp only [Th.dep] at h1
      exact absurd h1 (by omega)
  | n + 1 => by
    have ih := ok_l_many_inputs T n
    refine T.F_l_many_inputs.ok sc_l_many_inputs (fun vs H Q E h => ?_) (fun cdv A outer s H vs Q E hr h => ?_)
    · obtain ⟨_, _, _, _, rfl, _⟩ := h
      rfl
    obtain ⟨a, c, d, ps, rfl, hd, hdep, hfull, hin, q⟩ := h
    simp only [Th.shD] at hd
    simp only [Th.dep] at hdep
    simp only [Th.nIn] at hin q
    simp only [Th.full, Bool.and_eq_true] at hfull
    obtain ⟨xs, hx, hds⟩ := dp_lst hd
    have hlen : xs.length = ps.length := by rw [dps_len hds, shDL_eq, List.length_map]
    have hl2 := len_le_nIn hfull.2
    refine ⟨_, (pss_one (ps_ret (pe_callB (cr_sum rfl) (by rfl) T.m_sum (by decide +kernel) (pa_cons (pe_lc (own := [("own", 1)]) (g := (gName 1)) (tt := tYes) (by rfl) sc_l_many_inputs.nd (pi_list (pv 0)) (blkOk_by (own := [("own", 1)]) (N := ["shape", "own"]) (sc := defScope s_l_many_inputs) (by decide +kernel)) (fun _ _ _ _ _ => (pg_name (i := 1) sc_l_many_inputs.nd rfl (Or.inl rfl))) (fun _ _ _ _ _ => pts_nil) (fun _ _ _ _ _ => (pe_ifExp (pt_cmp (pc_isN (pv 1))) pe_int (pe_call ih (hr.mono (by omega)) (by rfl) T.g_l_many_inputs T.F_l_many_inputs.kp T.b_l_many_inputs .nil pass0 (pa_cons (pv 1) pa_nil))))) pa_nil)))), ?_⟩
    walk_at "go"
    refine ⟨a, rfl, ⟨xs, hx⟩, fun D nD => ?_⟩
    refine lc_list (xs := xs) (fun i H' => H' D = some (.lst ((ps.take i).map fun p => V.int (p.2.nIn : Nat))) ∧ Same H H') ⟨upd_same, same_new nD⟩ (fun i H' _ h => h.2.seq hx) (fun i x H1 hi h => ?_) (fun H1 h => ?_)
    · obtain ⟨e, s⟩ := h
      obtain ⟨p, hp, hdp⟩ := sh_at hds hi
      have pm : p ∈ ps := List.mem_of_getElem? hp
      have hn := nIn_le pm
      have pl : i < ps.length := (List.getElem?_eq_some_iff.mp hp).1
      have pd := depL_le.mp (show depL ps ≤ n by omega) p pm
      have pf := fullL_iff.mp hfull.2 p pm
      have szl : ((ps.take i).map fun p => V.int (p.2.nIn : Nat)).length < sizeLine := sz1 (by rw [List.length_map, List.length_take]; omega)
      have tm := take_map (f := fun p : Int × Th => V.int (p.2.nIn : Nat)) hp
      obtain ⟨w0, t⟩ := p
      walk_at "go"
      refine ⟨rfl, ?_⟩
      walk_at "go"
      rw [if_pos rfl]
      walk_at "go"
      cases t with
      | inp k =>
        simp only [Th.shD] at hdp
        rw [dp_non hdp, decide_eq_true rfl, if_pos rfl]
        walk_at "go"
        refine ⟨_, e, szl, ?_, same_mut s nD⟩
        rw [upd_same]
        simp only [Th.nIn] at tm
        exact congrArg (fun l => some (HO.lst l)) tm
      | st c1 d1 ps1 =>
        have hdp0 := hdp
        simp only [Th.shD] at hdp0
        obtain ⟨b, rfl⟩ := dp_list hdp0
        rw [decide_eq_false (by intro z; cases z), if_neg (by decide)]
        walk_at "go"
        refine ⟨b, c1, d1, ps1, rfl, dp_same s hdp, pd, pf, Nat.le_trans hn hin, fun H2 s2 => ?_⟩
        refine ⟨_, s2 _ _ e, szl, ?_, same_mut (s.trans s2) nD⟩
        rw [upd_same]
        exact congrArg (fun l => some (HO.lst l)) tm
    · obtain ⟨e, s⟩ := h
      rw [hlen, List.take_length] at e
      walk_at "go"
      refine ⟨D, ps.map fun p => (p.2.nIn : Int), rfl, sq_l (by rw [e, List.map_map]; rfl), ?_⟩
      have es : (ps.map fun p => (p.2.nIn : Int)).sum = ((nInL ps : Nat) : Int) := by
        rw [nInL_eq]
        clear e hds hx hd hdep hfull hin q hlen hl2
        induction ps with
        | nil => rfl
        | cons a b ih => simp only [List.map_cons, List.sum_cons, ih]; omega
      rw [es]
      exact q H1 s

end
end SC
namespace SC
open PySem PySem.Spec PyProof.Rows L2 StrLaws
local macro_rules | `(tactic| walk_at "go") => `(tactic| ((try dsimp only [cxOf, Cx.nox, Cx.wish]); repeat (first
  | (with_reducible refine g_seq ?_)
  | (with_reducible refine g_asg ?_)
  | (with_reducible refine g_asg2 ?_)
  | (with_reducible refine g_ret ?_)
  | (with_reducible refine g_drop ?_)
  | (with_reducible refine g_next ?_)
  | (with_reducible refine g_ifs ?_)
  | (with_reducible refine g_par ?_)
  | (with_reducible refine g_par3 ?_)
  | ((with_reducible refine' g_var ?hv ?_); (case hv => exact rfl))
  | (with_reducible refine g_c ?_)
  | ((with_reducible refine' g_aug ?hv ?_); (case hv => exact rfl))
  | (with_reducible refine l_ip ?_)
  | (with_reducible refine g_op ?_)
  | (with_reducible refine g_un ?_)
  | (with_reducible refine g_cons ?_)
  | (with_reducible refine g_nil ?_)
  | (with_reducible refine g_cb ?_)
  | (with_reducible refine g_call ?_)
  | (with_reducible refine g_callK ?_)
  | (with_reducible refine g_test ?_)
  | (with_reducible refine g_b ?_)
  | (with_reducible refine g_not ?_)
  | (with_reducible refine g_chain ?_)
  | (with_reducible refine g_notV ?_)
  | (with_reducible refine g_and ?_)
  | (with_reducible refine g_or ?_)
  | (with_reducible refine g_ifx ?_)
  | (with_reducible refine g_isN ?_)
  | (with_reducible refine g_notN ?_)
  | (with_reducible refine g_andV ?_)
  | (with_reducible refine g_bm ?_)
  | (with_reducible refine g_bm0 ?_)
  | (with_reducible refine g_sl ?_)
  | (with_reducible refine g_part ?_)
  | (with_reducible refine g_nopart ?_)
  | (with_reducible refine g_dget ?_)
  | (with_reducible refine g_dput ?_)
  | (with_reducible refine g_tup ?_)
  | (with_reducible refine g_lst ?_)
  | (with_reducible refine g_yes ?_)
  | (with_reducible refine g_name ?_)
  | (with_reducible refine g_gsub ?_)
  | (with_reducible refine g_iList ?_)
  | (with_reducible refine g_iTup ?_)
  | (with_reducible refine g_for ?_)
  | (with_reducible refine g_lc ?_)
  | (with_reducible refine g_rng1 ?_)
  | (with_reducible refine g_iZip ?_)
  | (with_reducible refine g_allT ?_)
  | (with_reducible refine g_iZipA ?_)
  | (with_reducible refine g_iZip3 ?_)
  | (with_reducible refine g_dcT ?_)
  | (with_reducible refine g_dc ?_)
  | (with_reducible refine g_iEnumT ?_)
  | (with_reducible refine g_lstRg ?_)
  | (with_reducible refine g_rg1 ?_)
  | (with_reducible refine g_gcons ?_)
  | (with_reducible refine g_gnil ?_)
  | (with_reducible refine l_bl ?_)
  | (with_reducible refine l_int ?_)
  | (with_reducible refine l_two ?_)
  | (with_reducible refine l_three ?_)
  | (with_reducible refine l_I0 ?_)
  | (with_reducible refine l_U ?_)
  | dsimp only)))
section
variable {P : Program} {w : World} {K : PySem.W.Frag} {mg : Str → Option Value} {base : Heap}
/-! ### _law_weights -/
def spWeights : Sp := fun vs H Q _ => ∃ dk gr many sort, vs = [.ref dk, .int many, .int sort] ∧ Deck H dk gr ∧ 1 ≤ many ∧ many ≤ 1000 ∧ 0 ≤ sort ∧ sort ≤ 2 ∧
  ∀ (ws : List Int) p H', WsOk ws → ws.length = many.toNat → H p = none → Deck H' dk gr → H' p = some (.lst (ws.map V.int)) → Same (hid [dk, gr] H) (hid [dk, gr] H') → Q (.ref p) H'
/-- one of three lists -/
theorem of_three {H : Hp} {p1 p2 p3 : Addr} {x1 x2 x3 : List Int} {sort : Int} (h0 : 0 ≤ sort) (h1 : sort ≤ 2) (e1 : H p1 = some (.lst (x1.map V.int))) (e2 : H p2 = some (.lst (x2.map V.int))) (e3 : H p3 = some (.lst (x3.map V.int))) :
    ∃ m ns, atI [V.ref p1, V.ref p2, V.ref p3] sort = some (.ref m) ∧ H m = some (.lst (ns.map V.int)) ∧ (ns = x1 ∨ ns = x2 ∨ ns = x3) ∧ (m = p1 ∨ m = p2 ∨ m = p3) := by
  have : sort = 0 ∨ sort = 1 ∨ sort = 2 := by omega
  rcases this with rfl | rfl | rfl
  · exact ⟨p1, x1, rfl, e1, .inl rfl, .inl rfl⟩
  · exact ⟨p2, x2, rfl, e2, .inr (.inl rfl), .inr (.inl rfl)⟩
  · exact ⟨p3, x3, rfl, e3, .inr (.inr rfl), .inr (.inr rfl)⟩
theorem ok_l_weights (T : Tx K mg) : FnOk P w K mg base CX0 3 T.f_l_weights T.fd_l_weights ["deck", "many", "sort"] spWeights := by
  refine T.F_l_weights.ok sc_l_weights (fun vs H Q E h => ?_) (fun cdv A outer s H vs Q E hr h => ?_)
  · obtain ⟨_, _, _, _, rfl, _⟩ := h
    rfl
  obtain ⟨dk, gr, many, sort, rfl, D, hm1, hm2, hs1, hs2, q⟩ := h
  refine ⟨_, (pss_cons (ps_set (i := 3) sc_l_weights.nd rfl (Or.inr rfl) (pe_ix ix_list (pe_lst (pa_cons (pe_lst (pa_cons pe_int (pa_cons (pe_un un_neg pe_int) pa_nil))) (pa_cons (pe_lst (pa_cons pe_int (pa_cons pe_int (pa_cons (pe_un un_neg pe_int) (pa_cons pe_int (pa_cons pe_int (pa_cons (pe_un un_neg pe_int) (pa_cons pe_int (pa_cons pe_int (pa_cons (pe_un un_neg pe_int) (pa_cons pe_int pa_nil))))))))))) (pa_cons (pe_lst (pa_cons pe_int (pa_cons (pe_un un_neg pe_int) (pa_cons (pe_op op_pow pe_int pe_int) (pa_cons (pe_un un_neg (pe_op op_pow pe_int pe_int)) (pa_cons (pe_op op_add (pe_op op_pow pe_int pe_int) pe_int) (pa_cons pe_int (pa_cons (pe_un un_neg pe_int) pa_nil)))))))) pa_nil)))) (pv 2) (fun _ _ => rfl)))
      (pss_cons (ps_asg (pe_tup (pa_cons (pe_lc (own := [("turn", 7)]) (g := (gName 7)) (tt := tYes) (by rfl) sc_l_weights.nd (pi_range1 rfl T.m_range (pa_cons (pv 1) pa_nil)) (blkOk_by (own := [("turn", 7)]) (N := ["deck", "many", "sort", "menu", "found", "common", "weight", "turn"]) (sc := defScope s_l_weights) (by decide +kernel)) (fun _ _ _ _ _ => (pg_name (i := 7) sc_l_weights.nd rfl (Or.inl rfl))) (fun _ _ _ _ _ => pts_nil) (fun _ _ _ _ _ => (pe_call (ok_l_pick T) (hr.mono (by first | decide | omega)) (by rfl) T.g_l_pick T.F_l_pick.kp T.b_l_pick .nil pass0 (pa_cons (pv 0) (pa_cons (pv 3) pa_nil))))) (pa_cons pe_int pa_nil))) (pg_tup (by rfl) (pgs_cons (pg_name (i := 4) sc_l_weights.nd rfl (Or.inl rfl)) (pgs_cons (pg_name (i := 5) sc_l_weights.nd rfl (Or.inr rfl)) pgs_nil))))
      (pss_cons (ps_for PassesOwn.never rfl (pi_list (pv 4)) (pg_name (i := 6) sc_l_weights.nd rfl (Or.inl rfl)) (pss_one (ps_set (i := 5) sc_l_weights.nd rfl (Or.inr rfl) (pe_call (ok_l_divisor_of T) (hr.mono (by first | decide | omega)) (by rfl) T.g_l_divisor_of T.F_l_divisor_of.kp T.b_l_divisor_of .nil pass0 (pa_cons (pv 5) (pa_cons (pv 6) pa_nil))))))
      (pss_one (ps_ret (pe_lc (own := [("weight", 6)]) (g := (gName 6)) (tt := tYes) (by rfl) sc_l_weights.nd (pi_list (pv 4)) (blkOk_by (own := [("weight", 6)]) (N := ["deck", "many", "sort", "menu", "found", "common", "weight", "turn"]) (sc := defScope s_l_weights) (by decide +kernel)) (fun _ _ _ _ _ => (pg_name (i := 6) sc_l_weights.nd rfl (Or.inl rfl))) (fun _ _ _ _ _ => pts_nil) (fun _ _ _ _ _ => (pe_op op_fdivW (pv 6) (pv 5))))))))), ?_⟩
  walk_at "go"
  refine ⟨sz (by simp), fun p1 h1 => ?_⟩
  walk_at "go"
  refine ⟨sz (by simp), fun p2 h2 => ?_⟩
  walk_at "go"
  refine l_I ⟨by decide, by decide, by decide⟩ ?_
  walk_at "go"
  refine l_I ⟨by decide, by decide, by decide⟩ ?_
  walk_at "go"
  refine l_I ⟨by decide, by decide, by decide⟩ ?_
  walk_at "go"
  refine ⟨sz (by simp), fun p3 h3 => ?_⟩
  walk_at "go"
  refine ⟨sz (by simp), fun p4 h4 => ?_⟩
  walk_at "go"
  have s1 := same_new (o := .lst ([1, -1].map V.int)) h1
  have s2 := same_new (o := .lst ([1, 1, -1, 2, 3, -2, 4, 5, -6, 6].map V.int)) h2
  have s3 := same_new (o := .lst (([1, -1, 10 ^ 30, -(10 ^ 30), 10 ^ 29 + 7, 2, -3] : List Int).map V.int)) h3
  have s4 := same_new (o := .lst [.ref p1, .ref p2, .ref p3]) h4
  obtain ⟨m, ns, em, eH, hns, hmp⟩ := of_three (x1 := [1, -1]) (x2 := [1, 1, -1, 2, 3, -2, 4, 5, -6, 6]) (x3 := [1, -1, 10 ^ 30, -(10 ^ 30), 10 ^ 29 + 7, 2, -3]) hs1 hs2 (s4 _ _ (s3 _ _ (s2 _ _ upd_same))) (s4 _ _ (s3 _ _ upd_same)) (s4 _ _ upd_same)
  refine l_ixL (sq_l upd_same) em ?_
  walk_at "go"
  refine ⟨many, rfl, by omega, by omega, fun L nL => ?_⟩
  have sH := ((s1.trans s2).trans s3).trans s4
  have D4 := deck_new D sH
  have h4' := sH.free nL
  obtain ⟨g1, g2, g3⟩ := deck_ne D h4'
  have hm : m ∉ [dk, gr] := by
    have : H m = none := by
      rcases hmp with rfl | rfl | rfl
      · exact h1
      · exact s1.free h2
      · exact (s1.trans s2).free h3
    exact (deck_ne D this).2.2
  have mL : m ≠ L := ne_of_none eH nL
  have nsk : ∀ w ∈ ns, w ≠ 0 ∧ w.natAbs ≤ 10 ^ 30 := by rcases hns with rfl | rfl | rfl <;> decide
  have nsl : ns ≠ [] ∧ ns.length ≤ 10 := by rcases hns with rfl | rfl | rfl <;> decide
  refine lc_range (lo := 0) (n := many.toNat) (fun i H' => ∃ ws : List Int, ws.length = i ∧ (∀ w ∈ ws, w ≠ 0 ∧ w.natAbs ≤ 10 ^ 30) ∧ H' L = some (.lst (ws.map V.int)) ∧ Deck H' dk gr ∧ H' m = some (.lst (ns.map V.int)) ∧
    Same (hid [dk, gr] H) (hid [dk, gr] H')) ⟨[], rfl, fun w hw => (by cases hw), upd_same, deck_new D4 (same_new nL), same_new nL _ _ eH, same_hid (sH.trans (same_new nL))⟩ (fun i H1 hi h => ?_) (fun H1 h => ?_)
  · obtain ⟨ws, hl, hw, eL, D1, eM, s⟩ := h
    walk_at "go"
    refine ⟨rfl, ?_⟩
    walk_at "go"
    rw [if_pos rfl]
    walk_at "go"
    refine ⟨dk, gr, m, ns.map V.int, rfl, D1, sq_l (hid_put hm eM), fun z => nsl.1 (List.map_eq_nil_iff.mp z), by rw [List.length_map]; omega, fun x H2 hx D2 s2 => ?_⟩
    obtain ⟨v, hv, rfl⟩ := List.mem_map.mp hx
    refine ⟨_, (hid_get (s2 _ _ (hid_put g3 eL))).2, sz1 (by rw [List.length_map]; omega), ws ++ [v], by rw [List.length_append, hl]; rfl, fun w hm2 => ?_, by rw [upd_same, List.map_append]; rfl, deck_mut D2 g1 g2, ?_, hid_mut (s.trans s2) (hid_none h4')⟩
    · rcases List.mem_append.mp hm2 with z | z
      · exact hw w z
      · rw [List.mem_singleton.mp z]; exact nsk v hv
    · rw [upd_ne mL]; exact (hid_get (s2 _ _ (hid_put hm eM))).2
  · obtain ⟨ws, hl, hw, eL, D1, eM, s⟩ := h
    have wne : ws ≠ [] := fun e => by rw [e] at hl; simp at hl; omega
    walk_at "go"
    refine ⟨sz (by simp), fun p np => ?_⟩
    refine g_gtup (sq_t upd_same) rfl ?_
    walk_at "go"
    have s5 := same_new (o := .tup [V.ref L, V.int 0]) np
    have eL5 := s5 _ _ eL
    have D5 := deck_new D1 s5
    have ss := s.trans (same_hid s5)
    generalize upd H1 p (.tup [V.ref L, V.int 0]) = H5 at eL5 D5 ss ⊢
    refine ⟨L, rfl, ⟨_, sq_l eL5⟩, ?_⟩
    have gl : ∀ i, gcdL (ws.take i) < 10 ^ 200 := fun i => by
      cases e : ws.take i with
      | nil => decide +kernel
      | cons a b =>
        have ha : a ∈ ws := List.mem_of_mem_take (by rw [e]; exact List.mem_cons_self ..)
        have h1 := gcdL_le (ws := a :: b) (List.mem_cons_self ..) (hw a ha).1
        have h2 := (hw a ha).2
        have h3 : (10 : Nat) ^ 30 < 10 ^ 200 := by decide +kernel
        omega
    refine for_L (xs := ws.map V.int) (fun i σ H' => ∃ y6, σ = [some (.ref dk), some (.int many), some (.int sort), some (.ref m), some (.ref L), some (.int (gcdL (ws.take i) : Nat)), y6, none] ∧ H' = H5) ⟨_, rfl, rfl⟩ (fun i σ H' _ h => ?_) (fun i x σ H' hi h => ?_) (fun σ H6 h => ?_)
    · obtain ⟨_, _, rfl⟩ := h
      exact sq_l eL5
    · obtain ⟨y6, rfl, rfl⟩ := h
      rw [List.getElem?_map] at hi
      cases ew : ws[i]? with
      | none => rw [ew] at hi; cases hi
      | some w0 =>
        rw [ew] at hi
        obtain rfl := Option.some.inj hi
        have hw0 := hw w0 (List.mem_of_getElem? ew)
        walk_at "go"
        refine ⟨_, _, rfl, ?_⟩
        rw [Int.natAbs_natCast, ← gcdL_take ew]
        exact ⟨_, rfl, rfl⟩
    · obtain ⟨y6, rfl, rfl⟩ := h
      rw [List.length_map, List.take_length]
      walk_at "go"
      refine ⟨L, rfl, ⟨_, sq_l eL5⟩, fun L2 nL2 => ?_⟩
      have hnz : ∀ w ∈ ws, w ≠ 0 := fun w hm => (hw w hm).1
      obtain ⟨k1, k2⟩ := gcdL_div wne hnz
      refine lc_list (xs := ws.map V.int) (fun i H' => H' L2 = some (.lst ((ws.take i).map fun w => V.int (w / (gcdL ws : Int)))) ∧ Same H6 H') ⟨upd_same, same_new nL2⟩ (fun i H' _ h => sq_l (h.2 _ _ eL5)) (fun i x H' hi h => ?_) (fun H' h => ?_)
      · obtain ⟨e, s⟩ := h
        rw [List.getElem?_map] at hi
        cases ew : ws[i]? with
        | none => rw [ew] at hi; cases hi
        | some w0 =>
          rw [ew] at hi
          obtain rfl := Option.some.inj hi
          have iln : i < ws.length := (List.getElem?_eq_some_iff.mp ew).1
          walk_at "go"
          refine ⟨rfl, ?_⟩
          walk_at "go"
          rw [if_pos rfl]
          walk_at "go"
          have gp := gcdL_pos wne hnz
          have gz : gcdL ws < 10 ^ 200 := by have := gl ws.length; rwa [List.take_length] at this
          refine l_I ⟨by omega, by rw [Int.natAbs_natCast]; exact Nat.lt_trans (log2_small (Nat.lt_trans gz (by decide +kernel))) (by decide)⟩ ?_
          walk_at "go"
          refine ⟨_, e, sz1 (by rw [List.length_map, List.length_take]; omega), ?_, same_mut s nL2⟩
          rw [upd_same]
          exact congrArg (fun l => some (HO.lst l)) (take_map (f := fun w => V.int (w / (gcdL ws : Int))) ew)
      · obtain ⟨e, s⟩ := h
        rw [List.length_map, List.take_length] at e
        walk_at "go"
        refine q (ws.map fun w => w / (gcdL ws : Int)) L2 H' ⟨fun w hm2 => ?_, k1⟩ (by rw [List.length_map, hl]) ?_ (deck_new D5 s) (by rw [e, List.map_map]; rfl) (ss.trans (same_hid s))
        · obtain ⟨w1, hw1, rfl⟩ := List.mem_map.mp hm2
          exact ⟨(k2 w1 hw1).1, Nat.le_trans (k2 w1 hw1).2 (hw w1 hw1).2⟩
        · cases e6 : H L2 with
          | none => rfl
          | some o =>
            have z := stay ss (deck_some D5) (some_of e6)
            rw [nL2] at z; cases z

end
end SC
namespace SC
open PySem PySem.Spec PyProof.Rows L2 StrLaws
local macro_rules | `(tactic| walk_at "go") => `(tactic| ((try dsimp only [cxOf, Cx.nox, Cx.wish]); repeat (first
  | (with_reducible refine g_seq ?_)
  | (with_reducible refine g_asg ?_)
  | (with_reducible refine g_asg2 ?_)
  | (with_reducible refine g_ret ?_)
  | (with_reducible refine g_drop ?_)
  | (with_reducible refine g_next ?_)
  | (with_reducible refine g_ifs ?_)
  | (with_reducible refine g_par ?_)
  | (with_reducible refine g_par3 ?_)
  | ((with_reducible refine' g_var ?hv ?_); (case hv => exact rfl))
  | (with_reducible refine g_c ?_)
  | ((with_reducible refine' g_aug ?hv ?_); (case hv => exact rfl))
  | (with_reducible refine l_ip ?_)
  | (with_reducible refine g_op ?_)
  | (with_reducible refine g_un ?_)
  | (with_reducible refine g_cons ?_)
  | (with_reducible refine g_nil ?_)
  | (with_reducible refine g_cb ?_)
  | (with_reducible refine g_call ?_)
  | (with_reducible refine g_callK ?_)
  | (with_reducible refine g_test ?_)
  | (with_reducible refine g_b ?_)
  | (with_reducible refine g_not ?_)
  | (with_reducible refine g_chain ?_)
  | (with_reducible refine g_notV ?_)
  | (with_reducible refine g_and ?_)
  | (with_reducible refine g_or ?_)
  | (with_reducible refine g_ifx ?_)
  | (with_reducible refine g_isN ?_)
  | (with_reducible refine g_notN ?_)
  | (with_reducible refine g_andV ?_)
  | (with_reducible refine g_bm ?_)
  | (with_reducible refine g_bm0 ?_)
  | (with_reducible refine g_sl ?_)
  | (with_reducible refine g_part ?_)
  | (with_reducible refine g_nopart ?_)
  | (with_reducible refine g_dget ?_)
  | (with_reducible refine g_dput ?_)
  | (with_reducible refine g_tup ?_)
  | (with_reducible refine g_lst ?_)
  | (with_reducible refine g_yes ?_)
  | (with_reducible refine g_name ?_)
  | (with_reducible refine g_gsub ?_)
  | (with_reducible refine g_iList ?_)
  | (with_reducible refine g_iTup ?_)
  | (with_reducible refine g_for ?_)
  | (with_reducible refine g_lc ?_)
  | (with_reducible refine g_rng1 ?_)
  | (with_reducible refine g_iZip ?_)
  | (with_reducible refine g_allT ?_)
  | (with_reducible refine g_iZipA ?_)
  | (with_reducible refine g_iZip3 ?_)
  | (with_reducible refine g_dcT ?_)
  | (with_reducible refine g_dc ?_)
  | (with_reducible refine g_iEnumT ?_)
  | (with_reducible refine g_lstRg ?_)
  | (with_reducible refine g_rg1 ?_)
  | (with_reducible refine g_gcons ?_)
  | (with_reducible refine g_gnil ?_)
  | (with_reducible refine l_bl ?_)
  | (with_reducible refine l_int ?_)
  | (with_reducible refine l_two ?_)
  | (with_reducible refine l_three ?_)
  | (with_reducible refine l_I0 ?_)
  | (with_reducible refine l_U ?_)
  | dsimp only)))
section
variable {P : Program} {w : World} {K : PySem.W.Frag} {mg : Str → Option Value} {base : Heap}
/-! ### _law_stage -/
def spStage (K : PySem.W.Frag) (n : Nat) : Sp := fun vs H Q _ => ∃ dk gr a lf sort, ∃ is : List Int, ∃ c d ps, vs = [.ref dk, .ref a, .ref lf, .int sort] ∧ Deck H dk gr ∧ lf ≠ dk ∧ lf ≠ gr ∧ H lf = some (.lst (is.map V.int)) ∧ 0 ≤ sort ∧ sort ≤ 2 ∧
  Dp K (hid [dk, gr, lf] H) (.ref a) (Th.st c d ps).shD ∧ (Th.st c d ps).dep ≤ n ∧ (Th.st c d ps).full = true ∧ (Th.st c d ps).nIn ≤ is.length ∧ is.length ≤ 1000 ∧
  ∀ (u : Th) (rest : List Int) (p : Addr) (H' : Hp), Made (Th.st c d ps) u → (∃ c d ps, u = Th.st c d ps) → is = rest ++ u.ins.reverse → Dp K H' (.ref p) u.toD → Deck H' dk gr → H' lf = some (.lst (rest.map V.int)) → Same (hid [dk, gr, lf] H) (hid [dk, gr, lf] H') → Q (.ref p) H'
/-- where the loop over the parts stands -/
structure StI (K : PySem.W.Frag) (H : Hp) (dk gr lf pl pw : Addr) (is ws : List Int) (ps us : List (Int × Th)) (rest : List Int) (zs : List V) (i : Nat) (H' : Hp) : Prop where
  len : us.length = i
  wt : us.map (·.1) = ws.take i
  isq : is = rest ++ (insL us).reverse
  st : nStL us = nStL (ps.take i)
  inp : nInL us = nInL (ps.take i)
  dep : depL us = depL (ps.take i)
  full : fullL us = true
  good : goodL us
  elf : H' lf = some (.lst (rest.map V.int))
  dck : Deck H' dk gr
  epl : H' pl = some (.lst zs)
  dps : DpAll K H' zs (toDL us)
  epw : H' pw = some (.lst (ws.map V.int))
  same : Same (hid [dk, gr, lf] H) (hid [dk, gr, lf] H')
theorem toDL_t (us : List (Int × Th)) : tupAll (toDL us) = true := by
  have := toD_t (.st 0 0 us)
  simpa only [Th.toD, tupD, tupAll, Bool.and_true, Bool.true_and] using this
section
variable {H H1 H2 : Hp} {dk gr lf pl pw : Addr} {is ws : List Int} {ps us : List (Int × Th)} {rest : List Int} {zs : List V} {i : Nat}
theorem StI.grow (I : StI K H dk gr lf pl pw is ws ps us rest zs i H1) (s : Same H1 H2) : StI K H dk gr lf pl pw is ws ps us rest zs i H2 :=
  ⟨I.len, I.wt, I.isq, I.st, I.inp, I.dep, I.full, I.good, s _ _ I.elf, deck_new I.dck s, s _ _ I.epl, dps_same s I.dps, s _ _ I.epw, I.same.trans (same_hid s)⟩
theorem three_nt (D : Deck H dk gr) (h : H lf = some (.lst zs)) : ∀ a ∈ [dk, gr, lf], ∀ o, H a = some o → isT o = false := fun a ha o e => by
  rcases List.mem_cons.mp ha with z | ha
  · exact deck_nt D a (by simp [z]) o e
  · rcases List.mem_cons.mp ha with z | ha
    · exact deck_nt D a (by simp [z]) o e
    · rw [List.mem_singleton.mp ha, h] at e
      cases e; rfl
theorem StI.next (I : StI K H dk gr lf pl pw is ws ps us rest zs i H1) {t u1 : Th} {w0 w1 : Int} {rest1 : List Int} {v : V} {p : Addr} (hp : ps[i]? = some (w1, t)) (hw : ws[i]? = some w0)
    (m : Made t u1) (er : rest = rest1 ++ u1.ins.reverse) (elf : H2 lf = some (.lst (rest1.map V.int))) (D2 : Deck H2 dk gr) (s2 : Same (hid [dk, gr, lf] H1) (hid [dk, gr, lf] H2))
    (hv : Dp K H2 v u1.toD) (np : H2 p = none) (hpl : pl ∉ [dk, gr, lf]) (hpw : pw ∉ [dk, gr, lf]) (hne : pw ≠ pl) (hl : H pl = none) :
    StI K H dk gr lf pl pw is ws ps (us ++ [(w0, u1)]) rest1 (zs ++ [.ref p]) (i + 1) (upd (upd H2 p (.tup [.int w0, v])) pl (.lst (zs ++ [.ref p]))) := by
  have s3 : Same H2 (upd H2 p (.tup [.int w0, v])) := same_new np
  have epl := s3 _ _ (hid_get (s2 _ _ (hid_put hpl I.epl))).2
  have epw := s3 _ _ (hid_get (s2 _ _ (hid_put hpw I.epw))).2
  have ts : TSame H1 (upd H2 p (.tup [.int w0, v])) := (ts_hid (three_nt I.dck I.elf) s2).trans (ts_same s3)
  have tl := ts_lst (o := .lst (zs ++ [.ref p])) epl
  have e3 : (upd H2 p (.tup [.int w0, v])) p = some (.tup [.int w0, v]) := upd_same
  have pne : p ≠ pl := fun e => by rw [e, (hid_get (s2 _ _ (hid_put hpl I.epl))).2] at np; cases np
  have n0 : pl ≠ dk := fun e => hpl (by simp [e])
  have n1 : pl ≠ gr := fun e => hpl (by simp [e])
  have n2 : pl ≠ lf := fun e => hpl (by simp [e])
  refine ⟨?_, ?_, ?_, ?_, ?_, ?_, ?_, ?_, ?_, ?_, upd_same, ?_, ?_, ?_⟩
  · rw [List.length_append, I.len]; rfl
  · rw [List.map_append, I.wt, take_one hw]; rfl
  · rw [I.isq, er, insL_app, insL_one, List.reverse_append, List.append_assoc]
  · rw [nStL_app, nStL_one, take_one hp, nStL_app, nStL_one, I.st]
    exact congrArg _ m.st
  · rw [nInL_app, nInL_one, take_one hp, nInL_app, nInL_one, I.inp]
    exact congrArg _ m.inp
  · rw [depL_app, depL_one, take_one hp, depL_app, depL_one, I.dep]
    exact congrArg _ m.dep
  · refine fullL_iff.mpr fun z hz => ?_
    rcases List.mem_append.mp hz with hz | hz
    · exact fullL_iff.mp I.full z hz
    · rw [List.mem_singleton.mp hz]; exact m.full
  · refine goodL_iff.mpr fun z hz => ?_
    rcases List.mem_append.mp hz with hz | hz
    · exact goodL_iff.mp I.good z hz
    · rw [List.mem_singleton.mp hz]; exact m.good
  · rw [upd_ne n2.symm]; exact s3 _ _ elf
  · exact deck_mut (deck_new D2 s3) n0 n1
  · have e : toDL (us ++ [(w0, u1)]) = toDL us ++ [.tuple [.int w0, u1.toD]] := by rw [toDL_eq, toDL_eq, List.map_append]; rfl
    rw [e]
    refine dps_app (dps_t (ts.trans tl) (toDL_t us) I.dps) (.cons (.tup (sq_t (by rw [upd_ne pne]; exact e3)) (.cons (.int _) (.cons ?_ .nil))) .nil)
    exact dp_t ((ts_same s3).trans tl) (toD_t u1) hv
  · rw [upd_ne hne]; exact epw
  · exact hid_mut ((I.same.trans s2).trans (same_hid s3)) (hid_none hl)
end
theorem ok_l_stage (T : Tx K mg) : ∀ n : Nat, FnOk P w K mg base CX0 (4 + n) T.f_l_stage T.fd_l_stage ["deck", "shape", "left", "sort"] (spStage K n)
  | 0 => by
    refine T.F_l_stage.ok (k := 3) sc_l_stage (fun vs H Q E h => ?_) (fun cdv A outer s H vs Q E hr h => ?_)
    · obtain ⟨_, _, _, _, _, _, _, _, _, rfl, _⟩ := h
      rfl
    · obtain ⟨_, _, _, _, _, _, _, _, _, rfl, _, _, _, _, _, _, _, h1, _⟩ := h
      simp only [Th.dep] at h1
      exact absurd h1 (by omega)
  | n + 1 => by
    have ih := ok_l_stage T n
    refine T.F_l_stage.ok (k := 4 + n) sc_l_stage (fun vs H Q E h => ?_) (fun cdv A outer s H vs Q E hr h => ?_)
    · obtain ⟨_, _, _, _, _, _, _, _, _, rfl, _⟩ := h
      rfl
    obtain ⟨dk, gr, a, lf, sort, is, c, d, ps, rfl, D, n1, n2, eLf, hs1, hs2, hd, hdep, hfull, hin, hz, q⟩ := h
    simp only [Th.shD] at hd
    simp only [Th.dep] at hdep
    simp only [Th.nIn] at hin
    simp only [Th.full, Bool.and_eq_true] at hfull
    obtain ⟨xs, hx, hds⟩ := dp_lst hd
    have hlen : xs.length = ps.length := by rw [dps_len hds, shDL_eq, List.length_map]
    have hl2 := len_le_nIn hfull.2
    have hne : ps ≠ [] := fun e => by rw [e] at hfull; cases hfull.1
    have hpos := List.length_pos_iff.mpr hne
    refine ⟨_, (pss_cons (ps_set (i := 4) sc_l_stage.nd rfl (Or.inl rfl) (pe_ix ix_list (pe_lst (pa_cons (pe_lst (pa_cons pe_int (pa_cons pe_int (pa_cons pe_int (pa_cons pe_int (pa_cons pe_int pa_nil)))))) (pa_cons (pe_lst (pa_cons pe_int (pa_cons pe_int (pa_cons pe_int (pa_cons pe_int (pa_cons pe_int (pa_cons pe_int (pa_cons pe_int (pa_cons pe_int pa_nil))))))))) (pa_cons (pe_lst (pa_cons pe_int (pa_cons pe_int (pa_cons (pe_op op_pow pe_int pe_int) (pa_cons (pe_op op_sub (pe_op op_pow pe_int pe_int) pe_int) (pa_cons (pe_op op_pow pe_int pe_int) (pa_cons pe_int (pa_cons (pe_op op_pow pe_int pe_int) pa_nil)))))))) pa_nil)))) (pv 3) (fun _ _ => rfl)))
      (pss_cons (ps_par (i := 5) (j := 6) (by rfl) sc_l_stage.nd rfl rfl (by decide) rfl rfl (pa_cons (pe_call (ok_l_pick T) (hr.mono (by first | decide | omega)) (by rfl) T.g_l_pick T.F_l_pick.kp T.b_l_pick .nil pass0 (pa_cons (pv 0) (pa_cons (pv 4) pa_nil))) (pa_cons (pe_lst pa_nil) pa_nil)) (by rfl))
      (pss_cons (ps_for PassesOwn.never rfl (pi_zip (by rfl) T.m_zip (pa_cons (pe_call (ok_l_weights T) (hr.mono (by first | decide | omega)) (by rfl) T.g_l_weights T.F_l_weights.kp T.b_l_weights .nil pass0 (pa_cons (pv 0) (pa_cons (pe_callB call_len_seq (by rfl) T.m_len PySem.boot_len (pa_cons (pv 1) pa_nil)) (pa_cons (pv 3) pa_nil)))) (pa_cons (pv 1) pa_nil))) (pg_tup (by rfl) (pgs_cons (pg_name (i := 7) sc_l_stage.nd rfl (Or.inl rfl)) (pgs_cons (pg_name (i := 8) sc_l_stage.nd rfl (Or.inl rfl)) pgs_nil))) (pss_one (ps_expr (pe_bm PySem.F.plainAttrs_list PySem.F.slot_list_append PySem.F.type_list_append mt_append (pv 6) (pa_cons (pe_tup (pa_cons (pv 7) (pa_cons (pe_ifExp (pt_cmp (pc_isN (pv 8))) (pe_bm0 PySem.F.plainAttrs_list PySem.F.slot_list_pop PySem.F.type_list_pop mt_pop (pv 2)) (pe_call ih (hr.mono (by omega)) (by rfl) T.g_l_stage T.F_l_stage.kp T.b_l_stage .nil pass0 (pa_cons (pv 0) (pa_cons (pv 8) (pa_cons (pv 2) (pa_cons (pv 3) pa_nil)))))) pa_nil))) pa_nil)))))
      (pss_cons (ps_set (i := 9) sc_l_stage.nd rfl (Or.inl rfl) (pe_call (ok_l_pick T) (hr.mono (by first | decide | omega)) (by rfl) T.g_l_pick T.F_l_pick.kp T.b_l_pick .nil pass0 (pa_cons (pv 0) (pa_cons (pe_lst (pa_cons pe_int (pa_cons (pe_op op_sub (pv 5) pe_int) (pa_cons (pe_op op_fdivW (pv 5) pe_int) (pa_cons (pe_call (ok_l_draw T) (hr.mono (by first | decide | omega)) (by rfl) T.g_l_draw T.F_l_draw.kp T.b_l_draw .nil pass0 (pa_cons (pv 0) (pa_cons (pv 5) pa_nil))) pa_nil))))) pa_nil))))
      (pss_one (ps_ret (pe_tup (pa_cons (pv 5) (pa_cons (pv 9) (pa_cons (pe_callTy call_tuple_of (by rfl) T.m_tuple (by decide +kernel) (pa_cons (pv 6) pa_nil)) pa_nil)))))))))), ?_⟩
    walk_at "go"
    refine ⟨sz (by simp), fun p1 h1 => ?_⟩
    walk_at "go"
    refine ⟨sz (by simp), fun p2 h2 => ?_⟩
    walk_at "go"
    refine l_I ⟨by decide, by decide, by decide⟩ ?_
    walk_at "go"
    refine l_I ⟨by decide, by decide, by decide⟩ ?_
    walk_at "go"
    refine l_I ⟨by decide, by decide, by decide⟩ ?_
    walk_at "go"
    refine l_I ⟨by decide, by decide, by decide⟩ ?_
    walk_at "go"
    refine ⟨sz (by simp), fun p3 h3 => ?_⟩
    walk_at "go"
    refine ⟨sz (by simp), fun p4 h4 => ?_⟩
    walk_at "go"
    have s1 := same_new (o := .lst ([1, 2, 2, 3, 4].map V.int)) h1
    have s2 := same_new (o := .lst ([1, 2, 3, 4, 5, 7, 8, 16].map V.int)) h2
    have s3 := same_new (o := .lst (([1, 2, 10 ^ 30, 10 ^ 30 - 1, 2 ^ 64, 97, 10 ^ 15] : List Int).map V.int)) h3
    have s4 := same_new (o := .lst [.ref p1, .ref p2, .ref p3]) h4
    obtain ⟨m, ns, em, eH, hns, hmp⟩ := of_three (x1 := [1, 2, 2, 3, 4]) (x2 := [1, 2, 3, 4, 5, 7, 8, 16]) (x3 := [1, 2, 10 ^ 30, 10 ^ 30 - 1, 2 ^ 64, 97, 10 ^ 15]) hs1 hs2 (s4 _ _ (s3 _ _ (s2 _ _ upd_same))) (s4 _ _ (s3 _ _ upd_same)) (s4 _ _ upd_same)
    refine l_ixL (sq_l upd_same) em ?_
    have nm : H m = none := by
      rcases hmp with rfl | rfl | rfl
      · exact h1
      · exact s1.free h2
      · exact (s1.trans s2).free h3
    have sH := ((s1.trans s2).trans s3).trans s4
    have D4 := deck_new D sH
    have hm : m ∉ [dk, gr] := (deck_ne D nm).2.2
    have nsk : ∀ w ∈ ns, 1 ≤ w ∧ w ≤ 10 ^ 30 := by rcases hns with rfl | rfl | rfl <;> decide
    have nsl : ns ≠ [] ∧ ns.length ≤ 10 := by rcases hns with rfl | rfl | rfl <;> decide
    have lfD : lf ∉ [dk, gr] := by simp [n1, n2]
    have DD : ∀ z ∈ [dk, gr], z ∈ [dk, gr, lf] := fun z hz => by rcases List.mem_cons.mp hz with e | e <;> simp_all
    walk_at "go"
    refine ⟨dk, gr, m, ns.map V.int, rfl, D4, sq_l (hid_put hm eH), fun z => nsl.1 (List.map_eq_nil_iff.mp z), by rw [List.length_map]; omega, fun x H5 hx5 D5 s5 => ?_⟩
    obtain ⟨dv, hdv, rfl⟩ := List.mem_map.mp hx5
    have dvk := nsk dv hdv
    walk_at "go"
    refine ⟨Nat.zero_le _, fun pl npl => ?_⟩
    have s6 : Same H5 (upd H5 pl (.lst [])) := same_new npl
    have sA : Same (hid [dk, gr] H) (hid [dk, gr] (upd H5 pl (.lst []))) := (same_hid sH).trans (s5.trans (same_hid s6))
    have eLf6 := s6 _ _ (hid_get (s5 _ _ (hid_put lfD (sH _ _ eLf)))).2
    have D6 := deck_new D5 s6
    have pln : H pl = none := by
      cases e : H pl with
      | none => rfl
      | some o =>
        have z := stay s5 (deck_some D5) (some_of (sH _ _ e))
        rw [npl] at z; cases z
    have epl6 : (upd H5 pl (.lst [])) pl = some (.lst []) := upd_same
    generalize upd H5 pl (.lst []) = H6 at sA eLf6 D6 epl6 ⊢
    have ne3 : ∀ z, z ∉ [dk, gr] → z ≠ lf → z ∉ [dk, gr, lf] := fun z h1 h2 h3 => by
      simp only [List.mem_cons, List.not_mem_nil, or_false, not_or] at h1 h3
      rcases h3 with e | e | e
      · exact h1.1 e
      · exact h1.2 e
      · exact h2 e
    have toThree : ∀ {Ha Hb : Hp}, Same (hid [dk, gr] Ha) (hid [dk, gr] Hb) → Same (hid [dk, gr, lf] Ha) (hid [dk, gr, lf] Hb) := fun {Ha Hb} s z o e => by
      obtain ⟨k1, k2⟩ := hid_get e
      refine hid_put k1 (hid_get (s z o (hid_put (fun q => k1 (DD z q)) k2))).2
    have hx6 : SqL K H6 a xs := hid_same.seq ((toThree sA).seq hx)
    walk_at "go"
    refine ⟨_, _, rfl, .inl hx6, ?_⟩
    walk_at "go"
    refine ⟨dk, gr, _, sort, rfl, D6, by omega, by omega, hs1, hs2, fun ws pw H7 wok wl npw D7 eW s7 => ?_⟩
    obtain ⟨w1, w2, w3⟩ := deck_ne D6 npw
    obtain ⟨l1, l2, l3⟩ := deck_ne D pln
    have pwlf : pw ≠ lf := (ne_of_none eLf6 npw).symm
    have pllf : pl ≠ lf := (ne_of_none eLf pln).symm
    have pwpl : pw ≠ pl := (ne_of_none epl6 npw).symm
    have hpl := ne3 pl l3 pllf
    have hpw := ne3 pw w3 pwlf
    have sB := (toThree sA).trans (toThree s7)
    have hx7 : SqL K H7 a xs := hid_same.seq (sB.seq hx)
    have wlen : ws.length = ps.length := by rw [wl, Int.toNat_natCast, hlen]
    walk_at "go"
    refine ⟨pw, a, ws.map V.int, xs, rfl, sq_l eW, hx7, ?_⟩
    refine for_Z (xs := ws.map V.int) (ys := xs) (by rw [List.length_map, wlen, hlen]) (fun i σ H' => ∃ us rest zs y7 y8, σ = [some (.ref dk), some (.ref a), some (.ref lf), some (.int sort), some (.ref m), some (.int dv), some (.ref pl), y7, y8, none] ∧
      StI K H dk gr lf pl pw is ws ps us rest zs i H') ⟨[], is, [], none, none, rfl, ⟨rfl, rfl, (by simp [insL]), rfl, rfl, rfl, rfl, trivial, (hid_get (s7 _ _ (hid_put lfD eLf6))).2, D7, (hid_get (s7 _ _ (hid_put l3 epl6))).2, .nil, eW, sB⟩⟩
      (fun i σ H' h => ?_) (fun i x y T' σ H' hi1 hi2 h nT => ?_) (fun σ H' h => ?_)
    · obtain ⟨us, rest, zs, y7, y8, rfl, I⟩ := h
      exact ⟨sq_l I.epw, hid_same.seq (I.same.seq hx)⟩
    · obtain ⟨us, rest, zs, y7, y8, rfl, I0⟩ := h
      have I := I0.grow (same_new (o := .tup [x, y]) nT)
      rw [List.getElem?_map] at hi1
      cases ew : ws[i]? with
      | none => rw [ew] at hi1; cases hi1
      | some w0 =>
      rw [ew] at hi1
      obtain rfl := Option.some.inj hi1
      obtain ⟨pp, hp, hdp⟩ := sh_at hds hi2
      obtain ⟨pw1, t⟩ := pp
      have pm := List.mem_of_getElem? hp
      have pl2 : i < ps.length := (List.getElem?_eq_some_iff.mp hp).1
      have pd := depL_le.mp (show depL ps ≤ n by omega) _ pm
      have pf := fullL_iff.mp hfull.2 _ pm
      have nk := nInL_take hp
      have zl : zs.length = i := by rw [dps_len I.dps, toDL_eq, List.length_map, I.len]
      have lens := congrArg List.length I.isq
      rw [List.length_append, List.length_reverse, insL_len, I.inp] at lens
      have np1 := nIn_pos t pf
      refine g_gtup (sq_t upd_same) rfl ?_
      walk_at "go"
      refine l_tyL (sq_l I.epl) ?_
      walk_at "go"
      cases t with
      | inp k =>
        simp only [Th.shD] at hdp
        simp only [Th.nIn] at nk
        obtain rfl := dp_non hdp
        rw [decide_eq_true rfl, if_pos rfl]
        obtain ⟨rest1, v1, rfl⟩ : ∃ r v, rest = r ++ [v] := ⟨rest.dropLast, rest.getLast (fun e => by rw [e] at lens; simp at lens; omega), (List.dropLast_concat_getLast _).symm⟩
        walk_at "go"
        refine l_tyL (sq_l I.elf) ?_
        walk_at "go"
        refine l_pop (x := .int v1) (xs := rest1.map V.int) (by rw [I.elf, List.map_append]; rfl) ?_
        refine ⟨sz (by simp), fun p np => ?_⟩
        have D2 := deck_mut (o := .lst (rest1.map V.int)) I.dck n1 n2
        have s2 : Same (hid [dk, gr, lf] (upd H' T' (.tup [.int w0, .non]))) (hid [dk, gr, lf] (upd (upd H' T' (.tup [.int w0, .non])) lf (.lst (rest1.map V.int)))) := by
          rw [hid_upd (a := lf) (by simp)]
          exact Same.refl _
        have epl2 := (hid_get (s2 _ _ (hid_put hpl I.epl))).2
        walk_at "go"
        refine l_app (same_new np _ _ epl2) (sz1 (by omega)) ?_
        walk_at "go"
        exact ⟨_, _, _, _, _, rfl, I.next hp ew (u1 := .inp v1) ⟨rfl, rfl, rfl, rfl, trivial⟩ rfl upd_same D2 s2 (.int _) np hpl hpw pwpl pln⟩
      | st c1 d1 ps1 =>
        have hdp0 := hdp
        simp only [Th.shD] at hdp0
        obtain ⟨b, rfl⟩ := dp_list hdp0
        rw [decide_eq_false (by intro z; cases z), if_neg (by decide)]
        walk_at "go"
        refine ⟨dk, gr, b, lf, sort, rest, c1, d1, ps1, rfl, I.dck, n1, n2, I.elf, hs1, hs2, dp_same I.same hdp, pd, pf, ?_, by omega, fun u1 rest1 p' H2 md _ er hdu D2 elf2 s2 => ?_⟩
        · have : (Th.st c1 d1 ps1).nIn + nInL (ps.take i) ≤ nInL ps := by rw [Nat.add_comm]; exact nk
          omega
        refine ⟨sz (by simp), fun p np => ?_⟩
        have epl2 := (hid_get (s2 _ _ (hid_put hpl I.epl))).2
        walk_at "go"
        refine l_app (same_new np _ _ epl2) (sz1 (by omega)) ?_
        walk_at "go"
        exact ⟨_, _, _, _, _, rfl, I.next hp ew md er elf2 D2 s2 hdu np hpl hpw pwpl pln⟩
    · obtain ⟨us, rest, zs, y7, y8, rfl, I⟩ := h
      rw [List.length_map, wlen] at I
      have ulen := I.len
      walk_at "go"
      refine l_I ⟨by decide, by decide +kernel⟩ ?_
      walk_at "go"
      refine ⟨dk, gr, dv, rfl, I.dck, by omega, fun v H8 v0 v1 D8 s8 => ?_⟩
      refine ⟨sz (by simp), fun p8 np8 => ?_⟩
      have s9 := same_new (o := .lst ([0, dv - 1, dv / 2, v].map V.int)) np8
      have D9 := deck_new D8 s9
      obtain ⟨_, _, d9⟩ := deck_ne D8 np8
      refine ⟨dk, gr, p8, [0, dv - 1, dv / 2, v].map V.int, rfl, D9, sq_l (hid_put d9 upd_same), by simp, by simp, fun x H10 hx10 D10 s10 => ?_⟩
      obtain ⟨c0, hc0, rfl⟩ := List.mem_map.mp hx10
      have hc : 0 ≤ c0 ∧ c0 < dv := by
        simp only [List.mem_cons, List.not_mem_nil, or_false] at hc0
        rcases hc0 with rfl | rfl | rfl | rfl
        · omega
        · omega
        · omega
        · omega
      have s11 := (s8.trans (same_hid s9)).trans s10
      have s12 := toThree s11
      have I11 := hid_get (s12 _ _ (hid_put hpl I.epl))
      have lf11 := (hid_get (s11 _ _ (hid_put lfD I.elf))).2
      walk_at "go"
      refine ⟨pl, zs, rfl, .inl ⟨sq_l I11.2, fun l nl => ?_⟩⟩
      refine ⟨sz (by simp), fun p np => ?_⟩
      have sX := same_new (o := .tup zs) nl
      have sY := same_new (o := .tup [.int dv, .int c0, .ref l]) np
      have e1 : (upd H10 l (.tup zs)) l = some (.tup zs) := upd_same
      have dz := dps_same (sX.trans sY) (dps_t (ts_deck I.dck s11) (toDL_t us) I.dps)
      have us0 : ps.take ps.length = ps := List.take_length
      have f1 := I.st
      have f2 := I.inp
      have f3 := I.dep
      have f4 := I.wt
      rw [us0] at f1 f2 f3
      rw [← wlen, List.take_length] at f4
      refine q (.st dv c0 us) rest p _ ⟨?_, ?_, ?_, ?_, ?_⟩ ⟨_, _, _, rfl⟩ ?_ ?_ (deck_new D10 (sX.trans sY)) ((sX.trans sY) _ _ lf11) ((I.same.trans s12).trans (same_hid (sX.trans sY)))
      · simp only [Th.nSt, f1]
      · simp only [Th.nIn, f2]
      · simp only [Th.dep, f3]
      · simp only [Th.full, Bool.and_eq_true]
        refine ⟨?_, I.full⟩
        cases us with
        | nil => simp only [List.length_nil] at ulen; omega
        | cons a b => rfl
      · simp only [Th.good]
        exact ⟨⟨dvk.1, dvk.2, hc.1, hc.2, by rw [f4]; exact wok⟩, I.good⟩
      · simp only [Th.ins]; exact I.isq
      · simp only [Th.toD]
        exact .tup (sq_t upd_same) (.cons (.int _) (.cons (.int _) (.cons (.tup (sq_t (sY _ _ e1)) dz) .nil)))

end
end SC
namespace SC
open PySem PySem.Spec PyProof.Rows L2 StrLaws
local macro_rules | `(tactic| walk_at "go") => `(tactic| ((try dsimp only [cxOf, Cx.nox, Cx.wish]); repeat (first
  | (with_reducible refine g_seq ?_)
  | (with_reducible refine g_asg ?_)
  | (with_reducible refine g_asg2 ?_)
  | (with_reducible refine g_ret ?_)
  | (with_reducible refine g_drop ?_)
  | (with_reducible refine g_next ?_)
  | (with_reducible refine g_ifs ?_)
  | (with_reducible refine g_par ?_)
  | (with_reducible refine g_par3 ?_)
  | ((with_reducible refine' g_var ?hv ?_); (case hv => exact rfl))
  | (with_reducible refine g_c ?_)
  | ((with_reducible refine' g_aug ?hv ?_); (case hv => exact rfl))
  | (with_reducible refine l_ip ?_)
  | (with_reducible refine g_op ?_)
  | (with_reducible refine g_un ?_)
  | (with_reducible refine g_cons ?_)
  | (with_reducible refine g_nil ?_)
  | (with_reducible refine g_cb ?_)
  | (with_reducible refine g_call ?_)
  | (with_reducible refine g_callK ?_)
  | (with_reducible refine g_test ?_)
  | (with_reducible refine g_b ?_)
  | (with_reducible refine g_not ?_)
  | (with_reducible refine g_chain ?_)
  | (with_reducible refine g_notV ?_)
  | (with_reducible refine g_and ?_)
  | (with_reducible refine g_or ?_)
  | (with_reducible refine g_ifx ?_)
  | (with_reducible refine g_isN ?_)
  | (with_reducible refine g_notN ?_)
  | (with_reducible refine g_andV ?_)
  | (with_reducible refine g_bm ?_)
  | (with_reducible refine g_bm0 ?_)
  | (with_reducible refine g_sl ?_)
  | (with_reducible refine g_part ?_)
  | (with_reducible refine g_nopart ?_)
  | (with_reducible refine g_dget ?_)
  | (with_reducible refine g_dput ?_)
  | (with_reducible refine g_tup ?_)
  | (with_reducible refine g_lst ?_)
  | (with_reducible refine g_yes ?_)
  | (with_reducible refine g_name ?_)
  | (with_reducible refine g_gsub ?_)
  | (with_reducible refine g_iList ?_)
  | (with_reducible refine g_iTup ?_)
  | (with_reducible refine g_for ?_)
  | (with_reducible refine g_lc ?_)
  | (with_reducible refine g_rng1 ?_)
  | (with_reducible refine g_iZip ?_)
  | (with_reducible refine g_allT ?_)
  | (with_reducible refine g_iZipA ?_)
  | (with_reducible refine g_iZip3 ?_)
  | (with_reducible refine g_dcT ?_)
  | (with_reducible refine g_dc ?_)
  | (with_reducible refine g_iEnumT ?_)
  | (with_reducible refine g_lstRg ?_)
  | (with_reducible refine g_rg1 ?_)
  | (with_reducible refine g_gcons ?_)
  | (with_reducible refine g_gnil ?_)
  | (with_reducible refine l_bl ?_)
  | (with_reducible refine l_int ?_)
  | (with_reducible refine l_two ?_)
  | (with_reducible refine l_three ?_)
  | (with_reducible refine l_I0 ?_)
  | (with_reducible refine l_U ?_)
  | dsimp only)))
section
variable {P : Program} {w : World} {K : PySem.W.Frag} {mg : Str → Option Value} {base : Heap}
/-! ### _law_plan -/
def spPlan (K : PySem.W.Frag) : Sp := fun vs H Q _ => ∃ dk gr many deep wide sort, vs = [.ref dk, .int many, .int deep, .int wide, .int sort] ∧ Deck H dk gr ∧ 1 ≤ many ∧ many ≤ 12 ∧ 1 ≤ deep ∧ deep ≤ 8 ∧ 1 ≤ wide ∧ wide ≤ 24 ∧ 0 ≤ sort ∧ sort ≤ 2 ∧
  ∀ (u : Th) (p : Addr) (H' : Hp), IsPlan u → Dp K H' (.ref p) u.toD → Deck H' dk gr → Same (hid [dk, gr] H) (hid [dk, gr] H') → Q (.ref p) H'
theorem rngI_len (n : Nat) : (rngI n).length = n := by unfold rngI; rw [List.length_map, List.length_range]
theorem sh_all {H H' : Hp} {dk gr p : Addr} {L : List (V × Th)} (D : Deck H dk gr) (np : H p = none) (e : H' p = some (.lst (L.map (·.1)))) (h : ∀ q ∈ L, Dp K (fresh H H') q.1 q.2.shD) : Dp K (hid [dk, gr] H') (.ref p) (stOf L).shD := by
  rw [stOf_sh]
  have hp := (deck_ne D np).2.2
  exact .lst (sq_l (hid_put hp e)) (dps_map (f := fun z : V × Th => z.1) fun z hz => dp_same (hidP_hid (deck_some D)) (h z hz))
theorem made_plan {t u : Th} {n : Nat} {is rest : List Int} (m : Made t u) (hs : ∃ c d ps, u = .st c d ps) (hn : t.nIn = n) (hp : is.Perm (rngI n)) (e : is = rest ++ u.ins.reverse) (h1 : t.nSt ≤ 12) (h2 : t.dep ≤ 8) (h3 : n ≤ 24) : IsPlan u := by
  have hl := hp.length_eq
  rw [rngI_len, e, List.length_append, List.length_reverse, ins_len, m.inp, hn] at hl
  have hr : rest = [] := List.eq_nil_of_length_eq_zero (by omega)
  subst hr
  rw [List.nil_append] at e
  refine ⟨hs, m.good, m.full, by rw [m.st]; exact h1, by rw [m.dep]; exact h2, by rw [m.inp, hn]; exact h3, ?_⟩
  rw [m.inp, hn]
  refine (List.reverse_perm _).symm.trans ?_
  rw [← e]
  exact hp
theorem ok_l_plan (T : Tx K mg) : FnOk P w K mg base CX0 45 T.f_l_plan T.fd_l_plan ["deck", "many", "deep", "wide", "sort"] (spPlan K) := by
  refine T.F_l_plan.ok sc_l_plan (fun vs H Q E h => ?_) (fun cdv A outer s H vs Q E hr h => ?_)
  · obtain ⟨_, _, _, _, _, _, rfl, _⟩ := h
    rfl
  obtain ⟨dk, gr, many, deep, wide, sort, rfl, D, hm1, hm2, hd1, hd2, hw1, hw2, hs1, hs2, q⟩ := h
  refine ⟨_, (pss_cons (ps_set (i := 5) sc_l_plan.nd rfl (Or.inl rfl) (pe_call (ok_l_shape T 30) (hr.mono (by first | decide | omega)) (by rfl) T.g_l_shape T.F_l_shape.kp T.b_l_shape .nil pass0 (pa_cons (pv 0) (pa_cons (pv 1) (pa_cons (pv 2) (pa_cons (pv 3) pa_nil))))))
      (pss_cons (ps_for PassesOwn.never rfl (pi_tup (pe_tup (pa_cons pe_int (pa_cons pe_int pa_nil)))) (pg_name (i := 6) sc_l_plan.nd rfl (Or.inl rfl)) (pss_one (ps_if (pt_cmpR op_gt (pe_call (ok_l_many_inputs T 40) (hr.mono (by first | decide | omega)) (by rfl) T.g_l_many_inputs T.F_l_many_inputs.kp T.b_l_many_inputs .nil pass0 (pa_cons (pv 5) pa_nil)) pe_int (nomark _)) (pss_one (ps_set (i := 5) sc_l_plan.nd rfl (Or.inl rfl) (pe_call (ok_l_shape T 30) (hr.mono (by first | decide | omega)) (by rfl) T.g_l_shape T.F_l_shape.kp T.b_l_shape .nil pass0 (pa_cons (pv 0) (pa_cons (pe_callB (call_min2 rfl) (by rfl) T.m_min (by decide +kernel) (pa_cons (pv 1) (pa_cons pe_int pa_nil))) (pa_cons (pv 2) (pa_cons (pv 6) pa_nil))))))) pss_nil)))
      (pss_one (ps_ret (pe_call (ok_l_stage T 40) (hr.mono (by first | decide | omega)) (by rfl) T.g_l_stage T.F_l_stage.kp T.b_l_stage .nil pass0 (pa_cons (pv 0) (pa_cons (pv 5) (pa_cons (pe_call (ok_l_mixed T) (hr.mono (by first | decide | omega)) (by rfl) T.g_l_mixed T.F_l_mixed.kp T.b_l_mixed .nil pass0 (pa_cons (pv 0) (pa_cons (pe_listRg rfl (by rfl) T.m_list (prg_1 (by rfl) T.m_range (pe_call (ok_l_many_inputs T 40) (hr.mono (by first | decide | omega)) (by rfl) T.g_l_many_inputs T.F_l_many_inputs.kp T.b_l_many_inputs .nil pass0 (pa_cons (pv 5) pa_nil)))) pa_nil))) (pa_cons (pv 4) pa_nil))))))))), ?_⟩
  walk_at "go"
  refine ⟨dk, gr, many, deep, wide, rfl, D, hm1, by omega, hd1, by omega, by omega, hw1, by omega, fun L p H1 ok np D1 s1 ep hdp => ?_⟩
  walk_at "go"
  refine ⟨sz (by simp), fun t nt => ?_⟩
  refine ⟨t, rfl, ⟨_, sq_t upd_same⟩, ?_⟩
  have s2 := same_new (o := .tup [V.int 2, V.int 1]) nt
  have et : (upd H1 t (.tup [V.int 2, V.int 1])) t = some (.tup [V.int 2, V.int 1]) := upd_same
  have hd0 := dp_same (same_hid s2) (sh_all D np ep hdp)
  have D2 := deck_new D1 s2
  have ss := s1.trans (same_hid s2)
  generalize upd H1 t (.tup [V.int 2, V.int 1]) = H2 at et hd0 D2 ss ⊢
  refine for_T (xs := [.int 2, .int 1]) (fun i σ H' => ∃ sh ps w2 y6, σ = [some (.ref dk), some (.int many), some (.int deep), some (.int wide), some (.int sort), some (.ref sh), y6] ∧
    ShOk (.st 0 0 ps) many deep w2 ∧ w2 ≤ 24 ∧ 1 ≤ w2 ∧ (i = 2 → (Th.st 0 0 ps).nIn ≤ 24) ∧ Deck H' dk gr ∧ Dp K (hid [dk, gr] H') (.ref sh) (Th.st 0 0 ps).shD ∧ Same (hid [dk, gr] H) (hid [dk, gr] H') ∧ SqT K H' t [.int 2, .int 1])
    ⟨p, _, wide, none, rfl, ok, hw2, hw1, fun e => (by cases e), D2, hd0, ss, sq_t et⟩ (fun i σ H' _ h => ?_) (fun i x σ H' hi h => ?_) (fun σ H' h => ?_)
  · obtain ⟨_, _, _, _, _, _, _, _, _, _, _, _, h⟩ := h
    exact h
  · obtain ⟨sh, ps, w2, y6, rfl, ok, h1, h2, h3, D3, hd3, s3, ht⟩ := h
    have nb : (Th.st 0 0 ps).nIn ≤ 300 := by
      have a := ok.inp
      have b := ok.st
      have c : w2 * ((Th.st 0 0 ps).nSt : Int) ≤ 24 * 12 := Int.mul_le_mul h1 (by omega) (by omega) (by omega)
      omega
    have hx : ∃ ls, x = .int ls ∧ 1 ≤ ls ∧ ls ≤ 2 ∧ (i = 1 → ls = 1) ∧ i ≤ 1 := by
      rcases i with _ | _ | i
      · cases hi; exact ⟨2, rfl, by omega, by omega, fun e => (by cases e), by omega⟩
      · cases hi; exact ⟨1, rfl, by omega, by omega, fun _ => rfl, by omega⟩
      · simp at hi
    obtain ⟨ls, rfl, l1, l2, l3, i1⟩ := hx
    walk_at "go"
    refine ⟨sh, 0, 0, _, rfl, dp_same hid_same hd3, by have := ok.dep; omega, ok.full, by omega, fun H4 s4 => ?_⟩
    walk_at "go"
    have D4 := deck_new D3 s4
    have hd4 := dp_same (same_hid s4) hd3
    have s34 := s3.trans (same_hid (D := [dk, gr]) s4)
    have ht4 := same_t s4 ht
    refine iteB (fun h5 => ?_) (fun h5 => ?_)
    · walk_at "go"
      refine ⟨_, _, rfl, ?_⟩
      rw [if_neg (by omega)]
      walk_at "go"
      refine ⟨dk, gr, many, deep, ls, rfl, D4, hm1, by omega, hd1, by omega, by omega, l1, by omega, fun L' p' H5 ok' np' D5 s5 ep' hdp' => ?_⟩
      walk_at "go"
      refine ⟨p', _, ls, _, rfl, ok', by omega, l1, fun e => ?_, D5, sh_all D4 np' ep' hdp', s34.trans s5, ?_⟩
      · have a := ok'.inp
        have b := ok'.st
        rw [l3 (by omega)] at a
        show (stOf L').nIn ≤ 24
        omega
      · rcases ht4 with (h | ⟨o, h⟩) | h
        · exact .inl (.inl (ts_deck D4 s5 _ _ h rfl))
        · exact .inl (.inr ⟨o, ts_deck D4 s5 _ _ h rfl⟩)
        · exact .inr h
    · walk_at "go"
      exact ⟨sh, ps, w2, _, rfl, ok, h1, h2, fun _ => by omega, D4, hd4, s34, ht4⟩
  · obtain ⟨sh, ps, w2, y6, rfl, ok, h1, h2, h3, D3, hd3, s3, ht⟩ := h
    have hin := h3 rfl
    have hdep := ok.dep
    have hst := ok.st
    walk_at "go"
    refine ⟨sh, 0, 0, _, rfl, dp_same hid_same hd3, by omega, ok.full, by omega, fun H4 s4 => ?_⟩
    refine ⟨_, rfl, ⟨by decide, by decide, by omega, by omega, by omega⟩, fun l nl => ?_⟩
    walk_at "go"
    rw [rgV_eq]
    have s5 := same_new (o := .lst ((rngI (Th.st 0 0 ps).nIn).map V.int)) nl
    have D5 := deck_new (deck_new D3 s4) s5
    obtain ⟨_, _, l3⟩ := deck_ne (deck_new D3 s4) nl
    refine ⟨dk, gr, l, (rngI (Th.st 0 0 ps).nIn).map V.int, rfl, D5, sq_l (hid_put l3 upd_same), fun x hx => ?_, by rw [List.length_map, rngI_len]; omega, fun ys lf H6 hp nlf D6 elf s6 => ?_⟩
    · obtain ⟨i, _, rfl⟩ := List.mem_map.mp hx
      exact nm_int i
    obtain ⟨is, hperm, rfl⟩ := perm_map hp
    walk_at "go"
    obtain ⟨f1, f2, f3⟩ := deck_ne D5 nlf
    have hl : is.length = (Th.st 0 0 ps).nIn := by rw [hperm.length_eq, rngI_len]
    have sx := (same_hid (D := [dk, gr]) (s4.trans s5)).trans s6
    have hd6 := dp_same sx hd3
    refine ⟨dk, gr, sh, lf, sort, is, 0, 0, ps, rfl, D6, f1, f2, elf, hs1, hs2, ?_, by omega, ok.full, by omega, by omega, fun u rest p' H7 md hsu er hdu D7 _ s7 => ?_⟩
    · exact dp_same (hid_third (same_hid (s4.trans s5)) s6 nlf) hd3
    · refine q u p' H7 (made_plan md hsu rfl hperm er (by omega) (by omega) hin) hdu D7 (((hid_third (s3.trans (same_hid (s4.trans s5))) s6 nlf).trans s7).trans three_two)

end
end SC
namespace SC
open PySem PySem.Spec PyProof.Rows L2 StrLaws
local macro_rules | `(tactic| walk_at "go") => `(tactic| ((try dsimp only [cxOf, Cx.nox, Cx.wish]); repeat (first
  | (with_reducible refine g_seq ?_)
  | (with_reducible refine g_asg ?_)
  | (with_reducible refine g_asg2 ?_)
  | (with_reducible refine g_ret ?_)
  | (with_reducible refine g_drop ?_)
  | (with_reducible refine g_next ?_)
  | (with_reducible refine g_ifs ?_)
  | (with_reducible refine g_par ?_)
  | (with_reducible refine g_par3 ?_)
  | ((with_reducible refine' g_var ?hv ?_); (case hv => exact rfl))
  | (with_reducible refine g_c ?_)
  | ((with_reducible refine' g_aug ?hv ?_); (case hv => exact rfl))
  | (with_reducible refine l_ip ?_)
  | (with_reducible refine g_op ?_)
  | (with_reducible refine g_un ?_)
  | (with_reducible refine g_cons ?_)
  | (with_reducible refine g_nil ?_)
  | (with_reducible refine g_cb ?_)
  | (with_reducible refine g_call ?_)
  | (with_reducible refine g_callK ?_)
  | (with_reducible refine g_test ?_)
  | (with_reducible refine g_b ?_)
  | (with_reducible refine g_not ?_)
  | (with_reducible refine g_chain ?_)
  | (with_reducible refine g_notV ?_)
  | (with_reducible refine g_and ?_)
  | (with_reducible refine g_or ?_)
  | (with_reducible refine g_ifx ?_)
  | (with_reducible refine g_isN ?_)
  | (with_reducible refine g_notN ?_)
  | (with_reducible refine g_andV ?_)
  | (with_reducible refine g_bm ?_)
  | (with_reducible refine g_bm0 ?_)
  | (with_reducible refine g_sl ?_)
  | (with_reducible refine g_part ?_)
  | (with_reducible refine g_nopart ?_)
  | (with_reducible refine g_dget ?_)
  | (with_reducible refine g_dput ?_)
  | (with_reducible refine g_tup ?_)
  | (with_reducible refine g_lst ?_)
  | (with_reducible refine g_yes ?_)
  | (with_reducible refine g_name ?_)
  | (with_reducible refine g_gsub ?_)
  | (with_reducible refine g_iList ?_)
  | (with_reducible refine g_iTup ?_)
  | (with_reducible refine g_for ?_)
  | (with_reducible refine g_lc ?_)
  | (with_reducible refine g_rng1 ?_)
  | (with_reducible refine g_iZip ?_)
  | (with_reducible refine g_allT ?_)
  | (with_reducible refine g_iZipA ?_)
  | (with_reducible refine g_iZip3 ?_)
  | (with_reducible refine g_dcT ?_)
  | (with_reducible refine g_dc ?_)
  | (with_reducible refine g_iEnumT ?_)
  | (with_reducible refine g_lstRg ?_)
  | (with_reducible refine g_rg1 ?_)
  | (with_reducible refine g_gcons ?_)
  | (with_reducible refine g_gnil ?_)
  | (with_reducible refine l_bl ?_)
  | (with_reducible refine l_int ?_)
  | (with_reducible refine l_two ?_)
  | (with_reducible refine l_three ?_)
  | (with_reducible refine l_I0 ?_)
  | (with_reducible refine l_U ?_)
  | dsimp only)))
section
variable {P : Program} {w : World} {K : PySem.W.Frag} {mg : Str → Option Value} {base : Heap}
/-! ### _law_drawn -/
def spDrawn (K : PySem.W.Frag) : Sp := fun vs H Q _ => ∃ dk gr turn, vs = [.ref dk, .int turn] ∧ Deck H dk gr ∧ 0 ≤ turn ∧
  ∀ (u : Th) (p : Addr) (H' : Hp), IsPlan u → Dp K H' (.ref p) u.toD → Deck H' dk gr → Same (hid [dk, gr] H) (hid [dk, gr] H') → Q (.ref p) H'
theorem ok_l_drawn (T : Tx K mg) : FnOk P w K mg base CX0 46 T.f_l_drawn T.fd_l_drawn ["deck", "turn"] (spDrawn K) := by
  refine T.F_l_drawn.ok sc_l_drawn (fun vs H Q E h => ?_) (fun cdv A outer s H vs Q E hr h => ?_)
  · obtain ⟨_, _, _, rfl, _⟩ := h
    rfl
  obtain ⟨dk, gr, turn, rfl, D, h0, q⟩ := h
  refine ⟨_, (pss_cons (ps_asg (pe_ix ix_list (pe_lst (pa_cons (pe_tup (pa_cons pe_int (pa_cons pe_int (pa_cons pe_int pa_nil)))) (pa_cons (pe_tup (pa_cons pe_int (pa_cons pe_int (pa_cons pe_int pa_nil)))) (pa_cons (pe_tup (pa_cons pe_int (pa_cons pe_int (pa_cons pe_int pa_nil)))) (pa_cons (pe_tup (pa_cons pe_int (pa_cons pe_int (pa_cons pe_int pa_nil)))) (pa_cons (pe_tup (pa_cons pe_int (pa_cons pe_int (pa_cons pe_int pa_nil)))) (pa_cons (pe_tup (pa_cons pe_int (pa_cons pe_int (pa_cons pe_int pa_nil)))) pa_nil))))))) (pe_op op_modN (pv 1) pe_int) (fun _ _ => rfl)) (pg_tup (by rfl) (pgs_cons (pg_name (i := 2) sc_l_drawn.nd rfl (Or.inl rfl)) (pgs_cons (pg_name (i := 3) sc_l_drawn.nd rfl (Or.inl rfl)) (pgs_cons (pg_name (i := 4) sc_l_drawn.nd rfl (Or.inl rfl)) pgs_nil)))))
      (pss_one (ps_ret (pe_call (ok_l_plan T) (hr.mono (by first | decide | omega)) (by rfl) T.g_l_plan T.F_l_plan.kp T.b_l_plan .nil pass0 (pa_cons (pv 0) (pa_cons (pv 2) (pa_cons (pv 3) (pa_cons (pv 4) (pa_cons (pe_call (ok_l_pick T) (hr.mono (by first | decide | omega)) (by rfl) T.g_l_pick T.F_l_pick.kp T.b_l_pick .nil pass0 (pa_cons (pv 0) (pa_cons (pe_lst (pa_cons pe_int (pa_cons pe_int (pa_cons pe_int (pa_cons pe_int pa_nil))))) pa_nil))) pa_nil))))))))), ?_⟩
  walk_at "go"
  refine ⟨sz (by simp), fun p1 n1 => ?_⟩
  walk_at "go"
  refine ⟨sz (by simp), fun p2 n2 => ?_⟩
  walk_at "go"
  refine ⟨sz (by simp), fun p3 n3 => ?_⟩
  walk_at "go"
  refine ⟨sz (by simp), fun p4 n4 => ?_⟩
  walk_at "go"
  refine ⟨sz (by simp), fun p5 n5 => ?_⟩
  walk_at "go"
  refine ⟨sz (by simp), fun p6 n6 => ?_⟩
  walk_at "go"
  refine ⟨sz (by simp), fun l nl => ?_⟩
  walk_at "go"
  refine l_I (by omega) ?_
  walk_at "go"
  have s1 := same_new (o := .tup [.int 1, .int 1, .int 5]) n1
  have s2 := same_new (o := .tup [.int 3, .int 3, .int 2]) n2
  have s3 := same_new (o := .tup [.int 5, .int 4, .int 2]) n3
  have s4 := same_new (o := .tup [.int 2, .int 2, .int 3]) n4
  have s5 := same_new (o := .tup [.int 12, .int 8, .int 1]) n5
  have s6 := same_new (o := .tup [.int 6, .int 8, .int 2]) n6
  have s7 := same_new (o := .lst [.ref p1, .ref p2, .ref p3, .ref p4, .ref p5, .ref p6]) nl
  have sH := s1.trans (s2.trans (s3.trans (s4.trans (s5.trans (s6.trans s7)))))
  have e1 := (s2.trans (s3.trans (s4.trans (s5.trans (s6.trans s7))))) _ _ upd_same
  have e2 := (s3.trans (s4.trans (s5.trans (s6.trans s7)))) _ _ upd_same
  have e3 := (s4.trans (s5.trans (s6.trans s7))) _ _ upd_same
  have e4 := (s5.trans (s6.trans s7)) _ _ upd_same
  have e5 := (s6.trans s7) _ _ upd_same
  have e6 := s7 _ _ upd_same
  have e7 : (upd (upd (upd (upd (upd (upd (upd H p1 (.tup [.int 1, .int 1, .int 5])) p2 (.tup [.int 3, .int 3, .int 2])) p3 (.tup [.int 5, .int 4, .int 2])) p4 (.tup [.int 2, .int 2, .int 3])) p5 (.tup [.int 12, .int 8, .int 1])) p6 (.tup [.int 6, .int 8, .int 2])) l (.lst [.ref p1, .ref p2, .ref p3, .ref p4, .ref p5, .ref p6])) l = some (.lst [.ref p1, .ref p2, .ref p3, .ref p4, .ref p5, .ref p6]) := upd_same
  generalize upd (upd (upd (upd (upd (upd (upd H p1 (.tup [.int 1, .int 1, .int 5])) p2 (.tup [.int 3, .int 3, .int 2])) p3 (.tup [.int 5, .int 4, .int 2])) p4 (.tup [.int 2, .int 2, .int 3])) p5 (.tup [.int 12, .int 8, .int 1])) p6 (.tup [.int 6, .int 8, .int 2])) l (.lst [.ref p1, .ref p2, .ref p3, .ref p4, .ref p5, .ref p6]) = H1 at sH e1 e2 e3 e4 e5 e6 e7 ⊢
  have pick : ∃ (p : Addr) (a b c : Int), atI [V.ref p1, V.ref p2, V.ref p3, V.ref p4, V.ref p5, V.ref p6] (turn.fmod 6) = some (.ref p) ∧ H1 p = some (.tup [.int a, .int b, .int c]) ∧ 1 ≤ a ∧ a ≤ 12 ∧ 1 ≤ b ∧ b ≤ 8 ∧ 1 ≤ c ∧ c ≤ 24 := by
    have hm : turn.fmod 6 = turn % 6 := Int.fmod_eq_emod_of_nonneg _ (by decide)
    rw [hm]
    have : turn % 6 = 0 ∨ turn % 6 = 1 ∨ turn % 6 = 2 ∨ turn % 6 = 3 ∨ turn % 6 = 4 ∨ turn % 6 = 5 := by omega
    rcases this with e | e | e | e | e | e <;> rw [e]
    · exact ⟨p1, _, _, _, rfl, e1, by decide⟩
    · exact ⟨p2, _, _, _, rfl, e2, by decide⟩
    · exact ⟨p3, _, _, _, rfl, e3, by decide⟩
    · exact ⟨p4, _, _, _, rfl, e4, by decide⟩
    · exact ⟨p5, _, _, _, rfl, e5, by decide⟩
    · exact ⟨p6, _, _, _, rfl, e6, by decide⟩
  obtain ⟨p, a, b, c, ea, ep, a1, a2, b1, b2, c1, c2⟩ := pick
  refine l_ixL (sq_l e7) ea ?_
  refine g_gtup (sq_t ep) rfl ?_
  walk_at "go"
  refine ⟨sz (by simp), fun m nm => ?_⟩
  have s8 := same_new (o := .lst ([0, 1, 1, 2].map V.int)) nm
  have D2 := deck_new (deck_new D sH) s8
  obtain ⟨_, _, m3⟩ := deck_ne (deck_new D sH) nm
  refine ⟨dk, gr, m, [0, 1, 1, 2].map V.int, rfl, D2, sq_l (hid_put m3 upd_same), by simp, by simp, fun x H2 hx D3 s9 => ?_⟩
  obtain ⟨st, hst, rfl⟩ := List.mem_map.mp hx
  have hs : 0 ≤ st ∧ st ≤ 2 := by
    simp only [List.mem_cons, List.not_mem_nil, or_false] at hst
    omega
  walk_at "go"
  refine ⟨dk, gr, a, b, c, st, rfl, D3, a1, a2, b1, b2, c1, c2, hs.1, hs.2, fun u p H3 hu hd D4 s10 => ?_⟩
  exact q u p H3 hu hd D4 ((same_hid (sH.trans s8)).trans (s9.trans s10))

end
end SC
namespace SC
open PySem PySem.Spec PyProof.Rows L2 StrLaws
local macro_rules | `(tactic| walk_at "go") => `(tactic| ((try dsimp only [cxOf, Cx.nox, Cx.wish]); repeat (first
  | (with_reducible refine g_seq ?_)
  | (with_reducible refine g_asg ?_)
  | (with_reducible refine g_asg2 ?_)
  | (with_reducible refine g_ret ?_)
  | (with_reducible refine g_drop ?_)
  | (with_reducible refine g_next ?_)
  | (with_reducible refine g_ifs ?_)
  | (with_reducible refine g_par ?_)
  | (with_reducible refine g_par3 ?_)
  | ((with_reducible refine' g_var ?hv ?_); (case hv => exact rfl))
  | (with_reducible refine g_c ?_)
  | ((with_reducible refine' g_aug ?hv ?_); (case hv => exact rfl))
  | (with_reducible refine l_ip ?_)
  | (with_reducible refine g_op ?_)
  | (with_reducible refine g_un ?_)
  | (with_reducible refine g_cons ?_)
  | (with_reducible refine g_nil ?_)
  | (with_reducible refine g_cb ?_)
  | (with_reducible refine g_call ?_)
  | (with_reducible refine g_callK ?_)
  | (with_reducible refine g_test ?_)
  | (with_reducible refine g_b ?_)
  | (with_reducible refine g_not ?_)
  | (with_reducible refine g_chain ?_)
  | (with_reducible refine g_notV ?_)
  | (with_reducible refine g_and ?_)
  | (with_reducible refine g_or ?_)
  | (with_reducible refine g_ifx ?_)
  | (with_reducible refine g_isN ?_)
  | (with_reducible refine g_notN ?_)
  | (with_reducible refine g_andV ?_)
  | (with_reducible refine g_bm ?_)
  | (with_reducible refine g_bm0 ?_)
  | (with_reducible refine g_sl ?_)
  | (with_reducible refine g_part ?_)
  | (with_reducible refine g_nopart ?_)
  | (with_reducible refine g_dget ?_)
  | (with_reducible refine g_dput ?_)
  | (with_reducible refine g_tup ?_)
  | (with_reducible refine g_lst ?_)
  | (with_reducible refine g_yes ?_)
  | (with_reducible refine g_name ?_)
  | (with_reducible refine g_gsub ?_)
  | (with_reducible refine g_iList ?_)
  | (with_reducible refine g_iTup ?_)
  | (with_reducible refine g_for ?_)
  | (with_reducible refine g_lc ?_)
  | (with_reducible refine g_rng1 ?_)
  | (with_reducible refine g_iZip ?_)
  | (with_reducible refine g_allT ?_)
  | (with_reducible refine g_iZipA ?_)
  | (with_reducible refine g_iZip3 ?_)
  | (with_reducible refine g_dcT ?_)
  | (with_reducible refine g_dc ?_)
  | (with_reducible refine g_iEnumT ?_)
  | (with_reducible refine g_lstRg ?_)
  | (with_reducible refine g_rg1 ?_)
  | (with_reducible refine g_gcons ?_)
  | (with_reducible refine g_gnil ?_)
  | (with_reducible refine l_bl ?_)
  | (with_reducible refine l_int ?_)
  | (with_reducible refine l_two ?_)
  | (with_reducible refine l_three ?_)
  | (with_reducible refine l_I0 ?_)
  | (with_reducible refine l_U ?_)
  | dsimp only)))
section
variable {P : Program} {w : World} {K : PySem.W.Frag} {mg : Str → Option Value} {base : Heap}
/-! ### _law_things -/
def spThings (K : PySem.W.Frag) (n : Nat) : Sp := fun vs H Q _ => ∃ (v : V) (wa : Addr) (way : List Int) (t : Th), vs = [v, .ref wa] ∧ Dp K H v t.toD ∧ Dp K H (.ref wa) (wayD way) ∧ t.dep ≤ n ∧ way.length + t.dep ≤ 50 ∧ t.nIn + t.nSt ≤ 200 ∧
  ∀ (zs : List V) (p : Addr) (H' : Hp), H p = none → H' p = some (.lst zs) → DpAll K H' zs ((t.things way).map thD) → Same H H' → Q (.ref p) H'
theorem things_step (T : Tx K mg) {n : Nat} {spI : Sp} (ih : FnOk P w K mg base CX0 n T.f_l_things T.fd_l_things ["thing", "way"] spI) (hi : ∀ m, n = m + 1 → ∀ vs H Q E, spThings K m vs H Q E → spI vs H Q E) :
    FnOk P w K mg base CX0 (n + 1) T.f_l_things T.fd_l_things ["thing", "way"] (spThings K n) := by
  refine T.F_l_things.ok (k := n) sc_l_things (fun vs H Q E h => ?_) (fun cdv A outer s H vs Q E hr h => ?_)
  · obtain ⟨_, _, _, _, rfl, _⟩ := h
    rfl
  obtain ⟨v, wa, way, t, rfl, hd, hw, hdep, hwl, hcnt, q⟩ := h
  obtain ⟨wx, hwx, hwd⟩ := dp_tup hw
  obtain rfl := ways_ints hwd
  refine ⟨_, (pss_cons (ps_set (i := 2) sc_l_things.nd rfl (Or.inl rfl) (pe_lst (pa_cons (pe_tup (pa_cons (pv 1) (pa_cons (pv 0) pa_nil))) pa_nil)))
      (pss_cons (ps_for PassesOwn.never rfl (pi_enumT (by rfl) T.m_enumerate (pa_cons (pe_ifExp (pt_val (pe_callB call_isi (by rfl) T.m_isinstance (by decide +kernel) (pa_cons (pv 0) (pa_cons (pe_bltn (by rfl) T.m_tuple (by decide +kernel) (show RelV (.ty "tuple") _ from rfl)) pa_nil)))) (pe_ix ix_tup (pv 0) pe_int (fun _ _ => rfl)) (pe_tup pa_nil)) pa_nil)) (pg_tup (by rfl) (pgs_cons (pg_name (i := 3) sc_l_things.nd rfl (Or.inl rfl)) (pgs_cons (pg_tup (by rfl) (pgs_cons (pg_name (i := 4) sc_l_things.nd rfl (Or.inl rfl)) (pgs_cons (pg_name (i := 5) sc_l_things.nd rfl (Or.inl rfl)) pgs_nil))) pgs_nil))) (pss_one (ps_expr (pe_bm PySem.F.plainAttrs_list PySem.F.slot_list_extend PySem.F.type_list_extend mt_extend (pv 2) (pa_cons (pe_call ih (hr.mono (by omega)) (by rfl) T.g_l_things T.F_l_things.kp T.b_l_things .nil pass0 (pa_cons (pv 5) (pa_cons (pe_op op_catA (pv 1) (pe_tup (pa_cons (pv 3) pa_nil))) pa_nil))) pa_nil)))))
      (pss_one (ps_ret (pv 2))))), ?_⟩
  walk_at "go"
  refine ⟨sz (by simp), fun a na => ?_⟩
  walk_at "go"
  refine ⟨sz (by simp), fun l nl => ?_⟩
  walk_at "go"
  have s1 := same_new (o := .tup [.ref wa, v]) na
  have s2 := same_new (o := .lst [.ref a]) nl
  have ea := s2 _ _ (upd_same (H := H) (a := a) (o := .tup [.ref wa, v]))
  have el : (upd (upd H a (.tup [.ref wa, v])) l (.lst [.ref a])) l = some (.lst [.ref a]) := upd_same
  have ln : H l = none := s1.free nl
  have sH := s1.trans s2
  generalize upd (upd H a (.tup [.ref wa, v])) l (.lst [.ref a]) = H1 at ea el sH ⊢
  have d1 : Dp K H1 (.ref a) (thD (way, t)) := .tup (sq_t ea) (.cons (dp_same sH hw) (.cons (dp_same sH hd) .nil))
  cases t with
  | inp i =>
    simp only [Th.toD] at hd
    obtain rfl := dp_int hd
    refine isi_it ?_
    walk_at "go"
    rw [if_neg (by decide)]
    walk_at "go"
    refine ⟨Nat.zero_le _, fun e ne => ?_⟩
    refine ⟨e, [], rfl, sq_t upd_same, ?_⟩
    have s3 := same_new (o := .tup []) ne
    have ee : (upd H1 e (.tup [])) e = some (.tup []) := upd_same
    generalize upd H1 e (.tup []) = H2 at s3 ee ⊢
    refine for_E (xs := []) (fun i' σ H' => σ = [some (.int i), some (.ref wa), some (.ref l), none, none, none] ∧ H' = H2) ⟨rfl, rfl⟩ (fun i' σ H' h => ?_) (fun i' x T' σ H' hx h nT => ?_) (fun σ H' h => ?_)
    · obtain ⟨rfl, rfl⟩ := h
      exact sq_t ee
    · simp at hx
    · obtain ⟨rfl, rfl⟩ := h
      walk_at "go"
      refine q [.ref a] l H' ln (s3 _ _ el) ?_ (sH.trans s3)
      simp only [Th.things, List.map_cons, List.map_nil]
      exact .cons (dp_same s3 d1) .nil
  | st c d ps =>
    have hd0 := hd
    simp only [Th.toD] at hd0
    obtain ⟨tv, rfl⟩ := dp_tuple hd0
    obtain ⟨b, xs, ht, hb, hps⟩ := pl_at hd
    have hlen : xs.length = ps.length := by rw [dps_len hps, toDL_len]
    simp only [Th.dep] at hdep hwl
    simp only [Th.nIn, Th.nSt] at hcnt
    refine isi_tt (same_t sH ht) ?_
    walk_at "go"
    rw [if_pos rfl]
    walk_at "go"
    refine l_ixT (same_t sH ht) rfl ?_
    refine ⟨b, xs, rfl, same_t sH hb, ?_⟩
    refine for_E (xs := xs) (fun i σ H' => ∃ zs y3 y4 y5, σ = [some (.ref tv), some (.ref wa), some (.ref l), y3, y4, y5] ∧ H' l = some (.lst zs) ∧ DpAll K H' zs (((way, Th.st c d ps) :: thingsAt (ps.take i) way 0).map thD) ∧ Same H H')
      ⟨[.ref a], none, none, none, rfl, el, ?_, sH⟩ (fun i σ H' h => ?_) (fun i x T' σ H' hx h nT => ?_) (fun σ H' h => ?_)
    · simp only [List.take_zero, thingsAt, List.map_cons, List.map_nil]
      exact .cons d1 .nil
    · obtain ⟨zs, y3, y4, y5, rfl, el2, dz, s⟩ := h
      exact same_t s hb
    · obtain ⟨zs, y3, y4, y5, rfl, el2, dz, s⟩ := h
      obtain ⟨w0, t0, q0, v0, hp, rfl, hq, hv⟩ := part_at hps hx
      have pd := depL_le.mp (show depL ps ≤ n - 1 by omega) _ (List.mem_of_getElem? hp)
      have pd2 := depL_le.mp (Nat.le_refl (depL ps)) _ (List.mem_of_getElem? hp)
      have k1 := nInL_take hp
      have k2 := nSt_take hp
      have lz := dps_len dz
      rw [List.length_map, List.length_cons, thingsAt_len] at lz
      simp only at k1 k2 pd pd2
      have s3 := same_new (o := .tup [.int (i : Nat), .ref q0]) nT
      refine g_gtup (sq_t upd_same) rfl ?_
      have el3 := s3 _ _ el2
      have dz3 := dps_same s3 dz
      have ss := s.trans s3
      generalize upd H' T' (.tup [.int (i : Nat), .ref q0]) = H2 at el3 dz3 ss ⊢
      walk_at "go"
      refine g_gtup (same_t ss hq) rfl ?_
      walk_at "go"
      refine l_tyL (sq_l el3) ?_
      walk_at "go"
      refine ⟨sz (by simp), fun T2 n2 => ?_⟩
      have s4 := same_new (o := .tup [.int (i : Nat)]) n2
      refine l_catT (same_t (ss.trans s4) hwx) (sq_t upd_same) (by simp) (sz (by simp; omega)) (fun p2 H3 _ s5 hp2 => ?_)
      walk_at "go"
      obtain ⟨m, rfl⟩ : ∃ m, n = m + 1 := ⟨n - 1, by omega⟩
      refine hi m rfl _ _ _ _ ⟨v0, p2, way ++ [(i : Int)], t0, rfl, dp_same (ss.trans (s4.trans s5)) hv, ?_, by omega, by rw [List.length_append, List.length_singleton]; omega, by omega, fun zs2 p3 H4 np3 e4 d4 s6 => ?_⟩
      · have e : (way ++ [(i : Int)]).map PyData.int = way.map PyData.int ++ [.int (i : Nat)] := by rw [List.map_append]; rfl
        rw [wayD, e]
        refine .tup (xs := way.map V.int ++ [.int (i : Nat)]) hp2 (dps_app ?_ (.cons (.int _) .nil))
        exact dps_ints way
      · have sx := s4.trans (s5.trans s6)
        have el4 := sx _ _ el3
        have lz2 := dps_len d4
        rw [List.length_map, things_len] at lz2
        walk_at "go"
        refine l_extL el4 e4 (by omega) ?_
        refine ⟨zs ++ zs2, _, _, _, rfl, upd_same, ?_, same_mut (ss.trans sx) ln⟩
        rw [thingsAt_take way hp, ← List.cons_append, List.map_append]
        have tl := ts_lst (o := .lst (zs ++ zs2)) el4
        exact dps_app (dps_t tl (thD_t _) (dps_same sx dz3)) (dps_t tl (thD_t _) d4)
    · obtain ⟨zs, y3, y4, y5, rfl, el2, dz, s⟩ := h
      walk_at "go"
      refine q zs l H' ln el2 ?_ s
      rw [hlen, List.take_length] at dz
      simp only [Th.things]
      exact dz
theorem ok_l_things (T : Tx K mg) : ∀ n : Nat, FnOk P w K mg base CX0 (n + 1) T.f_l_things T.fd_l_things ["thing", "way"] (spThings K n)
  | 0 => things_step T fn_none fun m e => by cases e
  | n + 1 => things_step T (ok_l_things T n) fun m e => by cases e; exact fun _ _ _ _ h => h

end
end SC
namespace SC
open PySem PySem.Spec PyProof.Rows L2 StrLaws
local macro_rules | `(tactic| walk_at "go") => `(tactic| ((try dsimp only [cxOf, Cx.nox, Cx.wish]); repeat (first
  | (with_reducible refine g_seq ?_)
  | (with_reducible refine g_asg ?_)
  | (with_reducible refine g_asg2 ?_)
  | (with_reducible refine g_ret ?_)
  | (with_reducible refine g_drop ?_)
  | (with_reducible refine g_next ?_)
  | (with_reducible refine g_ifs ?_)
  | (with_reducible refine g_par ?_)
  | (with_reducible refine g_par3 ?_)
  | ((with_reducible refine' g_var ?hv ?_); (case hv => exact rfl))
  | (with_reducible refine g_c ?_)
  | ((with_reducible refine' g_aug ?hv ?_); (case hv => exact rfl))
  | (with_reducible refine l_ip ?_)
  | (with_reducible refine g_op ?_)
  | (with_reducible refine g_un ?_)
  | (with_reducible refine g_cons ?_)
  | (with_reducible refine g_nil ?_)
  | (with_reducible refine g_cb ?_)
  | (with_reducible refine g_call ?_)
  | (with_reducible refine g_callK ?_)
  | (with_reducible refine g_test ?_)
  | (with_reducible refine g_b ?_)
  | (with_reducible refine g_not ?_)
  | (with_reducible refine g_chain ?_)
  | (with_reducible refine g_notV ?_)
  | (with_reducible refine g_and ?_)
  | (with_reducible refine g_or ?_)
  | (with_reducible refine g_ifx ?_)
  | (with_reducible refine g_isN ?_)
  | (with_reducible refine g_notN ?_)
  | (with_reducible refine g_andV ?_)
  | (with_reducible refine g_bm ?_)
  | (with_reducible refine g_bm0 ?_)
  | (with_reducible refine g_sl ?_)
  | (with_reducible refine g_part ?_)
  | (with_reducible refine g_nopart ?_)
  | (with_reducible refine g_dget ?_)
  | (with_reducible refine g_dput ?_)
  | (with_reducible refine g_tup ?_)
  | (with_reducible refine g_lst ?_)
  | (with_reducible refine g_yes ?_)
  | (with_reducible refine g_name ?_)
  | (with_reducible refine g_gsub ?_)
  | (with_reducible refine g_iList ?_)
  | (with_reducible refine g_iTup ?_)
  | (with_reducible refine g_for ?_)
  | (with_reducible refine g_lc ?_)
  | (with_reducible refine g_rng1 ?_)
  | (with_reducible refine g_iZip ?_)
  | (with_reducible refine g_allT ?_)
  | (with_reducible refine g_iZipA ?_)
  | (with_reducible refine g_iZip3 ?_)
  | (with_reducible refine g_dcT ?_)
  | (with_reducible refine g_dc ?_)
  | (with_reducible refine g_iEnumT ?_)
  | (with_reducible refine g_lstRg ?_)
  | (with_reducible refine g_rg1 ?_)
  | (with_reducible refine g_gcons ?_)
  | (with_reducible refine g_gnil ?_)
  | (with_reducible refine l_bl ?_)
  | (with_reducible refine l_int ?_)
  | (with_reducible refine l_two ?_)
  | (with_reducible refine l_three ?_)
  | (with_reducible refine l_I0 ?_)
  | (with_reducible refine l_U ?_)
  | dsimp only)))
section
variable {P : Program} {w : World} {K : PySem.W.Frag} {mg : Str → Option Value} {base : Heap}
/-! ### _law_other -/
def spOther (K : PySem.W.Frag) (n : Nat) : Sp := fun vs H Q _ => ∃ (dk gr : Addr) (v : V) (t : Th), vs = [.ref dk, v] ∧ Deck H dk gr ∧ Dp K H v t.toD ∧ t.good ∧ t.full = true ∧ t.dep ≤ n ∧ t.nIn ≤ 1000 ∧
  ∀ (u : Th) (z : V) (H' : Hp), t.bare = u.bare → u.good → Dp K H' z u.toD → Deck H' dk gr → Same (hid [dk, gr] H) (hid [dk, gr] H') → Q z H'
theorem other_step (T : Tx K mg) {n : Nat} {spI : Sp} (ih : FnOk P w K mg base CX0 (2 + n) T.f_l_other T.fd_l_other ["deck", "thing"] spI) (hi : ∀ m, n = m + 1 → ∀ vs H Q E, spOther K m vs H Q E → spI vs H Q E) :
    FnOk P w K mg base CX0 (2 + n + 1) T.f_l_other T.fd_l_other ["deck", "thing"] (spOther K n) := by
  refine T.F_l_other.ok (k := 2 + n) sc_l_other (fun vs H Q E h => ?_) (fun cdv A outer s H vs Q E hr h => ?_)
  · obtain ⟨_, _, _, _, rfl, _⟩ := h
    rfl
  obtain ⟨dk, gr, v, t, rfl, D, hd, hg, hf, hdep, hin, q⟩ := h
  refine ⟨_, (pss_cons (ps_if (pt_not (pt_val (pe_callB call_isi (by rfl) T.m_isinstance (by decide +kernel) (pa_cons (pv 1) (pa_cons (pe_bltn (by rfl) T.m_tuple (by decide +kernel) (show RelV (.ty "tuple") _ from rfl)) pa_nil))))) (pss_one (ps_ret (pv 1))) pss_nil)
      (pss_cons (ps_set (i := 2) sc_l_other.nd rfl (Or.inl rfl) (pe_call (ok_l_pick T) (hr.mono (by first | decide | omega)) (by rfl) T.g_l_pick T.F_l_pick.kp T.b_l_pick .nil pass0 (pa_cons (pv 0) (pa_cons (pe_lst (pa_cons pe_int (pa_cons (pe_op op_sub (pe_ix ix_tup (pv 1) pe_int (fun _ _ => rfl)) pe_int) (pa_cons (pe_call (ok_l_draw T) (hr.mono (by first | decide | omega)) (by rfl) T.g_l_draw T.F_l_draw.kp T.b_l_draw .nil pass0 (pa_cons (pv 0) (pa_cons (pe_ix ix_tup (pv 1) pe_int (fun _ _ => rfl)) pa_nil))) pa_nil)))) pa_nil))))
      (pss_one (ps_ret (pe_tup (pa_cons (pe_ix ix_tup (pv 1) pe_int (fun _ _ => rfl)) (pa_cons (pv 2) (pa_cons (pe_callTy call_tuple_of (by rfl) T.m_tuple (by decide +kernel) (pa_cons (pe_lc (own := [("weight", 3), ("own", 4)]) (g := (gTup _ 2 (gCons (gName 3) (gCons (gName 4) gNil)))) (tt := tYes) (by rfl) sc_l_other.nd (pi_tup (pe_ix ix_tup (pv 1) pe_int (fun _ _ => rfl))) (blkOk_by (own := [("weight", 3), ("own", 4)]) (N := ["deck", "thing", "offset", "weight", "own"]) (sc := defScope s_l_other) (by decide +kernel)) (fun _ _ _ _ _ => (pg_tup (by rfl) (pgs_cons (pg_name (i := 3) sc_l_other.nd rfl (Or.inl rfl)) (pgs_cons (pg_name (i := 4) sc_l_other.nd rfl (Or.inl rfl)) pgs_nil)))) (fun _ _ _ _ _ => pts_nil) (fun _ _ _ _ _ => (pe_tup (pa_cons (pv 3) (pa_cons (pe_call ih (hr.mono (by omega)) (by rfl) T.g_l_other T.F_l_other.kp T.b_l_other .nil pass0 (pa_cons (pv 0) (pa_cons (pv 4) pa_nil))) pa_nil))))) pa_nil)) pa_nil)))))))), ?_⟩
  walk_at "go"
  cases t with
  | inp i =>
    have hd0 := hd
    simp only [Th.toD] at hd0
    obtain rfl := dp_int hd0
    refine isi_it ?_
    walk_at "go"
    rw [if_pos (by decide)]
    walk_at "go"
    exact q (.inp i) _ H rfl hg hd D (Same.refl _)
  | st c d ps =>
    have hd0 := hd
    simp only [Th.toD] at hd0
    obtain ⟨tv, rfl⟩ := dp_tuple hd0
    obtain ⟨b, xs, ht, hb, hps⟩ := pl_at hd
    have hlen : xs.length = ps.length := by rw [dps_len hps, toDL_len]
    simp only [Th.dep] at hdep
    simp only [Th.nIn] at hin
    simp only [Th.full, Bool.and_eq_true] at hf
    simp only [Th.good] at hg
    have hl2 := len_le_nIn hf.2
    refine isi_tt ht ?_
    walk_at "go"
    rw [if_neg (by decide)]
    walk_at "go"
    refine l_ixT ht rfl ?_
    walk_at "go"
    refine l_ixT ht rfl ?_
    walk_at "go"
    have hc := hg.1
    refine ⟨dk, gr, c, rfl, D, by have := hc.n2; omega, fun v1 H1 v0 vc D1 s1 => ?_⟩
    have k1 := hc.n1
    refine ⟨sz (by simp), fun l nl => ?_⟩
    have s2 := same_new (o := .lst ([0, c - 1, v1].map V.int)) nl
    obtain ⟨_, _, l3⟩ := deck_ne D1 nl
    refine ⟨dk, gr, l, [0, c - 1, v1].map V.int, rfl, deck_new D1 s2, sq_l (hid_put l3 upd_same), by simp, by simp, fun x H3 hx D3 s3 => ?_⟩
    obtain ⟨o, ho, rfl⟩ := List.mem_map.mp hx
    have hoff : 0 ≤ o ∧ o < c := by
      simp only [List.mem_cons, List.not_mem_nil, or_false] at ho
      rcases ho with rfl | rfl | rfl <;> omega
    have sA := s1.trans ((same_hid s2).trans s3)
    have tA := ts_deck D sA
    have ht3 := ts_t tA ht
    have hb3 := ts_t tA hb
    walk_at "go"
    refine l_ixT ht3 rfl ?_
    walk_at "go"
    refine l_ixT ht3 rfl ?_
    walk_at "go"
    refine ⟨b, rfl, ⟨xs, hb3⟩, fun L nL => ?_⟩
    have LH : H L = none := by
      cases e : H L with
      | none => rfl
      | some o =>
        have z := stay sA (deck_some D3) (some_of e)
        rw [nL] at z; cases z
    obtain ⟨L1, L2, L3⟩ := deck_ne D LH
    refine lc_tup (xs := xs) (fun i H' => ∃ us zs, H' L = some (.lst zs) ∧ DpAll K H' zs (toDL us) ∧ bareL (ps.take i) = bareL us ∧ goodL us ∧ Deck H' dk gr ∧ Same (hid [dk, gr] H) (hid [dk, gr] H')) ⟨[], [], upd_same, .nil, rfl, trivial, deck_new D3 (same_new nL), sA.trans (same_hid (same_new nL))⟩
      (fun i H' _ h => ?_) (fun i x H' hx h => ?_) (fun H' h => ?_)
    · obtain ⟨us, zs, eL, dz, hbr, hgd, D4, s4⟩ := h
      exact ts_t (ts_deck D s4) hb
    · obtain ⟨us, zs, eL, dz, hbr, hgd, D4, s4⟩ := h
      obtain ⟨w0, t0, q0, v0, hp, rfl, hq, hv⟩ := part_at hps hx
      have t4 := ts_deck D s4
      have pm := List.mem_of_getElem? hp
      have il : i < ps.length := (List.getElem?_eq_some_iff.mp hp).1
      have pd := depL_le.mp (show depL ps ≤ n - 1 by omega) _ pm
      have pn := nIn_le pm
      have ul : us.length = i := by
        have := congrArg List.length hbr
        rw [bareL_len, bareL_len, List.length_take] at this
        omega
      have zl : zs.length = i := by rw [dps_len dz, toDL_len, ul]
      simp only at pd pn
      refine g_gtup (ts_t t4 hq) rfl ?_
      walk_at "go"
      refine ⟨rfl, ?_⟩
      walk_at "go"
      rw [if_pos rfl]
      walk_at "go"
      obtain ⟨m, rfl⟩ : ∃ m, n = m + 1 := ⟨n - 1, by omega⟩
      refine hi m rfl _ _ _ _ ⟨dk, gr, v0, t0, rfl, D4, dp_t t4 (toD_t _) hv, goodL_iff.mp hg.2 _ pm, fullL_iff.mp hf.2 _ pm, by omega, by omega, fun u z H5 hbu hgu hdu D5 s5 => ?_⟩
      refine ⟨sz (by simp), fun p np => ?_⟩
      have s6 := same_new (o := .tup [.int w0, z]) np
      have eL5 := s6 _ _ (hid_get (s5 _ _ (hid_put L3 eL))).2
      refine ⟨zs, eL5, sz1 (by omega), us ++ [(w0, u)], zs ++ [.ref p], upd_same, ?_, ?_, ?_, deck_mut (deck_new D5 s6) L1 L2, hid_mut ((s4.trans s5).trans (same_hid s6)) (hid_none LH)⟩
      · have tl := ts_lst (o := .lst (zs ++ [.ref p])) eL5
        have e : toDL (us ++ [(w0, u)]) = toDL us ++ [.tuple [.int w0, u.toD]] := by rw [toDL_eq, toDL_eq, List.map_append]; rfl
        have ep : (upd H5 p (.tup [.int w0, z])) p = some (.tup [.int w0, z]) := upd_same
        rw [e]
        refine dps_app (dps_t (((ts_deck D4 s5).trans (ts_same s6)).trans tl) (toDL_t us) dz) (.cons (.tup (sq_t (tl _ _ ep rfl)) (.cons (.int _) (.cons ?_ .nil))) .nil)
        exact dp_t ((ts_same s6).trans tl) (toD_t u) hdu
      · rw [take_one hp, bareL_app, bareL_app, hbr]
        simp only [bareL, hbu]
      · refine goodL_iff.mpr fun y hy => ?_
        rcases List.mem_append.mp hy with hy | hy
        · exact goodL_iff.mp hgd y hy
        · rw [List.mem_singleton.mp hy]; exact hgu
    · obtain ⟨us, zs, eL, dz, hbr, hgd, D4, s4⟩ := h
      rw [hlen, List.take_length] at hbr
      walk_at "go"
      refine ⟨L, zs, rfl, .inl ⟨sq_l eL, fun l2 nl2 => ?_⟩⟩
      refine ⟨sz (by simp), fun p np => ?_⟩
      have sX := same_new (o := .tup zs) nl2
      have sY := same_new (o := .tup [.int c, .int o, .ref l2]) np
      have e2 : (upd H' l2 (.tup zs)) l2 = some (.tup zs) := upd_same
      refine q (.st c o us) (.ref p) _ ?_ ?_ ?_ (deck_new D4 (sX.trans sY)) (s4.trans (same_hid (sX.trans sY)))
      · simp only [Th.bare, hbr]
      · simp only [Th.good]
        have ef : us.map (·.1) = ps.map (·.1) := by rw [← bareL_fst, ← hbr, bareL_fst]
        exact ⟨⟨hc.n1, hc.n2, hoff.1, hoff.2, by rw [ef]; exact hc.ws⟩, hgd⟩
      · simp only [Th.toD]
        exact .tup (sq_t upd_same) (.cons (.int _) (.cons (.int _) (.cons (.tup (sq_t (sY _ _ e2)) (dps_same (sX.trans sY) dz)) .nil)))
theorem ok_l_other (T : Tx K mg) : ∀ n : Nat, FnOk P w K mg base CX0 (2 + n + 1) T.f_l_other T.fd_l_other ["deck", "thing"] (spOther K n)
  | 0 => other_step T (n := 0) fn_none fun m e => by cases e
  | n + 1 => other_step T (n := n + 1) (ok_l_other T n) fun m e => by cases e; exact fun _ _ _ _ h => h

end
end SC
namespace SC
open PySem PySem.Spec PyProof.Rows L2 StrLaws
local macro_rules | `(tactic| walk_at "go") => `(tactic| ((try dsimp only [cxOf, Cx.nox, Cx.wish]); repeat (first
  | (with_reducible refine g_seq ?_)
  | (with_reducible refine g_asg ?_)
  | (with_reducible refine g_asg2 ?_)
  | (with_reducible refine g_ret ?_)
  | (with_reducible refine g_drop ?_)
  | (with_reducible refine g_next ?_)
  | (with_reducible refine g_ifs ?_)
  | (with_reducible refine g_par ?_)
  | (with_reducible refine g_par3 ?_)
  | ((with_reducible refine' g_var ?hv ?_); (case hv => exact rfl))
  | (with_reducible refine g_c ?_)
  | ((with_reducible refine' g_aug ?hv ?_); (case hv => exact rfl))
  | (with_reducible refine l_ip ?_)
  | (with_reducible refine g_op ?_)
  | (with_reducible refine g_un ?_)
  | (with_reducible refine g_cons ?_)
  | (with_reducible refine g_nil ?_)
  | (with_reducible refine g_cb ?_)
  | (with_reducible refine g_call ?_)
  | (with_reducible refine g_callK ?_)
  | (with_reducible refine g_test ?_)
  | (with_reducible refine g_b ?_)
  | (with_reducible refine g_not ?_)
  | (with_reducible refine g_chain ?_)
  | (with_reducible refine g_notV ?_)
  | (with_reducible refine g_and ?_)
  | (with_reducible refine g_or ?_)
  | (with_reducible refine g_ifx ?_)
  | (with_reducible refine g_isN ?_)
  | (with_reducible refine g_notN ?_)
  | (with_reducible refine g_andV ?_)
  | (with_reducible refine g_bm ?_)
  | (with_reducible refine g_bm0 ?_)
  | (with_reducible refine g_sl ?_)
  | (with_reducible refine g_part ?_)
  | (with_reducible refine g_nopart ?_)
  | (with_reducible refine g_dget ?_)
  | (with_reducible refine g_dput ?_)
  | (with_reducible refine g_tup ?_)
  | (with_reducible refine g_lst ?_)
  | (with_reducible refine g_yes ?_)
  | (with_reducible refine g_name ?_)
  | (with_reducible refine g_gsub ?_)
  | (with_reducible refine g_iList ?_)
  | (with_reducible refine g_iTup ?_)
  | (with_reducible refine g_for ?_)
  | (with_reducible refine g_lc ?_)
  | (with_reducible refine g_rng1 ?_)
  | (with_reducible refine g_iZip ?_)
  | (with_reducible refine g_allT ?_)
  | (with_reducible refine g_iZipA ?_)
  | (with_reducible refine g_iZip3 ?_)
  | (with_reducible refine g_dcT ?_)
  | (with_reducible refine g_dc ?_)
  | (with_reducible refine g_iEnumT ?_)
  | (with_reducible refine g_lstRg ?_)
  | (with_reducible refine g_rg1 ?_)
  | (with_reducible refine g_gcons ?_)
  | (with_reducible refine g_gnil ?_)
  | (with_reducible refine l_bl ?_)
  | (with_reducible refine l_int ?_)
  | (with_reducible refine l_two ?_)
  | (with_reducible refine l_three ?_)
  | (with_reducible refine l_I0 ?_)
  | (with_reducible refine l_U ?_)
  | dsimp only)))
section
variable {P : Program} {w : World} {K : PySem.W.Frag} {mg : Str → Option Value} {base : Heap}
/-! ### is_stage -/
def spIsStg (K : PySem.W.Frag) : Sp := fun vs H Q _ => ∃ (v : V) (t : Th), vs = [v] ∧ Dp K H v t.toD ∧ (∀ i, t = .inp i → Q (.bl false) H) ∧ (∀ n c ps, t = .st n c ps → Q (.bl true) H)
theorem ok_is_stage (T : Tx K mg) : FnOk P w K mg base CX0 1 T.f_is_stage T.fd_is_stage ["thing"] (spIsStg K) := by
  refine T.F_is_stage.ok sc_is_stage (fun vs H Q E h => ?_) (fun cdv A outer s H vs Q E hr h => ?_)
  · obtain ⟨_, _, rfl, _⟩ := h
    rfl
  obtain ⟨v, t, rfl, hd, q1, q2⟩ := h
  refine ⟨_, (pss_one (ps_ret (pe_callB call_isi (by rfl) T.m_isinstance (by decide +kernel) (pa_cons (pv 0) (pa_cons (pe_bltn (by rfl) T.m_tuple (by decide +kernel) (show RelV (.ty "tuple") _ from rfl)) pa_nil))))), ?_⟩
  walk_at "go"
  cases t with
  | inp i =>
    simp only [Th.toD] at hd
    obtain rfl := dp_int hd
    exact isi_it (q1 i rfl)
  | st c d ps =>
    have hd0 := hd
    simp only [Th.toD] at hd0
    obtain ⟨tv, rfl⟩ := dp_tuple hd0
    obtain ⟨b, xs, ht, _, _⟩ := pl_at hd
    exact isi_tt ht (q2 _ _ _ rfl)

end
end SC
namespace SC
open PySem PySem.Spec PyProof.Rows L2 StrLaws
local macro_rules | `(tactic| walk_at "go") => `(tactic| ((try dsimp only [cxOf, Cx.nox, Cx.wish]); repeat (first
  | (with_reducible refine g_seq ?_)
  | (with_reducible refine g_asg ?_)
  | (with_reducible refine g_asg2 ?_)
  | (with_reducible refine g_ret ?_)
  | (with_reducible refine g_drop ?_)
  | (with_reducible refine g_next ?_)
  | (with_reducible refine g_ifs ?_)
  | (with_reducible refine g_par ?_)
  | (with_reducible refine g_par3 ?_)
  | ((with_reducible refine' g_var ?hv ?_); (case hv => exact rfl))
  | (with_reducible refine g_c ?_)
  | ((with_reducible refine' g_aug ?hv ?_); (case hv => exact rfl))
  | (with_reducible refine l_ip ?_)
  | (with_reducible refine g_op ?_)
  | (with_reducible refine g_un ?_)
  | (with_reducible refine g_cons ?_)
  | (with_reducible refine g_nil ?_)
  | (with_reducible refine g_cb ?_)
  | (with_reducible refine g_call ?_)
  | (with_reducible refine g_callK ?_)
  | (with_reducible refine g_test ?_)
  | (with_reducible refine g_b ?_)
  | (with_reducible refine g_not ?_)
  | (with_reducible refine g_chain ?_)
  | (with_reducible refine g_notV ?_)
  | (with_reducible refine g_and ?_)
  | (with_reducible refine g_or ?_)
  | (with_reducible refine g_ifx ?_)
  | (with_reducible refine g_isN ?_)
  | (with_reducible refine g_notN ?_)
  | (with_reducible refine g_andV ?_)
  | (with_reducible refine g_bm ?_)
  | (with_reducible refine g_bm0 ?_)
  | (with_reducible refine g_sl ?_)
  | (with_reducible refine g_part ?_)
  | (with_reducible refine g_nopart ?_)
  | (with_reducible refine g_dget ?_)
  | (with_reducible refine g_dput ?_)
  | (with_reducible refine g_tup ?_)
  | (with_reducible refine g_lst ?_)
  | (with_reducible refine g_yes ?_)
  | (with_reducible refine g_name ?_)
  | (with_reducible refine g_gsub ?_)
  | (with_reducible refine g_iList ?_)
  | (with_reducible refine g_iTup ?_)
  | (with_reducible refine g_for ?_)
  | (with_reducible refine g_lc ?_)
  | (with_reducible refine g_rng1 ?_)
  | (with_reducible refine g_iZip ?_)
  | (with_reducible refine g_allT ?_)
  | (with_reducible refine g_iZipA ?_)
  | (with_reducible refine g_iZip3 ?_)
  | (with_reducible refine g_dcT ?_)
  | (with_reducible refine g_dc ?_)
  | (with_reducible refine g_iEnumT ?_)
  | (with_reducible refine g_lstRg ?_)
  | (with_reducible refine g_rg1 ?_)
  | (with_reducible refine g_gcons ?_)
  | (with_reducible refine g_gnil ?_)
  | (with_reducible refine l_bl ?_)
  | (with_reducible refine l_int ?_)
  | (with_reducible refine l_two ?_)
  | (with_reducible refine l_three ?_)
  | (with_reducible refine l_I0 ?_)
  | (with_reducible refine l_U ?_)
  | dsimp only)))
section
variable {P : Program} {w : World} {K : PySem.W.Frag} {mg : Str → Option Value} {base : Heap}
/-! ### _law_row -/
def sizeOf' : List Int × Th → Option Int
  | (_, .inp _) => none
  | (_, .st n _ _) => some n
mutual
theorem things_sizes : ∀ (t : Th) (w : List Int), t.good → ∀ n ∈ (t.things w).filterMap sizeOf', 1 ≤ n ∧ n ≤ 10 ^ 30
  | .inp _, _, _, n, h => by simp [Th.things, sizeOf'] at h
  | .st m c ps, w, g, n, h => by
    simp only [Th.good] at g
    simp only [Th.things, List.filterMap_cons, sizeOf', List.mem_cons] at h
    rcases h with rfl | h
    · exact ⟨g.1.n1, g.1.n2⟩
    · exact thingsAt_sizes ps w 0 g.2 n h
theorem thingsAt_sizes : ∀ (ps : List (Int × Th)) (w : List Int) (k : Nat), goodL ps → ∀ n ∈ (thingsAt ps w k).filterMap sizeOf', 1 ≤ n ∧ n ≤ 10 ^ 30
  | [], _, _, _, n, h => by simp [thingsAt] at h
  | (_, t) :: r, w, k, g, n, h => by
    simp only [goodL] at g
    simp only [thingsAt, List.filterMap_append, List.mem_append] at h
    rcases h with h | h
    · exact things_sizes t _ g.1 n h
    · exact thingsAt_sizes r _ _ g.2 n h
end
/-- an integer that rows have -/
def Near (x : Int) : Prop := x.natAbs ≤ 2 ^ 210
def spRow (K : PySem.W.Frag) : Sp := fun vs H Q _ => ∃ (dk gr : Addr) (v : V) (t : Th) (many : Nat), vs = [.ref dk, v, .int many] ∧ Deck H dk gr ∧ Dp K H v t.toD ∧ IsPlan t ∧ many ≤ 24 ∧
  ∀ (r : List Int) (p : Addr) (H' : Hp), r.length = many → (∀ x ∈ r, Near x) → H' p = some (.tup (r.map V.int)) → Deck H' dk gr → Same (hid [dk, gr] H) (hid [dk, gr] H') → Q (.ref p) H'
theorem near_small {x : Int} (h0 : -100 ≤ x) (h1 : x ≤ 100) : Near x := by
  have : (100 : Nat) ≤ 2 ^ 210 := by decide +kernel
  unfold Near; omega
theorem near_size {n v u : Int} (n1 : 1 ≤ n) (n2 : n ≤ 10 ^ 30) (v0 : -4 ≤ v) (v1 : v ≤ 4) (u0 : 0 ≤ u) (u1 : u ≤ 2) : Near (n * v + u - 1) := by
  have h1 : (n * v).natAbs ≤ 10 ^ 30 * 4 := by
    rw [Int.natAbs_mul]
    exact Nat.mul_le_mul (nat30 (by omega) n2) (by omega)
  have h2 : 10 ^ 30 * 4 + 10 ≤ 2 ^ 210 := by decide +kernel
  unfold Near
  generalize 10 ^ 30 * 4 = p at h1 h2
  generalize 2 ^ 210 = z at h2 ⊢
  omega
theorem near_part {a : Int} {m : Nat} (a0 : 0 ≤ a) (a1 : a < 1000000) (c : Int) (hc : c.natAbs ≤ m) : (a * c).natAbs ≤ 1000000 * m := by
  rw [Int.natAbs_mul]
  exact Nat.mul_le_mul (by omega) hc
theorem near_far {a b c k : Int} (a0 : 0 ≤ a) (a1 : a < 1000000) (b0 : 0 ≤ b) (b1 : b < 1000000) (c0 : 0 ≤ c) (c1 : c < 1000000) (hk : k = 1 ∨ k = -1) : Near ((a * 10 ^ 54 + b * 10 ^ 27 + c + 1) * k) := by
  have h1 := near_part a0 a1 (10 ^ 54) (m := 10 ^ 54) (by decide +kernel)
  have h2 := near_part b0 b1 (10 ^ 27) (m := 10 ^ 27) (by decide +kernel)
  have h3 : 1000000 * 10 ^ 54 + 1000000 * 10 ^ 27 + 1000001 ≤ 2 ^ 210 := by decide +kernel
  unfold Near
  generalize a * 10 ^ 54 = x at h1 ⊢
  generalize b * 10 ^ 27 = y at h2 ⊢
  generalize 1000000 * 10 ^ 54 = p at h1 h3
  generalize 1000000 * 10 ^ 27 = q at h2 h3
  generalize 2 ^ 210 = z at h3 ⊢
  rcases hk with rfl | rfl <;> omega
theorem ok_l_row (T : Tx K mg) : FnOk P w K mg base CX0 42 T.f_l_row T.fd_l_row ["deck", "plan", "many"] (spRow K) := by
  refine T.F_l_row.ok sc_l_row (fun vs H Q E h => ?_) (fun cdv A outer s H vs Q E hr h => ?_)
  · obtain ⟨_, _, _, _, _, rfl, _⟩ := h
    rfl
  obtain ⟨dk, gr, v, t, many, rfl, D, hd, pl, hmany, q⟩ := h
  have h1 := pl.many
  have h2 := pl.deep
  have h3 := pl.inp
  refine ⟨_, (pss_cons (ps_setLc (i := 3) (own := [("way", 10), ("thing", 11)]) (g := (gTup _ 2 (gCons (gName 10) (gCons (gName 11) gNil)))) rfl sc_l_row.nd rfl rfl (sw_true rfl rfl rfl (by decide +kernel)) (pi_list (pe_call (ok_l_things T 40) (hr.mono (by first | decide | omega)) (by rfl) T.g_l_things T.F_l_things.kp T.b_l_things .nil pass0 (pa_cons (pv 1) (pa_cons (pe_tup pa_nil) pa_nil)))) (blkOk_by (own := [("way", 10), ("thing", 11)]) (N := ["deck", "plan", "many", "sizes", "found", "turn", "size", "near", "small", "far", "way", "thing"]) (sc := defScope s_l_row) (by decide +kernel)) (fun _ _ _ _ _ => (pg_tup (by rfl) (pgs_cons (pg_name (i := 10) sc_l_row.nd rfl (Or.inl rfl)) (pgs_cons (pg_name (i := 11) sc_l_row.nd rfl (Or.inl rfl)) pgs_nil)))) (fun _ _ _ _ _ => pts_one (pt_val (pe_callB (show CallR _ _ (rIsi K) from call_isi) (by rfl) T.m_isinstance (by decide +kernel) (pa_cons (pv 11) (pa_cons (pe_bltn (by rfl) T.m_tuple (by decide +kernel) (show RelV (.ty "tuple") _ from rfl)) pa_nil))))) (fun _ _ _ _ _ => (pe_ix (show IxR _ (rIxT K) from ix_tup) (pv 11) pe_int (fun _ _ => rfl))))
      (pss_cons (ps_par (i := 10) (j := 4) (by rfl) sc_l_row.nd rfl rfl (by decide) rfl rfl (pa_cons (pe_call (ok_l_draw T) (hr.mono (by first | decide | omega)) (by rfl) T.g_l_draw T.F_l_draw.kp T.b_l_draw .nil pass0 (pa_cons (pv 0) (pa_cons pe_int pa_nil))) (pa_cons (pe_lst pa_nil) pa_nil)) (by rfl))
      (pss_cons (ps_for PassesOwn.never rfl (pi_range1 rfl T.m_range (pa_cons (pv 2) pa_nil)) (pg_name (i := 5) sc_l_row.nd rfl (Or.inl rfl)) (pss_cons (ps_set (i := 6) sc_l_row.nd rfl (Or.inl rfl) (pe_call (ok_l_pick T) (hr.mono (by first | decide | omega)) (by rfl) T.g_l_pick T.F_l_pick.kp T.b_l_pick .nil pass0 (pa_cons (pv 0) (pa_cons (pv 3) pa_nil))))
      (pss_cons (ps_set (i := 7) sc_l_row.nd rfl (Or.inl rfl) (pe_op op_sub (pe_op op_add (pe_op op_mul (pv 6) (pe_op op_sub (pe_call (ok_l_draw T) (hr.mono (by first | decide | omega)) (by rfl) T.g_l_draw T.F_l_draw.kp T.b_l_draw .nil pass0 (pa_cons (pv 0) (pa_cons pe_int pa_nil))) pe_int)) (pe_call (ok_l_draw T) (hr.mono (by first | decide | omega)) (by rfl) T.g_l_draw T.F_l_draw.kp T.b_l_draw .nil pass0 (pa_cons (pv 0) (pa_cons pe_int pa_nil)))) pe_int))
      (pss_cons (ps_set (i := 8) sc_l_row.nd rfl (Or.inl rfl) (pe_op op_sub (pe_call (ok_l_draw T) (hr.mono (by first | decide | omega)) (by rfl) T.g_l_draw T.F_l_draw.kp T.b_l_draw .nil pass0 (pa_cons (pv 0) (pa_cons pe_int pa_nil))) pe_int))
      (pss_cons (ps_set (i := 9) sc_l_row.nd rfl (Or.inl rfl) (pe_op op_add (pe_op op_add (pe_op op_add (pe_op op_mul (pe_call (ok_l_draw T) (hr.mono (by first | decide | omega)) (by rfl) T.g_l_draw T.F_l_draw.kp T.b_l_draw .nil pass0 (pa_cons (pv 0) (pa_cons (pe_op op_pow pe_int pe_int) pa_nil))) (pe_op op_pow pe_int pe_int)) (pe_op op_mul (pe_call (ok_l_draw T) (hr.mono (by first | decide | omega)) (by rfl) T.g_l_draw T.F_l_draw.kp T.b_l_draw .nil pass0 (pa_cons (pv 0) (pa_cons (pe_op op_pow pe_int pe_int) pa_nil))) (pe_op op_pow pe_int pe_int))) (pe_call (ok_l_draw T) (hr.mono (by first | decide | omega)) (by rfl) T.g_l_draw T.F_l_draw.kp T.b_l_draw .nil pass0 (pa_cons (pv 0) (pa_cons (pe_op op_pow pe_int pe_int) pa_nil)))) pe_int))
      (pss_cons (ps_set (i := 9) sc_l_row.nd rfl (Or.inl rfl) (pe_op op_mul (pv 9) (pe_call (ok_l_pick T) (hr.mono (by first | decide | omega)) (by rfl) T.g_l_pick T.F_l_pick.kp T.b_l_pick .nil pass0 (pa_cons (pv 0) (pa_cons (pe_lst (pa_cons pe_int (pa_cons (pe_un un_neg pe_int) pa_nil))) pa_nil)))))
      (pss_one (ps_expr (pe_bm PySem.F.plainAttrs_list PySem.F.slot_list_append PySem.F.type_list_append mt_append (pv 4) (pa_cons (pe_ix ix_list (pe_lst (pa_cons (pv 8) (pa_cons (pv 7) (pa_cons (pe_call (ok_l_pick T) (hr.mono (by first | decide | omega)) (by rfl) T.g_l_pick T.F_l_pick.kp T.b_l_pick .nil pass0 (pa_cons (pv 0) (pa_cons (pe_lst (pa_cons (pv 8) (pa_cons (pv 7) pa_nil))) pa_nil))) (pa_cons (pv 9) (pa_cons (pe_call (ok_l_pick T) (hr.mono (by first | decide | omega)) (by rfl) T.g_l_pick T.F_l_pick.kp T.b_l_pick .nil pass0 (pa_cons (pv 0) (pa_cons (pe_lst (pa_cons pe_int (pa_cons (pe_un un_neg pe_int) (pa_cons (pv 9) (pa_cons (pv 7) pa_nil))))) pa_nil))) pa_nil)))))) (pv 10) (fun _ _ => rfl)) pa_nil))))))))))
      (pss_one (ps_ret (pe_callTy call_tuple_of (by rfl) T.m_tuple (by decide +kernel) (pa_cons (pv 4) pa_nil))))))), ?_⟩
  walk_at "go"
  refine ⟨Nat.zero_le _, fun e ne => ?_⟩
  have s1 := same_new (o := .tup []) ne
  refine ⟨v, e, [], t, rfl, dp_same s1 hd, .tup (sq_t upd_same) .nil, by omega, by simp; omega, by omega, fun zs l H1 nl el dz s2 => ?_⟩
  walk_at "go"
  refine ⟨l, rfl, ⟨zs, sq_l el⟩, fun Z nZ => ?_⟩
  have ss := s1.trans s2
  have lz := dps_len dz
  rw [List.length_map, things_len] at lz
  have Zl : l ≠ Z := ne_of_none el nZ
  refine lc_list (xs := zs) (fun i H' => H' Z = some (.lst ((((t.things []).take i).filterMap sizeOf').map V.int)) ∧ H' l = some (.lst zs) ∧ Same H1 H') ⟨upd_same, same_new nZ _ _ el, same_new nZ⟩ (fun i H' _ h => sq_l h.2.1) (fun i x H' hx h => ?_) (fun H2 h => ?_)
  · obtain ⟨eZ, el2, s3⟩ := h
    obtain ⟨w0, t0, q0, wa, v0, hi, rfl, hq, hw, hv⟩ := thing_at dz hx
    have hlen := fm_len (f := sizeOf') (t.things []) i
    rw [things_len] at hlen
    refine g_gtup (same_t s3 hq) rfl ?_
    walk_at "go"
    refine ⟨rfl, ?_⟩
    walk_at "go"
    have ft := fm_take (f := sizeOf') hi
    cases t0 with
    | inp i0 =>
      simp only [Th.toD] at hv
      obtain rfl := dp_int hv
      refine isi_it ?_
      walk_at "go"
      rw [if_neg (by decide)]
      refine ⟨?_, el2, s3⟩
      rw [ft]
      simpa [sizeOf'] using eZ
    | st c d ps =>
      have hv0 := hv
      simp only [Th.toD] at hv0
      obtain ⟨tv, rfl⟩ := dp_tuple hv0
      obtain ⟨b, xs, ht, _, _⟩ := pl_at hv
      refine isi_tt (same_t s3 ht) ?_
      walk_at "go"
      rw [if_pos (by decide)]
      walk_at "go"
      refine l_ixT (same_t s3 ht) rfl ?_
      refine ⟨_, eZ, sz1 (by rw [List.length_map]; omega), ?_, ?_, same_mut s3 nZ⟩
      · rw [upd_same, ft, List.map_append]
        rfl
      · rw [upd_ne Zl]; exact el2
  obtain ⟨eZ, el2, s3⟩ := h
  have full : (t.things []).take zs.length = t.things [] := by rw [lz, ← things_len t [], List.take_length]
  rw [full] at eZ
  have hns := things_sizes t [] pl.good
  have hne : (t.things []).filterMap sizeOf' ≠ [] := by
    obtain ⟨c, d, ps, e⟩ := pl.st
    subst e
    simp [Th.things, sizeOf']
  have hnl := fm_len (f := sizeOf') (t.things []) zs.length
  rw [full, things_len] at hnl
  generalize (t.things []).filterMap sizeOf' = ns at eZ hns hne hnl
  have s4 := ss.trans s3
  have D2 := deck_new D s4
  have nZ0 : H Z = none := ss.free nZ
  have Zd := (deck_ne D nZ0).2.2
  walk_at "go"
  refine ⟨dk, gr, _, rfl, D2, by decide, fun way H3 w0 w1 D3 s5 => ?_⟩
  walk_at "go"
  refine ⟨Nat.zero_le _, fun f nf => ?_⟩
  walk_at "go"
  have eZ3 := (hid_get (s5 _ _ (hid_put Zd eZ))).2
  have s6 := same_new (o := .lst []) nf
  have sA : Same (hid [dk, gr] H) (hid [dk, gr] (upd H3 f (.lst []))) := ((same_hid s4).trans s5).trans (same_hid s6)
  have ef : (upd H3 f (.lst [])) f = some (.lst []) := upd_same
  have eZ4 := s6 _ _ eZ3
  have D4 := deck_new D3 s6
  have fdk := deck_ne D3 nf
  have fZ : Z ≠ f := ne_of_none eZ3 nf
  have nf0 : hid [dk, gr] H f = none := by
    cases e : hid [dk, gr] H f with
    | none => rfl
    | some o =>
      have z := (hid_get (((same_hid s4).trans s5) _ _ e)).2
      rw [nf] at z; cases z
  generalize upd H3 f (.lst []) = H4 at sA ef eZ4 D4 ⊢
  refine ⟨many, rfl, by omega, by omega, ?_⟩
  refine for_R (lo := 0) (n := ((many : Nat) : Int).toNat) (fun i σ H' => ∃ y5 y6 y7 y8 y9, ∃ rs : List Int, σ = [some (.ref dk), some v, some (.int many), some (.ref Z), some (.ref f), y5, y6, y7, y8, y9, some (.int way), none] ∧ rs.length = i ∧ (∀ x ∈ rs, Near x) ∧
      H' f = some (.lst (rs.map V.int)) ∧ H' Z = some (.lst (ns.map V.int)) ∧ Deck H' dk gr ∧ Same (hid [dk, gr] H) (hid [dk, gr] H')) ⟨none, none, none, none, none, [], rfl, rfl, fun x hx => (by cases hx), ef, eZ4, D4, sA⟩ (fun i σ H' hi h => ?_) (fun σ H' h => ?_)
  · obtain ⟨y5, y6, y7, y8, y9, rs, rfl, hl, hrs, ef, eZ, D, sA⟩ := h
    have st : ∀ {Ha Hb : Hp} {a : Addr} {o : HO}, a ∉ [dk, gr] → Ha a = some o → Same (hid [dk, gr] Ha) (hid [dk, gr] Hb) → Hb a = some o := fun ha e s => (hid_get (s _ _ (hid_put ha e))).2
    walk_at "go"
    refine ⟨dk, gr, Z, ns.map V.int, rfl, D, sq_l (hid_put Zd eZ), fun z => hne (List.map_eq_nil_iff.mp z), by rw [List.length_map]; omega, fun x Ha hx Da sa => ?_⟩
    obtain ⟨n, hn, rfl⟩ := List.mem_map.mp hx
    obtain ⟨n1, n2⟩ := hns n hn
    walk_at "go"
    refine ⟨dk, gr, _, rfl, Da, by decide, fun v1 Hb v10 v11 Db sb => ?_⟩
    walk_at "go"
    refine l_I (.inr ⟨by omega, by omega⟩) ?_
    walk_at "go"
    refine ⟨dk, gr, _, rfl, Db, by decide, fun v2 Hc v20 v21 Dc sc => ?_⟩
    walk_at "go"
    have hnear := near_size (v := v1 - 4) (u := v2) n1 n2 (by omega) (by omega) v20 (by omega)
    generalize n * (v1 - 4) + v2 - 1 = near at hnear ⊢
    refine ⟨dk, gr, _, rfl, Dc, by decide, fun v3 Hd v30 v31 Dd sd => ?_⟩
    walk_at "go"
    have hsmall := near_small (x := v3 - 11) (by omega) (by omega)
    generalize v3 - 11 = small at hsmall ⊢
    refine l_I ⟨by decide, by decide, by decide⟩ ?_
    walk_at "go"
    refine ⟨dk, gr, _, rfl, Dd, by decide, fun v4 He v40 v41 De se => ?_⟩
    have v42 : v4 < 1000000 := by
      have : (10 : Int) ^ (6 : Int).toNat = 1000000 := by decide
      rw [this] at v41; omega
    walk_at "go"
    refine l_I ⟨by decide, by decide, by decide⟩ ?_
    walk_at "go"
    refine l_I (.inl ⟨by omega, by omega⟩) ?_
    walk_at "go"
    refine l_I ⟨by decide, by decide, by decide⟩ ?_
    walk_at "go"
    refine ⟨dk, gr, _, rfl, De, by decide, fun v5 Hf v50 v51 Df sf => ?_⟩
    have v52 : v5 < 1000000 := by
      have : (10 : Int) ^ (6 : Int).toNat = 1000000 := by decide
      rw [this] at v51; omega
    walk_at "go"
    refine l_I ⟨by decide, by decide, by decide⟩ ?_
    walk_at "go"
    refine l_I (.inl ⟨by omega, by omega⟩) ?_
    walk_at "go"
    refine l_I ⟨by decide, by decide, by decide⟩ ?_
    walk_at "go"
    refine ⟨dk, gr, _, rfl, Df, by decide, fun v6 Hg v60 v61 Dg sg => ?_⟩
    have v62 : v6 < 1000000 := by
      have : (10 : Int) ^ (6 : Int).toNat = 1000000 := by decide
      rw [this] at v61; omega
    walk_at "go"
    refine ⟨sz (by simp), fun a1 n1' => ?_⟩
    have t1 := same_new (o := .lst [.int 1, .int (-1)]) n1'
    have D1 := deck_new Dg t1
    refine ⟨dk, gr, a1, [.int 1, .int (-1)], rfl, D1, sq_l (hid_put (deck_ne Dg n1').2.2 upd_same), by simp, by simp, fun x Hh hx Dh sh => ?_⟩
    have hk : ∃ k : Int, x = .int k ∧ (k = 1 ∨ k = -1) := by
      rcases List.mem_cons.mp hx with e | hx
      · exact ⟨1, e, .inl rfl⟩
      · exact ⟨-1, List.mem_singleton.mp hx, .inr rfl⟩
    obtain ⟨k, rfl, hk⟩ := hk
    walk_at "go"
    refine l_I (.inr ⟨by omega, by omega⟩) ?_
    walk_at "go"
    have hfar := near_far v40 v42 v50 v52 v60 v62 hk
    have ep : (10 : Int) ^ (54 : Int).toNat = 10 ^ 54 := rfl
    have ep2 : (10 : Int) ^ (27 : Int).toNat = 10 ^ 27 := rfl
    rw [ep, ep2]
    generalize (v4 * 10 ^ 54 + v5 * 10 ^ 27 + v6 + 1) * k = far at hfar ⊢
    have sx := (sa.trans (sb.trans (sc.trans (sd.trans (se.trans (sf.trans (sg.trans ((same_hid t1).trans sh))))))))
    have ef2 := st fdk.2.2 ef sx
    have eZ2 := st Zd eZ sx
    have sA2 := sA.trans sx
    clear sa sb sc sd se sf sg t1 sh D1 sx
    -- the five of them
    refine l_tyL (sq_l ef2) ?_
    walk_at "go"
    refine ⟨sz (by simp), fun a2 n2' => ?_⟩
    have t2 := same_new (o := .lst [.int small, .int near]) n2'
    refine ⟨dk, gr, a2, [.int small, .int near], rfl, deck_new Dh t2, sq_l (hid_put (deck_ne Dh n2').2.2 upd_same), by simp, by simp, fun x Hi hx Di si => ?_⟩
    have hx1 : ∃ k : Int, x = .int k ∧ Near k := by
      rcases List.mem_cons.mp hx with e | hx
      · exact ⟨_, e, hsmall⟩
      · exact ⟨_, List.mem_singleton.mp hx, hnear⟩
    obtain ⟨x1, rfl, hx1⟩ := hx1
    walk_at "go"
    refine ⟨sz (by simp), fun a3 n3' => ?_⟩
    have t3 := same_new (o := .lst [.int 0, .int (-1), .int far, .int near]) n3'
    refine ⟨dk, gr, a3, [.int 0, .int (-1), .int far, .int near], rfl, deck_new Di t3, sq_l (hid_put (deck_ne Di n3').2.2 upd_same), by simp, by simp, fun x Hj hx Dj sj => ?_⟩
    have hx2 : ∃ k : Int, x = .int k ∧ Near k := by
      simp only [List.mem_cons, List.not_mem_nil, or_false] at hx
      rcases hx with e | e | e | e
      · exact ⟨_, e, near_small (by omega) (by omega)⟩
      · exact ⟨_, e, near_small (by omega) (by omega)⟩
      · exact ⟨_, e, hfar⟩
      · exact ⟨_, e, hnear⟩
    obtain ⟨x2, rfl, hx2⟩ := hx2
    refine ⟨sz (by simp), fun a4 n4' => ?_⟩
    have t4 := same_new (o := .lst [.int small, .int near, .int x1, .int far, .int x2]) n4'
    have sy := (same_hid (D := [dk, gr]) t2).trans (si.trans ((same_hid t3).trans (sj.trans (same_hid t4))))
    obtain ⟨z, ez, hz⟩ := at_nat (xs := [V.int small, V.int near, V.int x1, V.int far, V.int x2]) (v := way) w0 (by simp; omega)
    have hz2 : ∃ k : Int, z = .int k ∧ Near k := by
      simp only [List.mem_cons, List.not_mem_nil, or_false] at hz
      rcases hz with e | e | e | e | e
      · exact ⟨_, e, hsmall⟩
      · exact ⟨_, e, hnear⟩
      · exact ⟨_, e, hx1⟩
      · exact ⟨_, e, hfar⟩
      · exact ⟨_, e, hx2⟩
    obtain ⟨x3, rfl, hx3⟩ := hz2
    walk_at "go"
    refine l_ixL (sq_l upd_same) ez ?_
    have ef3 := st fdk.2.2 ef2 sy
    have eZ3 := st Zd eZ2 sy
    walk_at "go"
    refine l_app ef3 (sz1 (by rw [List.length_map]; omega)) ?_
    refine ⟨_, _, _, _, _, rs ++ [x3], rfl, by rw [List.length_append, hl]; rfl, fun x hx => ?_, by rw [upd_same, List.map_append]; rfl, by rw [upd_ne fZ]; exact eZ3, deck_mut (deck_new Dj t4) fdk.1 fdk.2.1, hid_mut (sA2.trans sy) nf0⟩
    rcases List.mem_append.mp hx with h | h
    · exact hrs x h
    · rw [List.mem_singleton.mp h]; exact hx3
  · obtain ⟨y5, y6, y7, y8, y9, rs, rfl, hl, hrs, ef, eZ, D, sA⟩ := h
    walk_at "go"
    refine ⟨f, _, rfl, .inl ⟨sq_l ef, fun p np => ?_⟩⟩
    exact q rs p _ (by rw [hl]; rfl) hrs upd_same (deck_new D (same_new np)) (sA.trans (same_hid (same_new np)))

end
end SC
namespace SC
open PySem PySem.Spec PyProof.Rows L2 StrLaws
local macro_rules | `(tactic| walk_at "go") => `(tactic| ((try dsimp only [cxOf, Cx.nox, Cx.wish]); repeat (first
  | (with_reducible refine g_seq ?_)
  | (with_reducible refine g_asg ?_)
  | (with_reducible refine g_asg2 ?_)
  | (with_reducible refine g_ret ?_)
  | (with_reducible refine g_drop ?_)
  | (with_reducible refine g_next ?_)
  | (with_reducible refine g_ifs ?_)
  | (with_reducible refine g_par ?_)
  | (with_reducible refine g_par3 ?_)
  | ((with_reducible refine' g_var ?hv ?_); (case hv => exact rfl))
  | (with_reducible refine g_c ?_)
  | ((with_reducible refine' g_aug ?hv ?_); (case hv => exact rfl))
  | (with_reducible refine l_ip ?_)
  | (with_reducible refine g_op ?_)
  | (with_reducible refine g_un ?_)
  | (with_reducible refine g_cons ?_)
  | (with_reducible refine g_nil ?_)
  | (with_reducible refine g_cb ?_)
  | (with_reducible refine g_call ?_)
  | (with_reducible refine g_callK ?_)
  | (with_reducible refine g_test ?_)
  | (with_reducible refine g_b ?_)
  | (with_reducible refine g_not ?_)
  | (with_reducible refine g_chain ?_)
  | (with_reducible refine g_notV ?_)
  | (with_reducible refine g_and ?_)
  | (with_reducible refine g_or ?_)
  | (with_reducible refine g_ifx ?_)
  | (with_reducible refine g_isN ?_)
  | (with_reducible refine g_notN ?_)
  | (with_reducible refine g_andV ?_)
  | (with_reducible refine g_bm ?_)
  | (with_reducible refine g_bm0 ?_)
  | (with_reducible refine g_sl ?_)
  | (with_reducible refine g_part ?_)
  | (with_reducible refine g_nopart ?_)
  | (with_reducible refine g_dget ?_)
  | (with_reducible refine g_dput ?_)
  | (with_reducible refine g_tup ?_)
  | (with_reducible refine g_lst ?_)
  | (with_reducible refine g_yes ?_)
  | (with_reducible refine g_name ?_)
  | (with_reducible refine g_gsub ?_)
  | (with_reducible refine g_iList ?_)
  | (with_reducible refine g_iTup ?_)
  | (with_reducible refine g_for ?_)
  | (with_reducible refine g_lc ?_)
  | (with_reducible refine g_rng1 ?_)
  | (with_reducible refine g_iZip ?_)
  | (with_reducible refine g_allT ?_)
  | (with_reducible refine g_iZipA ?_)
  | (with_reducible refine g_iZip3 ?_)
  | (with_reducible refine g_dcT ?_)
  | (with_reducible refine g_dc ?_)
  | (with_reducible refine g_iEnumT ?_)
  | (with_reducible refine g_lstRg ?_)
  | (with_reducible refine g_rg1 ?_)
  | (with_reducible refine g_gcons ?_)
  | (with_reducible refine g_gnil ?_)
  | (with_reducible refine l_bl ?_)
  | (with_reducible refine l_int ?_)
  | (with_reducible refine l_two ?_)
  | (with_reducible refine l_three ?_)
  | (with_reducible refine l_I0 ?_)
  | (with_reducible refine l_U ?_)
  | dsimp only)))
section
variable {P : Program} {w : World} {K : PySem.W.Frag} {mg : Str → Option Value} {base : Heap}
/-! ### fraction_of, scaled, sum_of -/
def fracD (f : Int × Int) : PyData := .tuple [.int f.1, .int f.2]
theorem frac_at {H : Hp} {fs : List (Int × Int)} {xs : List V} {i : Nat} {x : V} (h : DpAll K H xs (fs.map fracD)) (hx : xs[i]? = some x) : ∃ f q, fs[i]? = some f ∧ x = .ref q ∧ SqT K H q [.int f.1, .int f.2] := by
  obtain ⟨d, h1, h2⟩ := dps_get h hx
  rw [List.getElem?_map] at h1
  cases e : fs[i]? with
  | none => rw [e] at h1; cases h1
  | some f =>
    rw [e] at h1
    have e2 : fracD f = d := Option.some.inj h1
    subst e2
    obtain ⟨q, rfl⟩ := dp_tuple h2
    obtain ⟨vs, k1, k2⟩ := dp_tup h2
    cases k2 with
    | cons k3 k4 =>
      cases k4 with
      | cons k5 k6 =>
        cases k6
        obtain rfl := dp_int k3
        obtain rfl := dp_int k5
        exact ⟨f, q, rfl, rfl, k1⟩
theorem fracD_t (fs : List (Int × Int)) : tupAll (fs.map fracD) = true := tupAll_mem.mpr fun d hd => by
  obtain ⟨f, _, rfl⟩ := List.mem_map.mp hd
  simp only [fracD, tupD, tupAll, Bool.and_self]
def spFrac : Sp := fun vs H Q _ => ∃ a b : Int, vs = [.int a, .int b] ∧ 0 < b ∧ b.natAbs ≤ 2 ^ 8000 ∧ ∀ (p : Addr) (H' : Hp), H' p = some (.tup [.int (lst a b).1, .int (lst a b).2]) → Same H H' → Q (.ref p) H'
theorem ok_fraction_of (T : Tx K mg) : FnOk P w K mg base CX0 1 T.f_fraction_of T.fd_fraction_of ["above", "below"] spFrac := by
  refine T.F_fraction_of.ok sc_fraction_of (fun vs H Q E h => ?_) (fun cdv A outer s H vs Q E hr h => ?_)
  · obtain ⟨_, _, rfl, _⟩ := h
    rfl
  obtain ⟨a, b, rfl, hb, hb2, q⟩ := h
  refine ⟨_, (pss_cons (ps_set (i := 2) sc_fraction_of.nd rfl (Or.inl rfl) (pe_callBfun cr_gcd (by rfl) T.c_gcd (pa_cons (pv 0) (pa_cons (pv 1) pa_nil))))
      (pss_one (ps_ret (pe_tup (pa_cons (pe_op op_fdivW (pv 0) (pv 2)) (pa_cons (pe_op op_fdivW (pv 1) (pv 2)) pa_nil)))))), ?_⟩
  walk_at "go"
  refine ⟨a, b, rfl, ?_⟩
  walk_at "go"
  refine l_I (gcd_div hb hb2 (by decide) a) ?_
  walk_at "go"
  refine l_I (gcd_div hb hb2 (by decide) b) ?_
  walk_at "go"
  refine ⟨sz (by simp), fun p np => ?_⟩
  exact q p _ upd_same (same_new np)
def spScaled (K : PySem.W.Frag) : Sp := fun vs H Q _ => ∃ (f : Addr) (a b k d : Int), vs = [.ref f, .int k, .int d] ∧ SqT K H f [.int a, .int b] ∧ 0 < b ∧ 0 < d ∧ CMulW a k ∧ CMulW b d ∧ (b * d).natAbs ≤ 2 ^ 8000 ∧
  ∀ (p : Addr) (H' : Hp), H' p = some (.tup [.int (lst (a * k) (b * d)).1, .int (lst (a * k) (b * d)).2]) → Same H H' → Q (.ref p) H'
theorem ok_scaled (T : Tx K mg) : FnOk P w K mg base CX0 2 T.f_scaled T.fd_scaled ["fraction", "factor", "divisor"] (spScaled K) := by
  refine T.F_scaled.ok sc_scaled (fun vs H Q E h => ?_) (fun cdv A outer s H vs Q E hr h => ?_)
  · obtain ⟨_, _, _, _, _, rfl, _⟩ := h
    rfl
  obtain ⟨f, a, b, k, d, rfl, hf, hb, hd, m1, m2, hbd, q⟩ := h
  refine ⟨_, (pss_one (ps_ret (pe_call (ok_fraction_of T) (hr.mono (by first | decide | omega)) (by rfl) T.g_fraction_of T.F_fraction_of.kp T.b_fraction_of .nil pass0 (pa_cons (pe_op op_mulW (pe_ix ix_tup (pv 0) pe_int (fun _ _ => rfl)) (pv 1)) (pa_cons (pe_op op_mulW (pe_ix ix_tup (pv 0) pe_int (fun _ _ => rfl)) (pv 2)) pa_nil))))), ?_⟩
  walk_at "go"
  refine l_ixT hf rfl ?_
  walk_at "go"
  refine l_I m1 ?_
  walk_at "go"
  refine l_ixT hf rfl ?_
  walk_at "go"
  refine l_I m2 ?_
  walk_at "go"
  exact ⟨_, _, rfl, Int.mul_pos hb hd, hbd, q⟩
/-- fractions whose sums are not too great -/
structure FracsOk (fs : List (Int × Int)) : Prop where
  pos : ∀ f ∈ fs, 0 < f.2
  one : ∀ f ∈ fs, f.1.natAbs ≤ 2 ^ 100000 ∧ f.2.natAbs ≤ 2 ^ 3000
  sum : ∀ i, (sumF (fs.take i)).1.natAbs ≤ 2 ^ 100000 ∧ (sumF (fs.take i)).2.natAbs ≤ 2 ^ 3000
theorem sumF_pos {fs : List (Int × Int)} (h : ∀ f ∈ fs, 0 < f.2) : ∀ i, 0 < (sumF (fs.take i)).2
  | 0 => by simp [sumF]
  | i + 1 => by
    have ih := sumF_pos h i
    cases e : fs[i]? with
    | none =>
      have hl : fs.length ≤ i := List.getElem?_eq_none_iff.mp e
      rw [List.take_of_length_le (show fs.length ≤ i + 1 by omega), ← List.take_of_length_le hl]
      exact ih
    | some f =>
      rw [sumF_take e]
      exact lst_pos (Int.mul_pos ih (h f (List.mem_of_getElem? e)))
def spSum (K : PySem.W.Frag) : Sp := fun vs H Q _ => ∃ (l : Addr) (xs : List V) (fs : List (Int × Int)), vs = [.ref l] ∧ SqL K H l xs ∧ DpAll K H xs (fs.map fracD) ∧ FracsOk fs ∧
  ∀ (p : Addr) (H' : Hp), H' p = some (.tup [.int (sumF fs).1, .int (sumF fs).2]) → Same H H' → Q (.ref p) H'
theorem ok_sum_of (T : Tx K mg) : FnOk P w K mg base CX0 2 T.f_sum_of T.fd_sum_of ["fractions"] (spSum K) := by
  refine T.F_sum_of.ok sc_sum_of (fun vs H Q E h => ?_) (fun cdv A outer s H vs Q E hr h => ?_)
  · obtain ⟨_, _, _, rfl, _⟩ := h
    rfl
  obtain ⟨l, xs, fs, rfl, hl, hd, F, q⟩ := h
  refine ⟨_, (pss_cons (ps_asg (pe_tup (pa_cons pe_int (pa_cons pe_int pa_nil))) (pg_tup (by rfl) (pgs_cons (pg_name (i := 1) sc_sum_of.nd rfl (Or.inl rfl)) (pgs_cons (pg_name (i := 2) sc_sum_of.nd rfl (Or.inl rfl)) pgs_nil))))
      (pss_cons (ps_for PassesOwn.never rfl (pi_list (pv 0)) (pg_tup (by rfl) (pgs_cons (pg_name (i := 3) sc_sum_of.nd rfl (Or.inl rfl)) (pgs_cons (pg_name (i := 4) sc_sum_of.nd rfl (Or.inl rfl)) pgs_nil))) (pss_one (ps_asg (pe_call (ok_fraction_of T) (hr.mono (by first | decide | omega)) (by rfl) T.g_fraction_of T.F_fraction_of.kp T.b_fraction_of .nil pass0 (pa_cons (pe_op op_add (pe_op op_mulW (pv 1) (pv 4)) (pe_op op_mulW (pv 3) (pv 2))) (pa_cons (pe_op op_mulW (pv 2) (pv 4)) pa_nil))) (pg_tup (by rfl) (pgs_cons (pg_name (i := 1) sc_sum_of.nd rfl (Or.inl rfl)) (pgs_cons (pg_name (i := 2) sc_sum_of.nd rfl (Or.inl rfl)) pgs_nil))))))
      (pss_one (ps_ret (pe_tup (pa_cons (pv 1) (pa_cons (pv 2) pa_nil))))))), ?_⟩
  have hlen : xs.length = fs.length := by rw [dps_len hd, List.length_map]
  walk_at "go"
  refine ⟨sz (by simp), fun p0 np0 => ?_⟩
  refine g_gtup (sq_t upd_same) rfl ?_
  have s0 := same_new (o := .tup [.int 0, .int 1]) np0
  generalize upd H p0 (.tup [.int 0, .int 1]) = H0 at s0 ⊢
  walk_at "go"
  refine ⟨l, rfl, ⟨xs, s0.seq hl⟩, ?_⟩
  refine for_L (xs := xs) (fun i σ H' => ∃ y3 y4, σ = [some (.ref l), some (.int (sumF (fs.take i)).1), some (.int (sumF (fs.take i)).2), y3, y4] ∧ Same H H') ⟨none, none, rfl, s0⟩ (fun i σ H' _ h => ?_) (fun i x σ H' hx h => ?_) (fun σ H' h => ?_)
  · obtain ⟨_, _, _, s⟩ := h
    exact s.seq hl
  · obtain ⟨y3, y4, rfl, s⟩ := h
    obtain ⟨f, p, hf, rfl, hp⟩ := frac_at hd hx
    have fm := List.mem_of_getElem? hf
    obtain ⟨o1, o2⟩ := F.one f fm
    obtain ⟨t1, t2⟩ := F.sum i
    have tp := sumF_pos F.pos i
    have fp := F.pos f fm
    have e := sumF_take hf
    refine g_gtup (same_t s hp) rfl ?_
    walk_at "go"
    refine l_I (big_mul t1 o2 (by decide)) ?_
    walk_at "go"
    refine l_I (big_mul o1 t2 (by decide)) ?_
    walk_at "go"
    refine l_I (big_mul t2 o2 (by decide)) ?_
    walk_at "go"
    refine ⟨_, _, rfl, Int.mul_pos tp fp, Nat.le_trans (big_prod t2 o2) (Nat.pow_le_pow_right (by decide) (by decide)), fun p2 H2 ep s2 => ?_⟩
    refine g_gtup (sq_t ep) rfl ?_
    walk_at "go"
    refine ⟨some (.int f.1), some (.int f.2), ?_, s.trans s2⟩
    rw [e]
    rfl
  · obtain ⟨y3, y4, rfl, s⟩ := h
    rw [hlen, List.take_length]
    walk_at "go"
    refine ⟨sz (by simp), fun p np => ?_⟩
    exact q p _ upd_same (s.trans (same_new np))

end
end SC
namespace SC
open PySem PySem.Spec PyProof.Rows L2 StrLaws
local macro_rules | `(tactic| walk_at "go") => `(tactic| ((try dsimp only [cxOf, Cx.nox, Cx.wish]); repeat (first
  | (with_reducible refine g_seq ?_)
  | (with_reducible refine g_asg ?_)
  | (with_reducible refine g_asg2 ?_)
  | (with_reducible refine g_ret ?_)
  | (with_reducible refine g_drop ?_)
  | (with_reducible refine g_next ?_)
  | (with_reducible refine g_ifs ?_)
  | (with_reducible refine g_par ?_)
  | (with_reducible refine g_par3 ?_)
  | ((with_reducible refine' g_var ?hv ?_); (case hv => exact rfl))
  | (with_reducible refine g_c ?_)
  | ((with_reducible refine' g_aug ?hv ?_); (case hv => exact rfl))
  | (with_reducible refine l_ip ?_)
  | (with_reducible refine g_op ?_)
  | (with_reducible refine g_un ?_)
  | (with_reducible refine g_cons ?_)
  | (with_reducible refine g_nil ?_)
  | (with_reducible refine g_cb ?_)
  | (with_reducible refine g_call ?_)
  | (with_reducible refine g_callK ?_)
  | (with_reducible refine g_test ?_)
  | (with_reducible refine g_b ?_)
  | (with_reducible refine g_not ?_)
  | (with_reducible refine g_chain ?_)
  | (with_reducible refine g_notV ?_)
  | (with_reducible refine g_and ?_)
  | (with_reducible refine g_or ?_)
  | (with_reducible refine g_ifx ?_)
  | (with_reducible refine g_isN ?_)
  | (with_reducible refine g_notN ?_)
  | (with_reducible refine g_andV ?_)
  | (with_reducible refine g_bm ?_)
  | (with_reducible refine g_bm0 ?_)
  | (with_reducible refine g_sl ?_)
  | (with_reducible refine g_part ?_)
  | (with_reducible refine g_nopart ?_)
  | (with_reducible refine g_dget ?_)
  | (with_reducible refine g_dput ?_)
  | (with_reducible refine g_tup ?_)
  | (with_reducible refine g_lst ?_)
  | (with_reducible refine g_yes ?_)
  | (with_reducible refine g_name ?_)
  | (with_reducible refine g_gsub ?_)
  | (with_reducible refine g_iList ?_)
  | (with_reducible refine g_iTup ?_)
  | (with_reducible refine g_for ?_)
  | (with_reducible refine g_lc ?_)
  | (with_reducible refine g_rng1 ?_)
  | (with_reducible refine g_iZip ?_)
  | (with_reducible refine g_allT ?_)
  | (with_reducible refine g_iZipA ?_)
  | (with_reducible refine g_iZip3 ?_)
  | (with_reducible refine g_dcT ?_)
  | (with_reducible refine g_dc ?_)
  | (with_reducible refine g_iEnumT ?_)
  | (with_reducible refine g_lstRg ?_)
  | (with_reducible refine g_rg1 ?_)
  | (with_reducible refine g_gcons ?_)
  | (with_reducible refine g_gnil ?_)
  | (with_reducible refine l_bl ?_)
  | (with_reducible refine l_int ?_)
  | (with_reducible refine l_two ?_)
  | (with_reducible refine l_three ?_)
  | (with_reducible refine l_I0 ?_)
  | (with_reducible refine l_U ?_)
  | dsimp only)))
section
variable {P : Program} {w : World} {K : PySem.W.Frag} {mg : Str → Option Value} {base : Heap}
/-! ### exact_of_thing, exact_of, error_of -/
theorem lst_by1 (a : Int) : lst a 1 = (a, 1) := by
  have h : gcdN a 1 = 1 := Nat.gcd_one_right _
  unfold lst
  rw [h]
  simp
def spExact (K : PySem.W.Frag) (n : Nat) : Sp := fun vs H Q _ => ∃ (v : V) (ra : Addr) (t : Th) (r : List Int) (B : Nat), vs = [v, .ref ra] ∧ Dp K H v t.toD ∧ SqT K H ra (r.map V.int) ∧ Runs t r B ∧ B ≤ 20000 ∧ t.dep ≤ n ∧
  ∀ (p : Addr) (H' : Hp), H' p = some (.tup [.int (lst (t.ex r).1 (t.ex r).2).1, .int (lst (t.ex r).1 (t.ex r).2).2]) → Same H H' → Q (.ref p) H'
theorem up3000 {x : Int} (h : x.natAbs ≤ 2 ^ 1196) : x.natAbs ≤ 2 ^ 3000 := Nat.le_trans h (Nat.pow_le_pow_right (by decide) (by decide))
theorem up100000 {x : Int} {B : Nat} (h : x.natAbs ≤ 2 ^ (B + 1201)) (hB : B ≤ 20000) : x.natAbs ≤ 2 ^ 100000 := Nat.le_trans h (Nat.pow_le_pow_right (by decide) (by omega))
theorem parts_ok {n c : Int} {ps : List (Int × Th)} {r : List Int} {B : Nat} (R : Runs (.st n c ps) r B) (hB : B ≤ 20000) : FracsOk (partsF r ps) := by
  refine ⟨fun f hf => ?_, fun f hf => ?_, fun i => ?_⟩
  · obtain ⟨p, hp, rfl⟩ := List.mem_map.mp hf
    exact lst_pos (R.part hp).pos
  · obtain ⟨p, hp, rfl⟩ := List.mem_map.mp hf
    refine ⟨Nat.le_trans (lst_le1 _ _) ?_, Nat.le_trans (lst_le2 _ _) (up3000 (R.part hp).ex2)⟩
    have h1 : p.1.natAbs ≤ 2 ^ 100 := Nat.le_trans (R.ws p hp) (by decide +kernel)
    exact Nat.le_trans (big_prod h1 (R.part hp).ex1) (Nat.pow_le_pow_right (by decide) (by omega))
  · rw [sumF_parts R.goodL]
    obtain ⟨h1, h2, h3⟩ := R.exT i
    exact ⟨Nat.le_trans (lst_le1 _ _) (up100000 h1 hB), Nat.le_trans (lst_le2 _ _) (up3000 h2)⟩
theorem exact_step (T : Tx K mg) {n : Nat} {spI : Sp} (ih : FnOk P w K mg base CX0 (n + 2) T.f_exact_of_thing T.fd_exact_of_thing ["thing", "row"] spI) (hi : ∀ m, n = m + 1 → ∀ vs H Q E, spExact K m vs H Q E → spI vs H Q E) :
    FnOk P w K mg base CX0 (n + 3) T.f_exact_of_thing T.fd_exact_of_thing ["thing", "row"] (spExact K n) := by
  refine T.F_exact_of_thing.ok (k := n + 2) sc_exact_of_thing (fun vs H Q E h => ?_) (fun cdv A outer s H vs Q E hr h => ?_)
  · obtain ⟨_, _, _, _, _, rfl, _⟩ := h
    rfl
  obtain ⟨v, ra, t, r, B, rfl, hd, hrow, R, hB, hdep, q⟩ := h
  refine ⟨_, (pss_cons (ps_if (pt_not (pt_val (pe_call (ok_is_stage T) (hr.mono (by first | decide | omega)) (by rfl) T.g_is_stage T.F_is_stage.kp T.b_is_stage .nil pass0 (pa_cons (pv 0) pa_nil)))) (pss_one (ps_ret (pe_tup (pa_cons (pe_ix ix_tup (pv 1) (pv 0) (fun _ _ => rfl)) (pa_cons pe_int pa_nil))))) pss_nil)
      (pss_cons (ps_asg (pv 0) (pg_tup (by rfl) (pgs_cons (pg_name (i := 2) sc_exact_of_thing.nd rfl (Or.inl rfl)) (pgs_cons (pg_name (i := 3) sc_exact_of_thing.nd rfl (Or.inl rfl)) (pgs_cons (pg_name (i := 4) sc_exact_of_thing.nd rfl (Or.inl rfl)) pgs_nil)))))
      (pss_cons (ps_set (i := 5) sc_exact_of_thing.nd rfl (Or.inl rfl) (pe_call (ok_sum_of T) (hr.mono (by first | decide | omega)) (by rfl) T.g_sum_of T.F_sum_of.kp T.b_sum_of .nil pass0 (pa_cons (pe_lc (own := [("weight", 6), ("beneath", 7)]) (g := (gTup _ 2 (gCons (gName 6) (gCons (gName 7) gNil)))) (tt := tYes) (by rfl) sc_exact_of_thing.nd (pi_tup (pv 4)) (blkOk_by (own := [("weight", 6), ("beneath", 7)]) (N := ["thing", "row", "divisor", "_", "parts", "whole", "weight", "beneath"]) (sc := defScope s_exact_of_thing) (by decide +kernel)) (fun _ _ _ _ _ => (pg_tup (by rfl) (pgs_cons (pg_name (i := 6) sc_exact_of_thing.nd rfl (Or.inl rfl)) (pgs_cons (pg_name (i := 7) sc_exact_of_thing.nd rfl (Or.inl rfl)) pgs_nil)))) (fun _ _ _ _ _ => pts_nil) (fun _ _ _ _ _ => (pe_call (ok_scaled T) (hr.mono (by first | decide | omega)) (by rfl) T.g_scaled T.F_scaled.kp T.b_scaled .nil pass0 (pa_cons (pe_call ih (hr.mono (by omega)) (by rfl) T.g_exact_of_thing T.F_exact_of_thing.kp T.b_exact_of_thing .nil pass0 (pa_cons (pv 7) (pa_cons (pv 1) pa_nil))) (pa_cons (pv 6) (pa_cons pe_int pa_nil)))))) pa_nil)))
      (pss_one (ps_ret (pe_call (ok_scaled T) (hr.mono (by first | decide | omega)) (by rfl) T.g_scaled T.F_scaled.kp T.b_scaled .nil pass0 (pa_cons (pv 5) (pa_cons pe_int (pa_cons (pv 2) pa_nil))))))))), ?_⟩
  walk_at "go"
  refine ⟨v, t, rfl, hd, fun i e => ?_, fun c d ps e => ?_⟩
  · subst e
    simp only [Th.toD] at hd
    obtain rfl := dp_int hd
    walk_at "go"
    rw [if_pos (by decide)]
    walk_at "go"
    have hi := R.ins i (by simp [Th.ins])
    refine l_ixT hrow (atI_row hi.1 hi.2) ?_
    walk_at "go"
    refine ⟨sz (by simp), fun p np => ?_⟩
    refine q p _ ?_ (same_new np)
    simp only [Th.ex, lst_by1]
    exact upd_same
  · subst e
    have hd0 := hd
    simp only [Th.toD] at hd0
    obtain ⟨tv, rfl⟩ := dp_tuple hd0
    obtain ⟨b, xs, ht, hb, hps⟩ := pl_at hd
    have hlen : xs.length = ps.length := by rw [dps_len hps, toDL_len]
    simp only [Th.dep] at hdep
    have hn := R.n0
    have hin := R.inp
    have hf := R.full
    simp only [Th.full, Bool.and_eq_true] at hf
    simp only [Th.nIn] at hin
    have hl2 := len_le_nIn hf.2
    walk_at "go"
    rw [if_neg (by decide)]
    walk_at "go"
    refine g_gtup ht rfl ?_
    walk_at "go"
    refine ⟨b, rfl, ⟨xs, hb⟩, fun D nD => ?_⟩
    refine lc_tup (xs := xs) (fun i H' => ∃ vs, H' D = some (.lst vs) ∧ DpAll K H' vs (((partsF r ps).take i).map fracD) ∧ Same H H') ⟨[], upd_same, .nil, same_new nD⟩ (fun i H' _ h => same_t h.choose_spec.2.2 hb) (fun i x H' hx h => ?_) (fun H' h => ?_)
    · obtain ⟨vs, eD, dv, s⟩ := h
      obtain ⟨w0, t0, q0, v0, hp, rfl, hq, hv⟩ := part_at hps hx
      have pm := List.mem_of_getElem? hp
      have pd := depL_le.mp (show depL ps ≤ n - 1 by omega) _ pm
      have pd2 := depL_le.mp (Nat.le_refl (depL ps)) _ pm
      simp only at pd pd2
      have il : i < ps.length := (List.getElem?_eq_some_iff.mp hp).1
      have vl := dps_len dv
      rw [List.length_map, List.length_take] at vl
      have R0 := R.part pm
      refine g_gtup (same_t s hq) rfl ?_
      walk_at "go"
      refine ⟨rfl, ?_⟩
      walk_at "go"
      rw [if_pos (by decide)]
      walk_at "go"
      obtain ⟨m, rfl⟩ : ∃ m, n = m + 1 := ⟨n - 1, by omega⟩
      refine hi m rfl _ _ _ _ ⟨v0, ra, t0, r, B, rfl, dp_same s hv, same_t s hrow, R0, hB, by omega, fun p H2 ep s2 => ?_⟩
      walk_at "go"
      have hw : w0.natAbs ≤ 2 ^ 100 := Nat.le_trans (R.ws _ pm) (by decide +kernel)
      have g1 : (lst (t0.ex r).1 (t0.ex r).2).1.natAbs ≤ 2 ^ (B + 1201) := Nat.le_trans (lst_le1 _ _) R0.ex1
      have g2 : (lst (t0.ex r).1 (t0.ex r).2).2.natAbs ≤ 2 ^ 1196 := Nat.le_trans (lst_le2 _ _) R0.ex2
      refine ⟨p, _, _, w0, 1, rfl, sq_t ep, lst_pos R0.pos, by decide, big_mul g1 hw (by omega), big_mul (y := 1) g2 (by decide) (by decide), ?_, fun p2 H3 ep2 s3 => ?_⟩
      · rw [Int.mul_one]; exact Nat.le_trans g2 (Nat.pow_le_pow_right (by decide) (by decide))
      have ss := s2.trans s3
      have eD3 := ss _ _ eD
      have tl := ts_lst (o := .lst (vs ++ [.ref p2])) eD3
      have ef : (partsF r ps)[i]? = some (lst (w0 * (t0.ex r).1) (t0.ex r).2) := by unfold partsF; rw [List.getElem?_map, hp]; rfl
      rw [lst_scaled R0.pos (by decide), Int.mul_one, Int.mul_comm _ w0] at ep2
      refine ⟨vs, eD3, sz1 (by omega), _, upd_same, ?_, same_mut (s.trans ss) nD⟩
      rw [take_one ef, List.map_append]
      refine dps_app (dps_t tl (fracD_t _) (dps_same ss dv)) (.cons (dp_t tl (show tupD (fracD (lst (w0 * (t0.ex r).1) (t0.ex r).2)) = true by simp only [fracD, tupD, tupAll, Bool.and_self]) (.tup (sq_t ep2) (.cons (.int _) (.cons (.int _) .nil)))) .nil)
    · obtain ⟨vs, eD, dv, s⟩ := h
      have hpl : (partsF r ps).length = ps.length := by unfold partsF; rw [List.length_map]
      rw [hlen, ← hpl, List.take_length] at dv
      walk_at "go"
      refine ⟨D, vs, partsF r ps, rfl, sq_l eD, dv, parts_ok R hB, fun p H2 ep s2 => ?_⟩
      rw [sumF_all R.goodL] at ep
      walk_at "go"
      have E := R.exT ps.length
      rw [List.take_length] at E
      obtain ⟨E1, E2, E3⟩ := E
      have g1 : (lst (exL r ps).1 (exL r ps).2).1.natAbs ≤ 2 ^ (B + 1201) := Nat.le_trans (lst_le1 _ _) E1
      have g2 : (lst (exL r ps).1 (exL r ps).2).2.natAbs ≤ 2 ^ 1196 := Nat.le_trans (lst_le2 _ _) E2
      have hc : c.natAbs ≤ 2 ^ 100 := Nat.le_trans (nat30 (by omega) hn.2) (by decide +kernel)
      refine ⟨p, _, _, 1, c, rfl, sq_t ep, lst_pos E3, by omega, big_mul (y := 1) g1 (by decide) (by omega), big_mul g2 hc (by decide), Nat.le_trans (big_prod g2 hc) (Nat.pow_le_pow_right (by decide) (by decide)), fun p2 H3 ep2 s3 => ?_⟩
      rw [lst_scaled E3 (by omega), Int.mul_one] at ep2
      refine q p2 H3 ?_ (s.trans (s2.trans s3))
      simp only [Th.ex]
      exact ep2
theorem ok_exact_of_thing (T : Tx K mg) : ∀ n : Nat, FnOk P w K mg base CX0 (n + 3) T.f_exact_of_thing T.fd_exact_of_thing ["thing", "row"] (spExact K n)
  | 0 => exact_step T fn_none fun m e => by cases e
  | n + 1 => exact_step T (ok_exact_of_thing T n) fun m e => by cases e; exact fun _ _ _ _ h => h
def spExactOf (K : PySem.W.Frag) : Sp := fun vs H Q _ => ∃ (v : V) (ra : Addr) (t : Th) (r : List Int) (B : Nat), vs = [v, .ref ra] ∧ Dp K H v t.toD ∧ SqT K H ra (r.map V.int) ∧ Runs t r B ∧ B ≤ 20000 ∧
  ∀ (p : Addr) (H' : Hp), H' p = some (.tup [.int (lst (t.ex r).1 (t.ex r).2).1, .int (lst (t.ex r).1 (t.ex r).2).2]) → Same H H' → Q (.ref p) H'
theorem ok_exact_of (T : Tx K mg) : FnOk P w K mg base CX0 44 T.f_exact_of T.fd_exact_of ["plan", "row"] (spExactOf K) := by
  refine T.F_exact_of.ok sc_exact_of (fun vs H Q E h => ?_) (fun cdv A outer s H vs Q E hr h => ?_)
  · obtain ⟨_, _, _, _, _, rfl, _⟩ := h
    rfl
  obtain ⟨v, ra, t, r, B, rfl, hd, hrow, R, hB, q⟩ := h
  refine ⟨_, (pss_one (ps_ret (pe_call (ok_exact_of_thing T 40) (hr.mono (by first | decide | omega)) (by rfl) T.g_exact_of_thing T.F_exact_of_thing.kp T.b_exact_of_thing .nil pass0 (pa_cons (pv 0) (pa_cons (pv 1) pa_nil))))), ?_⟩
  walk_at "go"
  exact ⟨v, ra, t, r, B, rfl, hd, hrow, R, hB, by have := R.dep; omega, q⟩

end
end SC
namespace SC
open PySem PySem.Spec PyProof.Rows L2 StrLaws
local macro_rules | `(tactic| walk_at "go") => `(tactic| ((try dsimp only [cxOf, Cx.nox, Cx.wish]); repeat (first
  | (with_reducible refine g_seq ?_)
  | (with_reducible refine g_asg ?_)
  | (with_reducible refine g_asg2 ?_)
  | (with_reducible refine g_ret ?_)
  | (with_reducible refine g_drop ?_)
  | (with_reducible refine g_next ?_)
  | (with_reducible refine g_ifs ?_)
  | (with_reducible refine g_par ?_)
  | (with_reducible refine g_par3 ?_)
  | ((with_reducible refine' g_var ?hv ?_); (case hv => exact rfl))
  | (with_reducible refine g_c ?_)
  | ((with_reducible refine' g_aug ?hv ?_); (case hv => exact rfl))
  | (with_reducible refine l_ip ?_)
  | (with_reducible refine g_op ?_)
  | (with_reducible refine g_un ?_)
  | (with_reducible refine g_cons ?_)
  | (with_reducible refine g_nil ?_)
  | (with_reducible refine g_cb ?_)
  | (with_reducible refine g_call ?_)
  | (with_reducible refine g_callK ?_)
  | (with_reducible refine g_test ?_)
  | (with_reducible refine g_b ?_)
  | (with_reducible refine g_not ?_)
  | (with_reducible refine g_chain ?_)
  | (with_reducible refine g_notV ?_)
  | (with_reducible refine g_and ?_)
  | (with_reducible refine g_or ?_)
  | (with_reducible refine g_ifx ?_)
  | (with_reducible refine g_isN ?_)
  | (with_reducible refine g_notN ?_)
  | (with_reducible refine g_andV ?_)
  | (with_reducible refine g_bm ?_)
  | (with_reducible refine g_bm0 ?_)
  | (with_reducible refine g_sl ?_)
  | (with_reducible refine g_part ?_)
  | (with_reducible refine g_nopart ?_)
  | (with_reducible refine g_dget ?_)
  | (with_reducible refine g_dput ?_)
  | (with_reducible refine g_tup ?_)
  | (with_reducible refine g_lst ?_)
  | (with_reducible refine g_yes ?_)
  | (with_reducible refine g_name ?_)
  | (with_reducible refine g_gsub ?_)
  | (with_reducible refine g_iList ?_)
  | (with_reducible refine g_iTup ?_)
  | (with_reducible refine g_for ?_)
  | (with_reducible refine g_lc ?_)
  | (with_reducible refine g_rng1 ?_)
  | (with_reducible refine g_iZip ?_)
  | (with_reducible refine g_allT ?_)
  | (with_reducible refine g_iZipA ?_)
  | (with_reducible refine g_iZip3 ?_)
  | (with_reducible refine g_dcT ?_)
  | (with_reducible refine g_dc ?_)
  | (with_reducible refine g_iEnumT ?_)
  | (with_reducible refine g_lstRg ?_)
  | (with_reducible refine g_rg1 ?_)
  | (with_reducible refine g_gcons ?_)
  | (with_reducible refine g_gnil ?_)
  | (with_reducible refine l_bl ?_)
  | (with_reducible refine l_int ?_)
  | (with_reducible refine l_two ?_)
  | (with_reducible refine l_three ?_)
  | (with_reducible refine l_I0 ?_)
  | (with_reducible refine l_U ?_)
  | dsimp only)))
section
variable {P : Program} {w : World} {K : PySem.W.Frag} {mg : Str → Option Value} {base : Heap}
/-! ### _law_least, _law_exact -/
theorem ok_l_least (T : Tx K mg) : FnOk P w K mg base CX0 2 T.f_l_least T.fd_l_least ["above", "below"] spFrac := by
  refine T.F_l_least.ok sc_l_least (fun vs H Q E h => ?_) (fun cdv A outer s H vs Q E hr h => ?_)
  · obtain ⟨_, _, rfl, _⟩ := h
    rfl
  obtain ⟨a, b, rfl, hb, hb2, q⟩ := h
  refine ⟨_, (pss_cons (ps_set (i := 2) sc_l_least.nd rfl (Or.inl rfl) (pe_call (ok_l_divisor_of T) (hr.mono (by first | decide | omega)) (by rfl) T.g_l_divisor_of T.F_l_divisor_of.kp T.b_l_divisor_of .nil pass0 (pa_cons (pv 0) (pa_cons (pv 1) pa_nil))))
      (pss_one (ps_ret (pe_tup (pa_cons (pe_op op_fdivW (pv 0) (pv 2)) (pa_cons (pe_op op_fdivW (pv 1) (pv 2)) pa_nil)))))), ?_⟩
  walk_at "go"
  refine ⟨a, b, rfl, ?_⟩
  walk_at "go"
  refine l_I (gcd_div hb hb2 (by decide) a) ?_
  walk_at "go"
  refine l_I (gcd_div hb hb2 (by decide) b) ?_
  walk_at "go"
  refine ⟨sz (by simp), fun p np => ?_⟩
  exact q p _ upd_same (same_new np)
/-- a part with its exact value -/
def pexD (r : List Int) (p : Int × Th) : PyData := .tuple [.int p.1, .tuple [.int (p.2.ex r).1, .int (p.2.ex r).2]]
theorem pex_at {H : Hp} {r : List Int} {ps : List (Int × Th)} {xs : List V} {i : Nat} {x : V} (h : DpAll K H xs (ps.map (pexD r))) (hx : xs[i]? = some x) :
    ∃ w t q q2, ps[i]? = some (w, t) ∧ x = .ref q ∧ SqT K H q [.int w, .ref q2] ∧ SqT K H q2 [.int (t.ex r).1, .int (t.ex r).2] := by
  obtain ⟨d, h1, h2⟩ := dps_get h hx
  rw [List.getElem?_map] at h1
  cases e : ps[i]? with
  | none => rw [e] at h1; cases h1
  | some p =>
    rw [e] at h1
    have e2 : pexD r p = d := Option.some.inj h1
    subst e2
    obtain ⟨q, rfl⟩ := dp_tuple h2
    obtain ⟨vs, k1, k2⟩ := dp_tup h2
    cases k2 with
    | cons k3 k4 =>
      cases k4 with
      | cons k5 k6 =>
        cases k6
        obtain rfl := dp_int k3
        obtain ⟨q2, rfl⟩ := dp_tuple k5
        obtain ⟨vs2, m1, m2⟩ := dp_tup k5
        cases m2 with
        | cons m3 m4 =>
          cases m4 with
          | cons m5 m6 =>
            cases m6
            obtain rfl := dp_int m3
            obtain rfl := dp_int m5
            exact ⟨p.1, p.2, q, q2, rfl, rfl, k1, m1⟩
theorem at_last (xs : List V) (x : V) : atI (xs ++ [x]) (-1) = some x := by
  have h : atI (xs ++ [x]) (-1) = (xs ++ [x])[xs.length]? := by
    unfold atI ixN
    simp
    rw [if_pos (by omega), show (-1 + ((xs.length : Int) + 1)).toNat = xs.length by omega]
    simp
  rw [h]
  simp
def spLEx (K : PySem.W.Frag) (n : Nat) : Sp := fun vs H Q _ => ∃ (v : V) (ra : Addr) (t : Th) (r : List Int) (B : Nat), vs = [v, .ref ra] ∧ Dp K H v t.toD ∧ SqT K H ra (r.map V.int) ∧ Runs t r B ∧ B ≤ 20000 ∧ t.dep ≤ n ∧
  ∀ (p : Addr) (H' : Hp), H' p = some (.tup [.int (t.ex r).1, .int (t.ex r).2]) → Same H H' → Q (.ref p) H'
theorem lexact_step (T : Tx K mg) {n : Nat} {spI : Sp} (ih : FnOk P w K mg base CX0 n T.f_l_exact T.fd_l_exact ["thing", "row"] spI) (hi : ∀ m, n = m + 1 → ∀ vs H Q E, spLEx K m vs H Q E → spI vs H Q E) :
    FnOk P w K mg base CX0 (n + 1) T.f_l_exact T.fd_l_exact ["thing", "row"] (spLEx K n) := by
  refine T.F_l_exact.ok (k := n) sc_l_exact (fun vs H Q E h => ?_) (fun cdv A outer s H vs Q E hr h => ?_)
  · obtain ⟨_, _, _, _, _, rfl, _⟩ := h
    rfl
  obtain ⟨v, ra, t, r, B, rfl, hd, hrow, R, hB, hdep, q⟩ := h
  refine ⟨_, (pss_cons (ps_if (pt_not (pt_val (pe_callB call_isi (by rfl) T.m_isinstance (by decide +kernel) (pa_cons (pv 0) (pa_cons (pe_bltn (by rfl) T.m_tuple (by decide +kernel) (show RelV (.ty "tuple") _ from rfl)) pa_nil))))) (pss_one (ps_ret (pe_tup (pa_cons (pe_ix ix_tup (pv 1) (pv 0) (fun _ _ => rfl)) (pa_cons pe_int pa_nil))))) pss_nil)
      (pss_cons (ps_par3 (i := 2) (j := 3) (l := 4) (by rfl) sc_l_exact.nd rfl rfl rfl (by decide) (by decide) (by decide) rfl rfl rfl (pa_cons (pe_lst pa_nil) (pa_cons pe_int (pa_cons pe_int pa_nil))) (by rfl))
      (pss_cons (ps_for PassesOwn.never rfl (pi_tup (pe_ix ix_tup (pv 0) pe_int (fun _ _ => rfl))) (pg_tup (by rfl) (pgs_cons (pg_name (i := 5) sc_l_exact.nd rfl (Or.inl rfl)) (pgs_cons (pg_name (i := 6) sc_l_exact.nd rfl (Or.inl rfl)) pgs_nil))) (pss_cons (ps_expr (pe_bm PySem.F.plainAttrs_list PySem.F.slot_list_append PySem.F.type_list_append mt_append (pv 2) (pa_cons (pe_tup (pa_cons (pv 5) (pa_cons (pe_call ih (hr.mono (by omega)) (by rfl) T.g_l_exact T.F_l_exact.kp T.b_l_exact .nil pass0 (pa_cons (pv 6) (pa_cons (pv 1) pa_nil))) pa_nil))) pa_nil)))
      (pss_one (ps_set (i := 3) sc_l_exact.nd rfl (Or.inl rfl) (pe_op op_mulW (pv 3) (pe_ix ix_tup (pe_ix ix_tup (pe_ix ix_list (pv 2) (pe_un un_neg pe_int) (fun _ _ => rfl)) pe_int (fun _ _ => rfl)) pe_int (fun _ _ => rfl)))))))
      (pss_cons (ps_for PassesOwn.never rfl (pi_list (pv 2)) (pg_tup (by rfl) (pgs_cons (pg_name (i := 5) sc_l_exact.nd rfl (Or.inl rfl)) (pgs_cons (pg_tup (by rfl) (pgs_cons (pg_name (i := 7) sc_l_exact.nd rfl (Or.inl rfl)) (pgs_cons (pg_name (i := 8) sc_l_exact.nd rfl (Or.inl rfl)) pgs_nil))) pgs_nil))) (pss_one (ps_set (i := 4) sc_l_exact.nd rfl (Or.inl rfl) (pe_op op_add (pv 4) (pe_op op_mulW (pe_op op_mulW (pv 5) (pv 7)) (pe_op op_fdivW (pv 3) (pv 8)))))))
      (pss_one (ps_ret (pe_tup (pa_cons (pv 4) (pa_cons (pe_op op_mulW (pv 3) (pe_ix ix_tup (pv 0) pe_int (fun _ _ => rfl))) pa_nil))))))))), ?_⟩
  walk_at "go"
  cases t with
  | inp i =>
    simp only [Th.toD] at hd
    obtain rfl := dp_int hd
    refine isi_it ?_
    walk_at "go"
    rw [if_pos (by decide)]
    walk_at "go"
    have hi := R.ins i (by simp [Th.ins])
    refine l_ixT hrow (atI_row hi.1 hi.2) ?_
    walk_at "go"
    refine ⟨sz (by simp), fun p np => ?_⟩
    refine q p _ ?_ (same_new np)
    simp only [Th.ex]
    exact upd_same
  | st c d ps =>
    have hd0 := hd
    simp only [Th.toD] at hd0
    obtain ⟨tv, rfl⟩ := dp_tuple hd0
    obtain ⟨b, xs, ht, hb, hps⟩ := pl_at hd
    have hlen : xs.length = ps.length := by rw [dps_len hps, toDL_len]
    simp only [Th.dep] at hdep
    have hn := R.n0
    have hin := R.inp
    have hf := R.full
    simp only [Th.full, Bool.and_eq_true] at hf
    simp only [Th.nIn] at hin
    have hl2 := len_le_nIn hf.2
    refine isi_tt ht ?_
    walk_at "go"
    rw [if_neg (by decide)]
    walk_at "go"
    refine ⟨sz (by simp), fun l nl => ?_⟩
    walk_at "go"
    have el0 := upd_same (H := H) (a := l) (o := .lst [])
    have s1 := same_new (o := .lst []) nl
    generalize upd H l (.lst []) = H1 at s1 el0 ⊢
    refine l_ixT (same_t s1 ht) rfl ?_
    walk_at "go"
    refine ⟨b, rfl, ⟨xs, same_t s1 hb⟩, ?_⟩
    refine for_T (xs := xs) (fun i σ H' => ∃ y5 y6 vs, σ = [some (.ref tv), some (.ref ra), some (.ref l), some (.int (exL r (ps.take i)).2), some (.int 0), y5, y6, none, none] ∧ H' l = some (.lst vs) ∧ DpAll K H' vs ((ps.take i).map (pexD r)) ∧ Same H H')
      ⟨none, none, [], by simp only [List.take_zero, exL]; rfl, el0, .nil, s1⟩ (fun i σ H' _ h => ?_) (fun i x σ H' hx h => ?_) (fun σ H' h => ?_)
    · obtain ⟨_, _, _, _, _, _, s⟩ := h
      exact same_t s hb
    · obtain ⟨y5, y6, vs, rfl, el, dv, s⟩ := h
      obtain ⟨w0, t0, q0, v0, hp, rfl, hq, hv⟩ := part_at hps hx
      have pm := List.mem_of_getElem? hp
      have pd := depL_le.mp (show depL ps ≤ n - 1 by omega) _ pm
      have pd2 := depL_le.mp (Nat.le_refl (depL ps)) _ pm
      simp only at pd pd2
      have il : i < ps.length := (List.getElem?_eq_some_iff.mp hp).1
      have vl := dps_len dv
      rw [List.length_map, List.length_take] at vl
      have R0 := R.part pm
      obtain ⟨T1, T2, T3⟩ := R.exT i
      refine g_gtup (same_t s hq) rfl ?_
      walk_at "go"
      refine l_tyL (sq_l el) ?_
      walk_at "go"
      obtain ⟨m, rfl⟩ : ∃ m, n = m + 1 := ⟨n - 1, by omega⟩
      refine hi m rfl _ _ _ _ ⟨v0, ra, t0, r, B, rfl, dp_same s hv, same_t s hrow, R0, hB, by omega, fun p H2 ep s2 => ?_⟩
      refine ⟨sz (by simp), fun p2 np2 => ?_⟩
      have s3 := same_new (o := .tup [.int w0, .ref p]) np2
      have ss := s2.trans s3
      have el3 := ss _ _ el
      walk_at "go"
      refine l_app el3 (sz1 (by omega)) ?_
      have tl := ts_lst (o := .lst (vs ++ [.ref p2])) el3
      have d2 : Dp K (upd H2 p2 (.tup [.int w0, .ref p])) (.ref p2) (pexD r (w0, t0)) := .tup (sq_t upd_same) (.cons (.int _) (.cons (.tup (sq_t (s3 _ _ ep)) (.cons (.int _) (.cons (.int _) .nil))) .nil))
      have dt : ∀ l : List (Int × Th), tupAll (l.map (pexD r)) = true := fun l => tupAll_mem.mpr fun d hd => by
        obtain ⟨f, _, rfl⟩ := List.mem_map.mp hd
        simp only [pexD, tupD, tupAll, Bool.and_self]
      have dv4 := dps_app (dps_t tl (dt _) (dps_same ss dv)) (.cons (dp_t tl (by simp only [pexD, tupD, tupAll, Bool.and_self]) d2) .nil)
      have q3 : SqT K (upd H2 p2 (.tup [.int w0, .ref p])) p2 [.int w0, .ref p] := sq_t upd_same
      have q4 : SqT K (upd H2 p2 (.tup [.int w0, .ref p])) p [.int (t0.ex r).1, .int (t0.ex r).2] := sq_t (s3 _ _ ep)
      have q3' := ts_t tl q3
      have q4' := ts_t tl q4
      have sM := same_mut (o := .lst (vs ++ [.ref p2])) (s.trans ss) nl
      have el4 : (upd (upd H2 p2 (.tup [.int w0, .ref p])) l (.lst (vs ++ [.ref p2]))) l = some (.lst (vs ++ [.ref p2])) := upd_same
      generalize upd (upd H2 p2 (.tup [.int w0, .ref p])) l (.lst (vs ++ [.ref p2])) = H4 at dv4 q3' q4' sM el4 ⊢
      walk_at "go"
      refine l_ixL (sq_l el4) (at_last vs _) ?_
      walk_at "go"
      refine l_ixT q3' rfl ?_
      walk_at "go"
      refine l_ixT q4' rfl ?_
      walk_at "go"
      refine l_I (big_mul T2 R0.ex2 (by decide)) ?_
      walk_at "go"
      refine ⟨some (.int w0), some v0, vs ++ [.ref p2], ?_, el4, ?_, sM⟩
      · rw [exL_take hp]; rfl
      · rw [take_one hp, List.map_append]; exact dv4
    · obtain ⟨y5, y6, vs, rfl, el, dv, s⟩ := h
      rw [hlen, List.take_length] at dv ⊢
      have vl := dps_len dv
      rw [List.length_map] at vl
      have E := R.exT ps.length
      rw [List.take_length] at E
      obtain ⟨E1, E2, E3⟩ := E
      walk_at "go"
      refine ⟨l, rfl, ⟨vs, sq_l el⟩, ?_⟩
      refine for_L (xs := vs) (fun i σ H2 => ∃ y5 y6 y7 y8, σ = [some (.ref tv), some (.ref ra), some (.ref l), some (.int (exL r ps).2), some (.int (lawS r (exL r ps).2 (ps.take i))), y5, y6, y7, y8] ∧ H2 = H') ⟨_, _, _, _, by simp only [List.take_zero, lawS]; rfl, rfl⟩ (fun i σ H2 _ h => ?_) (fun i x σ H2 hx h => ?_) (fun σ H2 h => ?_)
      · obtain ⟨_, _, _, _, _, rfl⟩ := h
        exact sq_l el
      · obtain ⟨y5, y6, y7, y8, rfl, rfl⟩ := h
        obtain ⟨w0, t0, q0, q2, hp, rfl, hq, hq2⟩ := pex_at dv hx
        have pm := List.mem_of_getElem? hp
        have R0 := R.part pm
        have hw : w0.natAbs ≤ 2 ^ 100 := Nat.le_trans (R.ws _ pm) (by decide +kernel)
        have tp : 0 < (t0.ex r).2 := R0.pos
        have tp1 : 1 ≤ (t0.ex r).2 := tp
        refine g_gtup hq rfl ?_
        walk_at "go"
        refine g_gtup hq2 rfl ?_
        walk_at "go"
        refine l_I (big_mul hw R0.ex1 (by omega)) ?_
        walk_at "go"
        refine l_I (wide_div (b := 1197) tp (Nat.lt_of_le_of_lt R0.ex2 (Nat.pow_lt_pow_right (by decide) (by decide))) (by decide) (by decide)) ?_
        walk_at "go"
        refine l_I (big_mul (big_prod hw R0.ex1) (Nat.le_trans (natAbs_ediv_le tp1) E2) (by omega)) ?_
        walk_at "go"
        refine ⟨some (.int w0), y6, some (.int (t0.ex r).1), some (.int (t0.ex r).2), ?_, rfl⟩
        rw [lawS_take hp]
        rfl
      · obtain ⟨y5, y6, y7, y8, rfl, rfl⟩ := h
        rw [vl, List.take_length, lawS_one R.goodL]
        walk_at "go"
        refine l_ixT (same_t s ht) rfl ?_
        walk_at "go"
        have hc : c.natAbs ≤ 2 ^ 100 := Nat.le_trans (nat30 (by omega) hn.2) (by decide +kernel)
        refine l_I (big_mul E2 hc (by decide)) ?_
        walk_at "go"
        refine ⟨sz (by simp), fun p np => ?_⟩
        refine q p _ ?_ (s.trans (same_new np))
        simp only [Th.ex]
        exact upd_same
theorem ok_l_exact (T : Tx K mg) : ∀ n : Nat, FnOk P w K mg base CX0 (n + 1) T.f_l_exact T.fd_l_exact ["thing", "row"] (spLEx K n)
  | 0 => lexact_step T fn_none fun m e => by cases e
  | n + 1 => lexact_step T (ok_l_exact T n) fun m e => by cases e; exact fun _ _ _ _ h => h

end
end SC
namespace SC
open PySem PySem.Spec PyProof.Rows L2 StrLaws
local macro_rules | `(tactic| walk_at "go") => `(tactic| ((try dsimp only [cxOf, Cx.nox, Cx.wish]); repeat (first
  | (with_reducible refine g_seq ?_)
  | (with_reducible refine g_asg ?_)
  | (with_reducible refine g_asg2 ?_)
  | (with_reducible refine g_ret ?_)
  | (with_reducible refine g_drop ?_)
  | (with_reducible refine g_next ?_)
  | (with_reducible refine g_ifs ?_)
  | (with_reducible refine g_par ?_)
  | (with_reducible refine g_par3 ?_)
  | ((with_reducible refine' g_var ?hv ?_); (case hv => exact rfl))
  | (with_reducible refine g_c ?_)
  | ((with_reducible refine' g_aug ?hv ?_); (case hv => exact rfl))
  | (with_reducible refine l_ip ?_)
  | (with_reducible refine g_op ?_)
  | (with_reducible refine g_un ?_)
  | (with_reducible refine g_cons ?_)
  | (with_reducible refine g_nil ?_)
  | (with_reducible refine g_cb ?_)
  | (with_reducible refine g_call ?_)
  | (with_reducible refine g_callK ?_)
  | (with_reducible refine g_test ?_)
  | (with_reducible refine g_b ?_)
  | (with_reducible refine g_not ?_)
  | (with_reducible refine g_chain ?_)
  | (with_reducible refine g_notV ?_)
  | (with_reducible refine g_and ?_)
  | (with_reducible refine g_or ?_)
  | (with_reducible refine g_ifx ?_)
  | (with_reducible refine g_isN ?_)
  | (with_reducible refine g_notN ?_)
  | (with_reducible refine g_andV ?_)
  | (with_reducible refine g_bm ?_)
  | (with_reducible refine g_bm0 ?_)
  | (with_reducible refine g_sl ?_)
  | (with_reducible refine g_part ?_)
  | (with_reducible refine g_nopart ?_)
  | (with_reducible refine g_dget ?_)
  | (with_reducible refine g_dput ?_)
  | (with_reducible refine g_tup ?_)
  | (with_reducible refine g_lst ?_)
  | (with_reducible refine g_yes ?_)
  | (with_reducible refine g_name ?_)
  | (with_reducible refine g_gsub ?_)
  | (with_reducible refine g_iList ?_)
  | (with_reducible refine g_iTup ?_)
  | (with_reducible refine g_for ?_)
  | (with_reducible refine g_lc ?_)
  | (with_reducible refine g_rng1 ?_)
  | (with_reducible refine g_iZip ?_)
  | (with_reducible refine g_allT ?_)
  | (with_reducible refine g_iZipA ?_)
  | (with_reducible refine g_iZip3 ?_)
  | (with_reducible refine g_dcT ?_)
  | (with_reducible refine g_dc ?_)
  | (with_reducible refine g_iEnumT ?_)
  | (with_reducible refine g_lstRg ?_)
  | (with_reducible refine g_rg1 ?_)
  | (with_reducible refine g_gcons ?_)
  | (with_reducible refine g_gnil ?_)
  | (with_reducible refine l_bl ?_)
  | (with_reducible refine l_int ?_)
  | (with_reducible refine l_two ?_)
  | (with_reducible refine l_three ?_)
  | (with_reducible refine l_I0 ?_)
  | (with_reducible refine l_U ?_)
  | dsimp only)))
section
variable {P : Program} {w : World} {K : PySem.W.Frag} {mg : Str → Option Value} {base : Heap}
/-! ### _law_shares -/
def spLSh (K : PySem.W.Frag) (n : Nat) : Sp := fun vs H Q _ => ∃ (v : V) (a b : Int) (t : Th) (k : Nat), vs = [v, .int a, .int b] ∧ Dp K H v t.toD ∧ t.dep ≤ n ∧ 1 ≤ t.dep ∧ t.nSt ≤ 12 ∧ t.good ∧ a.natAbs ≤ 2 ^ (100 * k) ∧ b.natAbs ≤ 2 ^ (100 * k) ∧ k + t.dep ≤ 20 ∧
  ∀ (zs : List V) (p : Addr) (H' : Hp), H p = none → H' p = some (.lst zs) → DpAll K H' zs ((t.sh a b).map fracD) → Same H H' → Q (.ref p) H'
theorem pw_step {a n : Int} {k : Nat} (ha : a.natAbs ≤ 2 ^ (100 * k)) (hn : n.natAbs ≤ ZN) : (a * n).natAbs ≤ 2 ^ (100 * (k + 1)) := by
  rw [Nat.mul_succ]
  exact big_prod ha (Nat.le_trans hn (by decide +kernel))
theorem lsh_step (T : Tx K mg) {n : Nat} {spI : Sp} (ih : FnOk P w K mg base CX0 n T.f_l_shares T.fd_l_shares ["thing", "above", "below"] spI) (hi : ∀ m, n = m + 1 → ∀ vs H Q E, spLSh K m vs H Q E → spI vs H Q E) :
    FnOk P w K mg base CX0 (n + 1) T.f_l_shares T.fd_l_shares ["thing", "above", "below"] (spLSh K n) := by
  refine T.F_l_shares.ok (k := n) sc_l_shares (fun vs H Q E h => ?_) (fun cdv A outer s H vs Q E hr h => ?_)
  · obtain ⟨_, _, _, _, _, rfl, _⟩ := h
    rfl
  obtain ⟨v, a, b, t, k, rfl, hd, hdep, hdep1, hst, hg, ha, hb2, hk, q⟩ := h
  refine ⟨_, (pss_cons (ps_set (i := 3) sc_l_shares.nd rfl (Or.inl rfl) (pe_lst (pa_cons (pe_tup (pa_cons (pv 1) (pa_cons (pv 2) pa_nil))) pa_nil)))
      (pss_cons (ps_for PassesOwn.never rfl (pi_tup (pe_ix ix_tup (pv 0) pe_int (fun _ _ => rfl))) (pg_tup (by rfl) (pgs_cons (pg_name (i := 4) sc_l_shares.nd rfl (Or.inl rfl)) (pgs_cons (pg_name (i := 5) sc_l_shares.nd rfl (Or.inl rfl)) pgs_nil))) (pss_one (ps_if (pt_val (pe_callB call_isi (by rfl) T.m_isinstance (by decide +kernel) (pa_cons (pv 5) (pa_cons (pe_bltn (by rfl) T.m_tuple (by decide +kernel) (show RelV (.ty "tuple") _ from rfl)) pa_nil)))) (pss_one (ps_expr (pe_bm PySem.F.plainAttrs_list PySem.F.slot_list_extend PySem.F.type_list_extend mt_extend (pv 3) (pa_cons (pe_call ih (hr.mono (by omega)) (by rfl) T.g_l_shares T.F_l_shares.kp T.b_l_shares .nil pass0 (pa_cons (pv 5) (pa_cons (pe_op op_mulW (pv 1) (pv 4)) (pa_cons (pe_op op_mulW (pv 2) (pe_ix ix_tup (pv 0) pe_int (fun _ _ => rfl))) pa_nil)))) pa_nil)))) pss_nil)))
      (pss_one (ps_ret (pv 3))))), ?_⟩
  cases t with
  | inp i => simp only [Th.dep] at hdep1; omega
  | st c d ps =>
    have hd0 := hd
    simp only [Th.toD] at hd0
    obtain ⟨tv, rfl⟩ := dp_tuple hd0
    obtain ⟨tb, xs, ht, hb, hps⟩ := pl_at hd
    have hlen : xs.length = ps.length := by rw [dps_len hps, toDL_len]
    simp only [Th.dep] at hdep hk
    simp only [Th.nSt] at hst
    simp only [Th.good] at hg
    have n1 := hg.1.n1
    have hn : c.natAbs ≤ ZN := nat30 (by omega) hg.1.n2
    walk_at "go"
    refine ⟨sz (by simp), fun f nf => ?_⟩
    walk_at "go"
    refine ⟨sz (by simp), fun l nl => ?_⟩
    walk_at "go"
    have z1 := same_new (o := .tup [.int a, .int b]) nf
    have z2 := same_new (o := .lst [.ref f]) nl
    have ef := z2 _ _ (upd_same (H := H) (a := f) (o := .tup [.int a, .int b]))
    have el0 : (upd (upd H f (.tup [.int a, .int b])) l (.lst [.ref f])) l = some (.lst [.ref f]) := upd_same
    have ln : H l = none := z1.free nl
    have s1 := z1.trans z2
    generalize upd (upd H f (.tup [.int a, .int b])) l (.lst [.ref f]) = H1 at s1 el0 ef ⊢
    refine l_ixT (same_t s1 ht) rfl ?_
    refine ⟨tb, rfl, ⟨xs, same_t s1 hb⟩, ?_⟩
    refine for_T (xs := xs) (fun i σ H' => ∃ y4 y5 vs, σ = [some (.ref tv), some (.int a), some (.int b), some (.ref l), y4, y5] ∧ H' l = some (.lst vs) ∧ DpAll K H' vs (((a, b) :: shL a (b * c) (ps.take i)).map fracD) ∧ Same H H')
      ⟨none, none, [.ref f], rfl, el0, by simp only [List.take_zero, shL, List.map_cons, List.map_nil]; exact .cons (.tup (sq_t ef) (.cons (.int _) (.cons (.int _) .nil))) .nil, s1⟩ (fun i σ H' _ h => ?_) (fun i x σ H' hx h => ?_) (fun σ H' h => ?_)
    · obtain ⟨_, _, _, _, _, _, s⟩ := h
      exact same_t s hb
    · obtain ⟨y4, y5, vs, rfl, el, dv, s⟩ := h
      obtain ⟨w0, t0, q0, v0, hp, rfl, hq, hv⟩ := part_at hps hx
      have pm := List.mem_of_getElem? hp
      have pd := depL_le.mp (show depL ps ≤ n - 1 by omega) _ pm
      have pd2 := depL_le.mp (Nat.le_refl (depL ps)) _ pm
      have k2 := nSt_take hp
      simp only at pd pd2 k2
      have vl := dps_len dv
      rw [List.length_map, List.length_cons, shL_len] at vl
      have hw : w0.natAbs ≤ ZN := (hg.1.ws.nz w0 (List.mem_map.mpr ⟨_, pm, rfl⟩)).2
      have tk := shL_take (a := a) (b := b * c) hp
      refine g_gtup (same_t s hq) rfl ?_
      walk_at "go"
      cases t0 with
      | inp i0 =>
        simp only [Th.toD] at hv
        obtain rfl := dp_int hv
        refine isi_it ?_
        walk_at "go"
        rw [if_neg (by decide)]
        refine ⟨_, _, vs, rfl, el, ?_, s⟩
        rw [tk]
        simpa only [Th.sh, List.append_nil] using dv
      | st c' d' ps' =>
        have hv0 := hv
        simp only [Th.toD] at hv0
        obtain ⟨tv2, rfl⟩ := dp_tuple hv0
        obtain ⟨tb2, xs2, ht2, _, _⟩ := pl_at hv
        refine isi_tt (same_t s ht2) ?_
        walk_at "go"
        rw [if_pos (by decide)]
        walk_at "go"
        refine l_tyL (sq_l el) ?_
        walk_at "go"
        refine l_I (big_mul ha (Nat.le_trans hw (show ZN ≤ 2 ^ 100 by decide +kernel)) (by omega)) ?_
        walk_at "go"
        refine l_ixT (same_t s ht) rfl ?_
        walk_at "go"
        refine l_I (big_mul hb2 (Nat.le_trans hn (show ZN ≤ 2 ^ 100 by decide +kernel)) (by omega)) ?_
        walk_at "go"
        obtain ⟨m, rfl⟩ : ∃ m, n = m + 1 := ⟨n - 1, by omega⟩
        refine hi m rfl _ _ _ _ ⟨.ref tv2, a * w0, b * c, .st c' d' ps', k + 1, rfl, dp_same s hv, by omega, by simp only [Th.dep]; omega, by omega, goodL_iff.mp hg.2 _ pm, pw_step ha hw, pw_step hb2 hn, by omega, fun zs p H2 np ep dz s2 => ?_⟩
        have lz := dps_len dz
        rw [List.length_map, sh_len] at lz
        have el2 := s2 _ _ el
        walk_at "go"
        refine l_extL el2 ep (by omega) ?_
        have tl := ts_lst (o := .lst (vs ++ zs)) el2
        refine ⟨_, _, vs ++ zs, rfl, upd_same, ?_, same_mut (s.trans s2) ln⟩
        rw [tk, ← List.cons_append, List.map_append]
        exact dps_app (dps_t tl (fracD_t _) (dps_same s2 dv)) (dps_t tl (fracD_t _) dz)
    · obtain ⟨y4, y5, vs, rfl, el, dv, s⟩ := h
      rw [hlen, List.take_length] at dv
      walk_at "go"
      exact q vs l H' ln el (by simpa only [Th.sh] using dv) s
theorem ok_l_shares (T : Tx K mg) : ∀ n : Nat, FnOk P w K mg base CX0 (n + 1) T.f_l_shares T.fd_l_shares ["thing", "above", "below"] (spLSh K n)
  | 0 => lsh_step T fn_none fun m e => by cases e
  | n + 1 => lsh_step T (ok_l_shares T n) fun m e => by cases e; exact fun _ _ _ _ h => h

end
end SC
namespace SC
open PySem PySem.Spec PyProof.Rows L2 StrLaws
local macro_rules | `(tactic| walk_at "go") => `(tactic| ((try dsimp only [cxOf, Cx.nox, Cx.wish]); repeat (first
  | (with_reducible refine g_seq ?_)
  | (with_reducible refine g_asg ?_)
  | (with_reducible refine g_asg2 ?_)
  | (with_reducible refine g_ret ?_)
  | (with_reducible refine g_drop ?_)
  | (with_reducible refine g_next ?_)
  | (with_reducible refine g_ifs ?_)
  | (with_reducible refine g_par ?_)
  | (with_reducible refine g_par3 ?_)
  | ((with_reducible refine' g_var ?hv ?_); (case hv => exact rfl))
  | (with_reducible refine g_c ?_)
  | ((with_reducible refine' g_aug ?hv ?_); (case hv => exact rfl))
  | (with_reducible refine l_ip ?_)
  | (with_reducible refine g_op ?_)
  | (with_reducible refine g_un ?_)
  | (with_reducible refine g_cons ?_)
  | (with_reducible refine g_nil ?_)
  | (with_reducible refine g_cb ?_)
  | (with_reducible refine g_call ?_)
  | (with_reducible refine g_callK ?_)
  | (with_reducible refine g_test ?_)
  | (with_reducible refine g_b ?_)
  | (with_reducible refine g_not ?_)
  | (with_reducible refine g_chain ?_)
  | (with_reducible refine g_notV ?_)
  | (with_reducible refine g_and ?_)
  | (with_reducible refine g_or ?_)
  | (with_reducible refine g_ifx ?_)
  | (with_reducible refine g_isN ?_)
  | (with_reducible refine g_notN ?_)
  | (with_reducible refine g_andV ?_)
  | (with_reducible refine g_bm ?_)
  | (with_reducible refine g_bm0 ?_)
  | (with_reducible refine g_sl ?_)
  | (with_reducible refine g_part ?_)
  | (with_reducible refine g_nopart ?_)
  | (with_reducible refine g_dget ?_)
  | (with_reducible refine g_dput ?_)
  | (with_reducible refine g_tup ?_)
  | (with_reducible refine g_lst ?_)
  | (with_reducible refine g_yes ?_)
  | (with_reducible refine g_name ?_)
  | (with_reducible refine g_gsub ?_)
  | (with_reducible refine g_iList ?_)
  | (with_reducible refine g_iTup ?_)
  | (with_reducible refine g_for ?_)
  | (with_reducible refine g_lc ?_)
  | (with_reducible refine g_rng1 ?_)
  | (with_reducible refine g_iZip ?_)
  | (with_reducible refine g_allT ?_)
  | (with_reducible refine g_iZipA ?_)
  | (with_reducible refine g_iZip3 ?_)
  | (with_reducible refine g_dcT ?_)
  | (with_reducible refine g_dc ?_)
  | (with_reducible refine g_iEnumT ?_)
  | (with_reducible refine g_lstRg ?_)
  | (with_reducible refine g_rg1 ?_)
  | (with_reducible refine g_gcons ?_)
  | (with_reducible refine g_gnil ?_)
  | (with_reducible refine l_bl ?_)
  | (with_reducible refine l_int ?_)
  | (with_reducible refine l_two ?_)
  | (with_reducible refine l_three ?_)
  | (with_reducible refine l_I0 ?_)
  | (with_reducible refine l_U ?_)
  | dsimp only)))
section
variable {P : Program} {w : World} {K : PySem.W.Frag} {mg : Str → Option Value} {base : Heap}
/-! ### _law_form -/
theorem tri_t (l : List (Int × Int × Int)) : tupAll (l.map tri) = true := tupAll_mem.mpr fun d hd => by
  obtain ⟨f, _, rfl⟩ := List.mem_map.mp hd
  simp only [tri, tupD, tupAll, Bool.and_self]
theorem trip_at {H : Hp} {fs : List (Int × Int × Int)} {xs : List V} {x : V} (h : DpAll K H xs (fs.map tri)) (hx : x ∈ xs) : ∃ p q, p ∈ fs ∧ x = .ref q ∧ SqT K H q [.int p.1, .int p.2.1, .int p.2.2] := by
  obtain ⟨i, hi⟩ := List.mem_iff_getElem?.mp hx
  obtain ⟨d, h1, h2⟩ := dps_get h hi
  rw [List.getElem?_map] at h1
  cases e : fs[i]? with
  | none => rw [e] at h1; cases h1
  | some p =>
    rw [e] at h1
    have e2 : tri p = d := Option.some.inj h1
    subst e2
    obtain ⟨q, rfl⟩ := dp_tuple h2
    obtain ⟨vs, k1, k2⟩ := dp_tup h2
    cases k2 with
    | cons k3 k4 =>
      cases k4 with
      | cons k5 k6 =>
        cases k6 with
        | cons k7 k8 =>
          cases k8
          obtain rfl := dp_int k3
          obtain rfl := dp_int k5
          obtain rfl := dp_int k7
          exact ⟨p, q, List.mem_of_getElem? e, rfl, k1⟩
def spLForm (K : PySem.W.Frag) (n : Nat) : Sp := fun vs H Q _ => ∃ (v : V) (a b : Int) (t : Th) (k : Nat), vs = [v, .int a, .int b] ∧ Dp K H v t.toD ∧ t.dep ≤ n ∧ 1 ≤ t.dep ∧ t.nIn ≤ 24 ∧ t.good ∧ a.natAbs ≤ 2 ^ (100 * k) ∧ b.natAbs ≤ 2 ^ (100 * k) ∧ k + t.dep ≤ 20 ∧
  ∀ (zs : List V) (p : Addr) (H' : Hp), H p = none → H' p = some (.lst zs) → DpAll K H' zs ((t.fm a b).map tri) → Same H H' → Q (.ref p) H'
theorem pwf_step {a n : Int} {k : Nat} (ha : a.natAbs ≤ 2 ^ (100 * k)) (hn : n.natAbs ≤ ZN) : (a * n).natAbs ≤ 2 ^ (100 * (k + 1)) := by
  rw [Nat.mul_succ]
  exact big_prod ha (Nat.le_trans hn (by decide +kernel))
theorem lform_step (T : Tx K mg) {n : Nat} {spI : Sp} (ih : FnOk P w K mg base CX0 n T.f_l_form T.fd_l_form ["thing", "above", "below"] spI) (hi : ∀ m, n = m + 1 → ∀ vs H Q E, spLForm K m vs H Q E → spI vs H Q E) :
    FnOk P w K mg base CX0 (n + 1) T.f_l_form T.fd_l_form ["thing", "above", "below"] (spLForm K n) := by
  refine T.F_l_form.ok (k := n) sc_l_form (fun vs H Q E h => ?_) (fun cdv A outer s H vs Q E hr h => ?_)
  · obtain ⟨_, _, _, _, _, rfl, _⟩ := h
    rfl
  obtain ⟨v, a, b, t, k, rfl, hd, hdep, hdep1, hin, hg, ha, hb2, hk, q⟩ := h
  refine ⟨_, (pss_cons (ps_set (i := 3) sc_l_form.nd rfl (Or.inl rfl) (pe_lst pa_nil))
      (pss_cons (ps_for PassesOwn.never rfl (pi_tup (pe_ix ix_tup (pv 0) pe_int (fun _ _ => rfl))) (pg_tup (by rfl) (pgs_cons (pg_name (i := 4) sc_l_form.nd rfl (Or.inl rfl)) (pgs_cons (pg_name (i := 5) sc_l_form.nd rfl (Or.inl rfl)) pgs_nil))) (pss_one (ps_if (pt_val (pe_callB call_isi (by rfl) T.m_isinstance (by decide +kernel) (pa_cons (pv 5) (pa_cons (pe_bltn (by rfl) T.m_tuple (by decide +kernel) (show RelV (.ty "tuple") _ from rfl)) pa_nil)))) (pss_one (ps_expr (pe_bm PySem.F.plainAttrs_list PySem.F.slot_list_extend PySem.F.type_list_extend mt_extend (pv 3) (pa_cons (pe_call ih (hr.mono (by omega)) (by rfl) T.g_l_form T.F_l_form.kp T.b_l_form .nil pass0 (pa_cons (pv 5) (pa_cons (pe_op op_mulW (pv 1) (pv 4)) (pa_cons (pe_op op_mulW (pv 2) (pe_ix ix_tup (pv 0) pe_int (fun _ _ => rfl))) pa_nil)))) pa_nil)))) (pss_one (ps_expr (pe_bm PySem.F.plainAttrs_list PySem.F.slot_list_append PySem.F.type_list_append mt_append (pv 3) (pa_cons (pe_tup (pa_cons (pv 5) (pa_cons (pe_op op_mulW (pv 1) (pv 4)) (pa_cons (pe_op op_mulW (pv 2) (pe_ix ix_tup (pv 0) pe_int (fun _ _ => rfl))) pa_nil)))) pa_nil)))))))
      (pss_one (ps_ret (pv 3))))), ?_⟩
  cases t with
  | inp i => simp only [Th.dep] at hdep1; omega
  | st c d ps =>
    have hd0 := hd
    simp only [Th.toD] at hd0
    obtain ⟨tv, rfl⟩ := dp_tuple hd0
    obtain ⟨tb, xs, ht, hb, hps⟩ := pl_at hd
    have hlen : xs.length = ps.length := by rw [dps_len hps, toDL_len]
    simp only [Th.dep] at hdep hk
    simp only [Th.nIn] at hin
    simp only [Th.good] at hg
    have n1 := hg.1.n1
    have hn : c.natAbs ≤ ZN := nat30 (by omega) hg.1.n2
    walk_at "go"
    refine ⟨sz (by simp), fun l ln => ?_⟩
    walk_at "go"
    have s1 := same_new (o := .lst []) ln
    have el0 : (upd H l (.lst [])) l = some (.lst []) := upd_same
    generalize upd H l (.lst []) = H1 at s1 el0 ⊢
    refine l_ixT (same_t s1 ht) rfl ?_
    refine ⟨tb, rfl, ⟨xs, same_t s1 hb⟩, ?_⟩
    refine for_T (xs := xs) (fun i σ H' => ∃ y4 y5 vs, σ = [some (.ref tv), some (.int a), some (.int b), some (.ref l), y4, y5] ∧ H' l = some (.lst vs) ∧ DpAll K H' vs ((fmL a (b * c) (ps.take i)).map tri) ∧ Same H H')
      ⟨none, none, [], rfl, el0, by simp only [List.take_zero, fmL, List.map_nil]; exact .nil, s1⟩ (fun i σ H' _ h => ?_) (fun i x σ H' hx h => ?_) (fun σ H' h => ?_)
    · obtain ⟨_, _, _, _, _, _, s⟩ := h
      exact same_t s hb
    · obtain ⟨y4, y5, vs, rfl, el, dv, s⟩ := h
      obtain ⟨w0, t0, q0, v0, hp, rfl, hq, hv⟩ := part_at hps hx
      have pm := List.mem_of_getElem? hp
      have pd := depL_le.mp (show depL ps ≤ n - 1 by omega) _ pm
      have pd2 := depL_le.mp (Nat.le_refl (depL ps)) _ pm
      have k2 := nInL_take hp
      simp only at pd pd2 k2
      have vl := dps_len dv
      rw [List.length_map, formL_len] at vl
      have hw : w0.natAbs ≤ ZN := (hg.1.ws.nz w0 (List.mem_map.mpr ⟨_, pm, rfl⟩)).2
      have tk := fmL_take (a := a) (b := b * c) hp
      have m1 : CMulW a w0 := big_mul ha (Nat.le_trans hw (show ZN ≤ 2 ^ 100 by decide +kernel)) (by omega)
      have m2 : CMulW b c := big_mul hb2 (Nat.le_trans hn (show ZN ≤ 2 ^ 100 by decide +kernel)) (by omega)
      refine g_gtup (same_t s hq) rfl ?_
      walk_at "go"
      cases t0 with
      | inp i0 =>
        simp only [Th.toD] at hv
        obtain rfl := dp_int hv
        simp only [Th.nIn] at k2
        refine isi_it ?_
        walk_at "go"
        rw [if_neg (by decide)]
        walk_at "go"
        refine l_tyL (sq_l el) ?_
        walk_at "go"
        refine l_I m1 ?_
        walk_at "go"
        refine l_ixT (same_t s ht) rfl ?_
        walk_at "go"
        refine l_I m2 ?_
        walk_at "go"
        refine ⟨sz (by simp), fun p np => ?_⟩
        have s2 := same_new (o := .tup [.int i0, .int (a * w0), .int (b * c)]) np
        have el2 := s2 _ _ el
        walk_at "go"
        refine l_app el2 (sz1 (by omega)) ?_
        have tl := ts_lst (o := .lst (vs ++ [.ref p])) el2
        have d2 : Dp K (upd H' p (.tup [.int i0, .int (a * w0), .int (b * c)])) (.ref p) (tri (i0, a * w0, b * c)) := .tup (sq_t upd_same) (.cons (.int _) (.cons (.int _) (.cons (.int _) .nil)))
        refine ⟨_, _, vs ++ [.ref p], rfl, upd_same, ?_, same_mut (s.trans s2) ln⟩
        rw [tk, List.map_append]
        simp only [Th.fm, List.map_cons, List.map_nil]
        exact dps_app (dps_t tl (tri_t _) (dps_same s2 dv)) (.cons (dp_t tl (by simp only [tri, tupD, tupAll, Bool.and_self]) d2) .nil)
      | st c' d' ps' =>
        have hv0 := hv
        simp only [Th.toD] at hv0
        obtain ⟨tv2, rfl⟩ := dp_tuple hv0
        obtain ⟨tb2, xs2, ht2, _, _⟩ := pl_at hv
        refine isi_tt (same_t s ht2) ?_
        walk_at "go"
        rw [if_pos (by decide)]
        walk_at "go"
        refine l_tyL (sq_l el) ?_
        walk_at "go"
        refine l_I m1 ?_
        walk_at "go"
        refine l_ixT (same_t s ht) rfl ?_
        walk_at "go"
        refine l_I m2 ?_
        walk_at "go"
        obtain ⟨m, rfl⟩ : ∃ m, n = m + 1 := ⟨n - 1, by omega⟩
        refine hi m rfl _ _ _ _ ⟨.ref tv2, a * w0, b * c, .st c' d' ps', k + 1, rfl, dp_same s hv, by omega, by simp only [Th.dep]; omega, by omega, goodL_iff.mp hg.2 _ pm, pwf_step ha hw, pwf_step hb2 hn, by omega, fun zs p H2 np ep dz s2 => ?_⟩
        have lz := dps_len dz
        rw [List.length_map, form_len] at lz
        have el2 := s2 _ _ el
        walk_at "go"
        refine l_extL el2 ep (by omega) ?_
        have tl := ts_lst (o := .lst (vs ++ zs)) el2
        refine ⟨_, _, vs ++ zs, rfl, upd_same, ?_, same_mut (s.trans s2) ln⟩
        rw [tk, List.map_append]
        exact dps_app (dps_t tl (tri_t _) (dps_same s2 dv)) (dps_t tl (tri_t _) dz)
    · obtain ⟨y4, y5, vs, rfl, el, dv, s⟩ := h
      rw [hlen, List.take_length] at dv
      walk_at "go"
      exact q vs l H' ln el (by simpa only [Th.fm] using dv) s
theorem ok_l_form (T : Tx K mg) : ∀ n : Nat, FnOk P w K mg base CX0 (n + 1) T.f_l_form T.fd_l_form ["thing", "above", "below"] (spLForm K n)
  | 0 => lform_step T fn_none fun m e => by cases e
  | n + 1 => lform_step T (ok_l_form T n) fun m e => by cases e; exact fun _ _ _ _ h => h

end
end SC
namespace SC
open PySem PySem.Spec PyProof.Rows L2 StrLaws
local macro_rules | `(tactic| walk_at "go") => `(tactic| ((try dsimp only [cxOf, Cx.nox, Cx.wish]); repeat (first
  | (with_reducible refine g_seq ?_)
  | (with_reducible refine g_asg ?_)
  | (with_reducible refine g_asg2 ?_)
  | (with_reducible refine g_ret ?_)
  | (with_reducible refine g_drop ?_)
  | (with_reducible refine g_next ?_)
  | (with_reducible refine g_ifs ?_)
  | (with_reducible refine g_par ?_)
  | (with_reducible refine g_par3 ?_)
  | ((with_reducible refine' g_var ?hv ?_); (case hv => exact rfl))
  | (with_reducible refine g_c ?_)
  | ((with_reducible refine' g_aug ?hv ?_); (case hv => exact rfl))
  | (with_reducible refine l_ip ?_)
  | (with_reducible refine g_op ?_)
  | (with_reducible refine g_un ?_)
  | (with_reducible refine g_cons ?_)
  | (with_reducible refine g_nil ?_)
  | (with_reducible refine g_cb ?_)
  | (with_reducible refine g_call ?_)
  | (with_reducible refine g_callK ?_)
  | (with_reducible refine g_test ?_)
  | (with_reducible refine g_b ?_)
  | (with_reducible refine g_not ?_)
  | (with_reducible refine g_chain ?_)
  | (with_reducible refine g_notV ?_)
  | (with_reducible refine g_and ?_)
  | (with_reducible refine g_or ?_)
  | (with_reducible refine g_ifx ?_)
  | (with_reducible refine g_isN ?_)
  | (with_reducible refine g_notN ?_)
  | (with_reducible refine g_andV ?_)
  | (with_reducible refine g_bm ?_)
  | (with_reducible refine g_bm0 ?_)
  | (with_reducible refine g_sl ?_)
  | (with_reducible refine g_part ?_)
  | (with_reducible refine g_nopart ?_)
  | (with_reducible refine g_dget ?_)
  | (with_reducible refine g_dput ?_)
  | (with_reducible refine g_tup ?_)
  | (with_reducible refine g_lst ?_)
  | (with_reducible refine g_yes ?_)
  | (with_reducible refine g_name ?_)
  | (with_reducible refine g_gsub ?_)
  | (with_reducible refine g_iList ?_)
  | (with_reducible refine g_iTup ?_)
  | (with_reducible refine g_for ?_)
  | (with_reducible refine g_lc ?_)
  | (with_reducible refine g_rng1 ?_)
  | (with_reducible refine g_iZip ?_)
  | (with_reducible refine g_allT ?_)
  | (with_reducible refine g_iZipA ?_)
  | (with_reducible refine g_iZip3 ?_)
  | (with_reducible refine g_dcT ?_)
  | (with_reducible refine g_dc ?_)
  | (with_reducible refine g_iEnumT ?_)
  | (with_reducible refine g_lstRg ?_)
  | (with_reducible refine g_rg1 ?_)
  | (with_reducible refine g_gcons ?_)
  | (with_reducible refine g_gnil ?_)
  | (with_reducible refine l_bl ?_)
  | (with_reducible refine l_int ?_)
  | (with_reducible refine l_two ?_)
  | (with_reducible refine l_three ?_)
  | (with_reducible refine l_I0 ?_)
  | (with_reducible refine l_U ?_)
  | dsimp only)))
section
variable {P : Program} {w : World} {K : PySem.W.Frag} {mg : Str → Option Value} {base : Heap}
/-! ### things_with_shares, stages_with_shares, shares_of, form_of -/
def twD (p : Th × Int × Int) : PyData := .tuple [p.1.toD, fracD (lst p.2.1 p.2.2)]
theorem twD_t (l : List (Th × Int × Int)) : tupAll (l.map twD) = true := tupAll_mem.mpr fun d hd => by
  obtain ⟨f, _, rfl⟩ := List.mem_map.mp hd
  simp only [twD, fracD, tupD, tupAll, toD_t, Bool.and_self]
theorem tw_at {H : Hp} {ps : List (Th × Int × Int)} {xs : List V} {i : Nat} {x : V} (h : DpAll K H xs (ps.map twD)) (hx : xs[i]? = some x) :
    ∃ t a b q v q2, ps[i]? = some (t, a, b) ∧ x = .ref q ∧ SqT K H q [v, .ref q2] ∧ Dp K H v t.toD ∧ SqT K H q2 [.int (lst a b).1, .int (lst a b).2] := by
  obtain ⟨d, h1, h2⟩ := dps_get h hx
  rw [List.getElem?_map] at h1
  cases e : ps[i]? with
  | none => rw [e] at h1; cases h1
  | some p =>
    obtain ⟨t, a, b⟩ := p
    rw [e] at h1
    have e2 : twD (t, a, b) = d := Option.some.inj h1
    subst e2
    obtain ⟨q, rfl⟩ := dp_tuple h2
    obtain ⟨vs, k1, k2⟩ := dp_tup h2
    cases k2 with
    | cons k3 k4 =>
      cases k4 with
      | cons k5 k6 =>
        cases k6
        obtain ⟨q2, rfl⟩ := dp_tuple k5
        obtain ⟨vs2, m1, m2⟩ := dp_tup k5
        cases m2 with
        | cons m3 m4 =>
          cases m4 with
          | cons m5 m6 =>
            cases m6
            obtain rfl := dp_int m3
            obtain rfl := dp_int m5
            exact ⟨t, a, b, q, _, q2, rfl, rfl, k1, k3, m1⟩
theorem dpTw {H : Hp} {q q2 : Addr} {v : V} {t : Th} {a b : Int} (h : SqT K H q [v, .ref q2]) (hv : Dp K H v t.toD) (hf : SqT K H q2 [.int (lst a b).1, .int (lst a b).2]) : Dp K H (.ref q) (twD (t, a, b)) :=
  .tup h (.cons hv (.cons (.tup hf (.cons (.int _) (.cons (.int _) .nil))) .nil))
theorem pws_step {a n : Int} {k : Nat} (ha : a.natAbs ≤ 2 ^ (100 * k)) (hn : n.natAbs ≤ ZN) : (a * n).natAbs ≤ 2 ^ (100 * (k + 1)) := by
  rw [Nat.mul_succ]
  exact big_prod ha (Nat.le_trans hn (by decide +kernel))
def spTws (K : PySem.W.Frag) (n : Nat) : Sp := fun vs H Q _ => ∃ (v : V) (f : Addr) (a b : Int) (t : Th) (k : Nat), vs = [v, .ref f] ∧ Dp K H v t.toD ∧ SqT K H f [.int (lst a b).1, .int (lst a b).2] ∧ 0 < b ∧ t.dep ≤ n ∧ t.nIn ≤ 24 ∧ t.nSt ≤ 12 ∧ t.good ∧ a.natAbs ≤ 2 ^ (100 * k) ∧ b.natAbs ≤ 2 ^ (100 * k) ∧ k + t.dep ≤ 20 ∧
  ∀ (zs : List V) (p : Addr) (H' : Hp), H p = none → H' p = some (.lst zs) → DpAll K H' zs ((t.tws a b).map twD) → Same H H' → Q (.ref p) H'
theorem tws_step (T : Tx K mg) {n : Nat} {spI : Sp} (ih : FnOk P w K mg base CX0 (n + 2) T.f_things_with_shares T.fd_things_with_shares ["thing", "share"] spI) (hi : ∀ m, n = m + 1 → ∀ vs H Q E, spTws K m vs H Q E → spI vs H Q E) :
    FnOk P w K mg base CX0 (n + 3) T.f_things_with_shares T.fd_things_with_shares ["thing", "share"] (spTws K n) := by
  refine T.F_things_with_shares.ok (k := n + 2) sc_things_with_shares (fun vs H Q E h => ?_) (fun cdv A outer s H vs Q E hr h => ?_)
  · obtain ⟨_, _, _, _, _, _, rfl, _⟩ := h
    rfl
  obtain ⟨v, f, a, b, t, k, rfl, hd, hf, hb0, hdep, hin, hst, hg, ha, hb2, hk, q⟩ := h
  refine ⟨_, (pss_cons (ps_set (i := 2) sc_things_with_shares.nd rfl (Or.inl rfl) (pe_lst (pa_cons (pe_tup (pa_cons (pv 0) (pa_cons (pv 1) pa_nil))) pa_nil)))
      (pss_cons (ps_if (pt_val (pe_call (ok_is_stage T) (hr.mono (by first | decide | omega)) (by rfl) T.g_is_stage T.F_is_stage.kp T.b_is_stage .nil pass0 (pa_cons (pv 0) pa_nil))) (pss_cons (ps_asg (pv 0) (pg_tup (by rfl) (pgs_cons (pg_name (i := 3) sc_things_with_shares.nd rfl (Or.inl rfl)) (pgs_cons (pg_name (i := 4) sc_things_with_shares.nd rfl (Or.inl rfl)) (pgs_cons (pg_name (i := 5) sc_things_with_shares.nd rfl (Or.inl rfl)) pgs_nil)))))
      (pss_one (ps_for PassesOwn.never rfl (pi_tup (pv 5)) (pg_tup (by rfl) (pgs_cons (pg_name (i := 6) sc_things_with_shares.nd rfl (Or.inl rfl)) (pgs_cons (pg_name (i := 7) sc_things_with_shares.nd rfl (Or.inl rfl)) pgs_nil))) (pss_one (ps_expr (pe_bm PySem.F.plainAttrs_list PySem.F.slot_list_extend PySem.F.type_list_extend mt_extend (pv 2) (pa_cons (pe_call ih (hr.mono (by omega)) (by rfl) T.g_things_with_shares T.F_things_with_shares.kp T.b_things_with_shares .nil pass0 (pa_cons (pv 7) (pa_cons (pe_call (ok_scaled T) (hr.mono (by first | decide | omega)) (by rfl) T.g_scaled T.F_scaled.kp T.b_scaled .nil pass0 (pa_cons (pv 1) (pa_cons (pv 6) (pa_cons (pv 3) pa_nil)))) pa_nil))) pa_nil))))))) pss_nil)
      (pss_one (ps_ret (pv 2))))), ?_⟩
  walk_at "go"
  refine ⟨sz (by simp), fun p0 np0 => ?_⟩
  walk_at "go"
  refine ⟨sz (by simp), fun l nl => ?_⟩
  walk_at "go"
  have z1 := same_new (o := .tup [v, .ref f]) np0
  have z2 := same_new (o := .lst [.ref p0]) nl
  have ep0 := z2 _ _ (upd_same (H := H) (a := p0) (o := .tup [v, .ref f]))
  have el0 : (upd (upd H p0 (.tup [v, .ref f])) l (.lst [.ref p0])) l = some (.lst [.ref p0]) := upd_same
  have ln : H l = none := z1.free nl
  have s1 := z1.trans z2
  generalize upd (upd H p0 (.tup [v, .ref f])) l (.lst [.ref p0]) = H1 at s1 el0 ep0 ⊢
  have hd1 := dp_same s1 hd
  have hf1 := same_t s1 hf
  have d0 : Dp K H1 (.ref p0) (twD (t, a, b)) := dpTw (sq_t ep0) hd1 hf1
  refine ⟨v, t, rfl, hd1, fun i e => ?_, fun c d ps e => ?_⟩
  · subst e
    walk_at "go"
    rw [if_neg (by decide)]
    walk_at "go"
    exact q _ l H1 ln el0 (by simp only [Th.tws, List.map_cons, List.map_nil]; exact .cons d0 .nil) s1
  · subst e
    have hd0 := hd
    simp only [Th.toD] at hd0
    obtain ⟨tv, rfl⟩ := dp_tuple hd0
    obtain ⟨tb, xs, ht, hb, hps⟩ := pl_at hd
    have hlen : xs.length = ps.length := by rw [dps_len hps, toDL_len]
    simp only [Th.dep] at hdep hk
    simp only [Th.nSt] at hst
    simp only [Th.nIn] at hin
    have n1 := hg
    simp only [Th.good] at n1
    obtain ⟨gc, gl⟩ := n1
    have n1 := gc.n1
    have hn : c.natAbs ≤ ZN := nat30 (by omega) gc.n2
    walk_at "go"
    rw [if_pos (by decide)]
    walk_at "go"
    refine g_gtup (same_t s1 ht) rfl ?_
    walk_at "go"
    refine ⟨tb, rfl, ⟨xs, same_t s1 hb⟩, ?_⟩
    refine for_T (xs := xs) (fun i σ H' => ∃ y6 y7 vs, σ = [some (.ref tv), some (.ref f), some (.ref l), some (.int c), some (.int d), some (.ref tb), y6, y7] ∧ H' l = some (.lst vs) ∧ DpAll K H' vs (((Th.st c d ps, a, b) :: twsL a (b * c) (ps.take i)).map twD) ∧ Same H H')
      ⟨none, none, [.ref p0], rfl, el0, by simp only [List.take_zero, twsL, List.map_cons, List.map_nil]; exact .cons d0 .nil, s1⟩ (fun i σ H' _ h => ?_) (fun i x σ H' hx h => ?_) (fun σ H' h => ?_)
    · obtain ⟨_, _, _, _, _, _, s⟩ := h
      exact same_t s hb
    · obtain ⟨y6, y7, vs, rfl, el, dv, s⟩ := h
      obtain ⟨w0, t0, q0, v0, hp, rfl, hq, hv⟩ := part_at hps hx
      have pm := List.mem_of_getElem? hp
      have pd := depL_le.mp (show depL ps ≤ n - 1 by omega) _ pm
      have pd2 := depL_le.mp (Nat.le_refl (depL ps)) _ pm
      have k2 := nSt_take hp
      have k3 := nInL_take hp
      simp only at pd pd2 k2 k3
      have vl := dps_len dv
      rw [List.length_map, List.length_cons, twsL_len] at vl
      have hw : w0.natAbs ≤ ZN := (gc.ws.nz w0 (List.mem_map.mpr ⟨_, pm, rfl⟩)).2
      have hw2 := Nat.le_trans hw (show ZN ≤ 2 ^ 100 by decide +kernel)
      have hn2 := Nat.le_trans hn (show ZN ≤ 2 ^ 100 by decide +kernel)
      have tk := twsL_take (a := a) (b := b * c) hp
      have g1 : (lst a b).1.natAbs ≤ 2 ^ (100 * k) := Nat.le_trans (lst_le1 _ _) ha
      have g2 : (lst a b).2.natAbs ≤ 2 ^ (100 * k) := Nat.le_trans (lst_le2 _ _) hb2
      refine g_gtup (same_t s hq) rfl ?_
      walk_at "go"
      refine l_tyL (sq_l el) ?_
      walk_at "go"
      refine ⟨f, _, _, w0, c, rfl, same_t s hf, lst_pos hb0, by omega, big_mul g1 hw2 (by omega), big_mul g2 hn2 (by omega), Nat.le_trans (pws_step g2 hn) (Nat.pow_le_pow_right (by decide) (by omega)), fun p2 H2 ep2 s2 => ?_⟩
      rw [lst_scaled hb0 (by omega)] at ep2
      walk_at "go"
      obtain ⟨m, rfl⟩ : ∃ m, n = m + 1 := ⟨n - 1, by omega⟩
      refine hi m rfl _ _ _ _ ⟨v0, p2, a * w0, b * c, t0, k + 1, rfl, dp_same (s.trans s2) hv, sq_t ep2, Int.mul_pos hb0 (by omega), by omega, by omega, by omega, goodL_iff.mp gl _ pm, pws_step ha hw, pws_step hb2 hn, by omega, fun zs p H3 np ep dz s3 => ?_⟩
      have lz := dps_len dz
      rw [List.length_map, tws_len] at lz
      have ss := s2.trans s3
      have el3 := ss _ _ el
      walk_at "go"
      refine l_extL el3 ep (by omega) ?_
      have tl := ts_lst (o := .lst (vs ++ zs)) el3
      refine ⟨_, _, vs ++ zs, rfl, upd_same, ?_, same_mut (s.trans ss) ln⟩
      rw [tk, ← List.cons_append, List.map_append]
      exact dps_app (dps_t tl (twD_t _) (dps_same ss dv)) (dps_t tl (twD_t _) dz)
    · obtain ⟨y6, y7, vs, rfl, el, dv, s⟩ := h
      rw [hlen, List.take_length] at dv
      walk_at "go"
      exact q vs l H' ln el (by simpa only [Th.tws] using dv) s
theorem ok_things_with_shares (T : Tx K mg) : ∀ n : Nat, FnOk P w K mg base CX0 (n + 3) T.f_things_with_shares T.fd_things_with_shares ["thing", "share"] (spTws K n)
  | 0 => tws_step T fn_none fun m e => by cases e
  | n + 1 => tws_step T (ok_things_with_shares T n) fun m e => by cases e; exact fun _ _ _ _ h => h
theorem e11 : lst 1 1 = (1, 1) := by decide
def twK (p : Th × Int × Int) : Option (Th × Int × Int) := (twSt p).map fun _ => p
theorem twK_in (i : Int) (s : Int × Int) : twK (.inp i, s) = none := rfl
theorem twK_st (n c : Int) (ps : List (Int × Th)) (s : Int × Int) : twK (.st n c ps, s) = some (.st n c ps, s) := rfl
theorem twK_map : ∀ l : List (Th × Int × Int), (l.filterMap twK).map (·.2) = l.filterMap twSt
  | [] => rfl
  | (.inp i, s) :: l => by
    rw [List.filterMap_cons_none (twK_in i s), List.filterMap_cons_none (show twSt (.inp i, s) = none from rfl)]
    exact twK_map l
  | (.st n c ps, s) :: l => by
    rw [List.filterMap_cons_some (twK_st n c ps s), List.filterMap_cons_some (show twSt (.st n c ps, s) = some s from rfl), List.map_cons, twK_map l]
def spStw (K : PySem.W.Frag) : Sp := fun vs H Q _ => ∃ (v : V) (t : Th), vs = [v] ∧ Dp K H v t.toD ∧ IsPlan t ∧
  ∀ (us : List (Th × Int × Int)) (zs : List V) (p : Addr) (H' : Hp), us.map (·.2) = t.sh 1 1 → H p = none → H' p = some (.lst zs) → DpAll K H' zs (us.map twD) → Same H H' → Q (.ref p) H'
theorem ok_stages_with_shares (T : Tx K mg) : FnOk P w K mg base CX0 44 T.f_stages_with_shares T.fd_stages_with_shares ["plan"] (spStw K) := by
  refine T.F_stages_with_shares.ok sc_stages_with_shares (fun vs H Q E h => ?_) (fun cdv A outer s H vs Q E hr h => ?_)
  · obtain ⟨_, _, rfl, _⟩ := h
    rfl
  obtain ⟨v, t, rfl, hd, pl, q⟩ := h
  have h1 := pl.many
  have h2 := pl.deep
  have h3 := pl.inp
  refine ⟨_, (pss_cons (ps_set (i := 1) sc_stages_with_shares.nd rfl (Or.inl rfl) (pe_call (ok_things_with_shares T 40) (hr.mono (by first | decide | omega)) (by rfl) T.g_things_with_shares T.F_things_with_shares.kp T.b_things_with_shares .nil pass0 (pa_cons (pv 0) (pa_cons (pe_tup (pa_cons pe_int (pa_cons pe_int pa_nil))) pa_nil))))
      (pss_one (ps_ret (pe_lc (own := [("thing", 2), ("share", 3)]) (g := (gTup _ 2 (gCons (gName 2) (gCons (gName 3) gNil)))) (by rfl) sc_stages_with_shares.nd (pi_list (pv 1)) (blkOk_by (own := [("thing", 2), ("share", 3)]) (N := ["plan", "found", "thing", "share"]) (sc := defScope s_stages_with_shares) (by decide +kernel)) (fun _ _ _ _ _ => (pg_tup (by rfl) (pgs_cons (pg_name (i := 2) sc_stages_with_shares.nd rfl (Or.inl rfl)) (pgs_cons (pg_name (i := 3) sc_stages_with_shares.nd rfl (Or.inl rfl)) pgs_nil)))) (fun _ _ _ _ _ => pts_one (pt_val (pe_call (ok_is_stage T) (hr.mono (by first | decide | omega)) (by rfl) T.g_is_stage T.F_is_stage.kp T.b_is_stage .nil pass0 (pa_cons (pv 2) pa_nil)))) (fun _ _ _ _ _ => (pe_tup (pa_cons (pv 2) (pa_cons (pv 3) pa_nil)))))))), ?_⟩
  walk_at "go"
  refine ⟨sz (by simp), fun f nf => ?_⟩
  have s1 := same_new (o := .tup [.int 1, .int 1]) nf
  refine ⟨v, f, 1, 1, t, 0, rfl, dp_same s1 hd, by rw [e11]; exact sq_t upd_same, by decide, by omega, h3, h1, pl.good, by decide, by decide, by omega, fun zs l H1 nl el dz s2 => ?_⟩
  walk_at "go"
  refine ⟨l, rfl, ⟨zs, sq_l el⟩, fun Z nZ => ?_⟩
  have ss := s1.trans s2
  have lz := dps_len dz
  rw [List.length_map, tws_len] at lz
  have Zl : l ≠ Z := ne_of_none el nZ
  refine lc_list (xs := zs) (fun i H' => ∃ vs, H' Z = some (.lst vs) ∧ DpAll K H' vs ((((t.tws 1 1).take i).filterMap twK).map twD) ∧ H' l = some (.lst zs) ∧ Same H1 H') ⟨[], upd_same, .nil, same_new nZ _ _ el, same_new nZ⟩ (fun i H' _ h => sq_l h.choose_spec.2.2.1) (fun i x H' hx h => ?_) (fun H2 h => ?_)
  · obtain ⟨vs, eZ, dvs, el2, s3⟩ := h
    obtain ⟨t0, a0, b0, q0, v0, q2, hi, rfl, hq, hv, hf⟩ := tw_at dz hx
    have hlen := fm_len (f := twK) (t.tws 1 1) i
    rw [tws_len] at hlen
    have vl := dps_len dvs
    rw [List.length_map] at vl
    refine g_gtup (same_t s3 hq) rfl ?_
    walk_at "go"
    refine ⟨rfl, ?_⟩
    walk_at "go"
    have ft := fm_take (f := twK) hi
    refine ⟨v0, t0, rfl, dp_same s3 hv, fun i0 e => ?_, fun c d ps e => ?_⟩
    · subst e
      walk_at "go"
      rw [if_neg (by decide)]
      refine ⟨vs, eZ, ?_, el2, s3⟩
      rw [ft, twK_in]
      simpa using dvs
    · subst e
      walk_at "go"
      rw [if_pos (by decide)]
      walk_at "go"
      refine ⟨sz (by simp), fun p np => ?_⟩
      have s4 := same_new (o := .tup [v0, .ref q2]) np
      have eZ4 := s4 _ _ eZ
      have s34 := s3.trans s4
      have tl := ts_lst (o := .lst (vs ++ [.ref p])) eZ4
      refine ⟨vs, eZ4, sz1 (by omega), _, upd_same, ?_, ?_, same_mut s34 nZ⟩
      · rw [ft, twK_st, List.map_append]
        exact dps_app (dps_t tl (twD_t _) (dps_same s4 dvs)) (dps_t tl (twD_t [_]) (.cons (dpTw (sq_t upd_same) (dp_same s34 hv) (same_t s34 hf)) .nil))
      · rw [upd_ne Zl]; exact s4 _ _ el2
  obtain ⟨us, eZ, dus, el2, s3⟩ := h
  have full : (t.tws 1 1).take zs.length = t.tws 1 1 := by rw [lz, ← tws_len t 1 1, List.take_length]
  rw [full] at dus
  refine q _ us Z H2 ?_ ((s1.trans s2).free nZ) eZ dus (ss.trans s3)
  rw [twK_map, tws_sh]
/-- what is told as the shares -/
def fracL (f : Int × Int) : PyData := fracD (lst f.1 f.2)
theorem fracL_t (fs : List (Int × Int)) : tupAll (fs.map fracL) = true := tupAll_mem.mpr fun d hd => by
  obtain ⟨f, _, rfl⟩ := List.mem_map.mp hd
  simp only [fracL, fracD, tupD, tupAll, Bool.and_self]
def sharesD (t : Th) : PyData := .tuple ((t.sh 1 1).map fracL)
def spShOf (K : PySem.W.Frag) : Sp := fun vs H Q _ => ∃ (v : V) (t : Th), vs = [v] ∧ Dp K H v t.toD ∧ IsPlan t ∧ ∀ (p : Addr) (H' : Hp), Dp K H' (.ref p) (sharesD t) → Same H H' → Q (.ref p) H'
theorem ok_shares_of (T : Tx K mg) : FnOk P w K mg base CX0 45 T.f_shares_of T.fd_shares_of ["plan"] (spShOf K) := by
  refine T.F_shares_of.ok sc_shares_of (fun vs H Q E h => ?_) (fun cdv A outer s H vs Q E hr h => ?_)
  · obtain ⟨_, _, rfl, _⟩ := h
    rfl
  obtain ⟨v, t, rfl, hd, pl, q⟩ := h
  have h1 := pl.many
  refine ⟨_, (pss_one (ps_ret (pe_callTy call_tuple_of (by rfl) T.m_tuple (by decide +kernel) (pa_cons (pe_lc (own := [("_", 1), ("share", 2)]) (g := (gTup _ 2 (gCons (gName 1) (gCons (gName 2) gNil)))) (tt := tYes) (by rfl) sc_shares_of.nd (pi_list (pe_call (ok_stages_with_shares T) (hr.mono (by first | decide | omega)) (by rfl) T.g_stages_with_shares T.F_stages_with_shares.kp T.b_stages_with_shares .nil pass0 (pa_cons (pv 0) pa_nil))) (blkOk_by (own := [("_", 1), ("share", 2)]) (N := ["plan", "_", "share"]) (sc := defScope s_shares_of) (by decide +kernel)) (fun _ _ _ _ _ => (pg_tup (by rfl) (pgs_cons (pg_name (i := 1) sc_shares_of.nd rfl (Or.inl rfl)) (pgs_cons (pg_name (i := 2) sc_shares_of.nd rfl (Or.inl rfl)) pgs_nil)))) (fun _ _ _ _ _ => pts_nil) (fun _ _ _ _ _ => (pv 2))) pa_nil)))), ?_⟩
  walk_at "go"
  refine ⟨v, t, rfl, hd, pl, fun us zs l H1 hus nl el dz s1 => ?_⟩
  have lz := dps_len dz
  rw [List.length_map] at lz
  have lu : us.length = t.nSt := by rw [← sh_len t 1 1, ← hus, List.length_map]
  refine ⟨l, rfl, ⟨zs, sq_l el⟩, fun Z nZ => ?_⟩
  have Zl : l ≠ Z := ne_of_none el nZ
  refine lc_list (xs := zs) (fun i H' => ∃ vs, H' Z = some (.lst vs) ∧ DpAll K H' vs (((t.sh 1 1).take i).map fracL) ∧ H' l = some (.lst zs) ∧ Same H1 H') ⟨[], upd_same, .nil, same_new nZ _ _ el, same_new nZ⟩ (fun i H' _ h => sq_l h.choose_spec.2.2.1) (fun i x H' hx h => ?_) (fun H2 h => ?_)
  · obtain ⟨vs, eZ, dvs, el2, s3⟩ := h
    obtain ⟨t0, a0, b0, q0, v0, q2, hi, rfl, hq, hv, hf⟩ := tw_at dz hx
    have vl := dps_len dvs
    rw [List.length_map, List.length_take] at vl
    have il : i < us.length := (List.getElem?_eq_some_iff.mp hi).1
    have e2 : (t.sh 1 1)[i]? = some (a0, b0) := by rw [← hus, List.getElem?_map, hi]; rfl
    refine g_gtup (same_t s3 hq) rfl ?_
    walk_at "go"
    refine ⟨rfl, ?_⟩
    walk_at "go"
    rw [if_pos (by decide)]
    walk_at "go"
    have tl := ts_lst (o := .lst (vs ++ [.ref q2])) eZ
    refine ⟨vs, eZ, sz1 (by omega), _, upd_same, ?_, by rw [upd_ne Zl]; exact el2, same_mut s3 nZ⟩
    rw [take_one e2, List.map_append]
    exact dps_app (dps_t tl (fracL_t _) dvs) (dps_t tl (fracL_t [_]) (.cons (.tup (same_t s3 hf) (.cons (.int _) (.cons (.int _) .nil))) .nil))
  obtain ⟨vs, eZ, dvs, el2, s3⟩ := h
  have full : (t.sh 1 1).take zs.length = t.sh 1 1 := by rw [lz, lu, ← sh_len t 1 1, List.take_length]
  rw [full] at dvs
  walk_at "go"
  refine ⟨Z, _, rfl, .inl ⟨sq_l eZ, fun rt nrt => ?_⟩⟩
  have s4 := same_new (o := .tup vs) nrt
  exact q rt _ (.tup (sq_t upd_same) (dps_same s4 dvs)) (s1.trans (s3.trans s4))
/-- what is told as the form -/
def formD (t : Th) : PyData := .tuple (((t.fm 1 1).mergeSort triLe).map fun p => fracL p.2)
structure DcOk (K : PySem.W.Frag) (H : Hp) (kvs : List (L2.Key × V)) (fs : List (Int × Int × Int)) : Prop where
  len : kvs.length = fs.length
  has : ∀ p ∈ fs, ∃ q, valV kvs (.inl p.1) = some (.ref q) ∧ SqT K H q [.int (lst p.2.1 p.2.2).1, .int (lst p.2.1 p.2.2).2]
  non : ∀ o : Int, (∀ p ∈ fs, p.1 ≠ o) → valV kvs (.inl o) = none
theorem DcOk.ts {H H' : Hp} {kvs : List (L2.Key × V)} {fs : List (Int × Int × Int)} (s : TSame H H') (h : DcOk K H kvs fs) : DcOk K H' kvs fs :=
  ⟨h.len, fun p hp => by obtain ⟨q, e, z⟩ := h.has p hp; exact ⟨q, e, ts_t s z⟩, h.non⟩
theorem DcOk.snoc {H : Hp} {kvs : List (L2.Key × V)} {fs : List (Int × Int × Int)} {o A B : Int} {q : Addr} (h : DcOk K H kvs fs) (hn : ∀ p ∈ fs, p.1 ≠ o) (hq : SqT K H q [.int (lst A B).1, .int (lst A B).2]) : DcOk K H (putK kvs (.inl o) (.ref q)) (fs ++ [(o, A, B)]) := by
  have h0 := h.non o hn
  refine ⟨?_, fun p hp => ?_, fun o' ho => ?_⟩
  · rw [putK_new _ h0, List.length_append, List.length_append, h.len]; rfl
  · rcases List.mem_append.mp hp with h' | h'
    · obtain ⟨q', e, z⟩ := h.has p h'
      refine ⟨q', ?_, z⟩
      rw [valV_put, if_neg (fun e => hn p h' (Sum.inl.inj e))]
      exact e
    · rw [List.mem_singleton.mp h']
      exact ⟨q, by rw [valV_put, if_pos rfl], hq⟩
  · rw [valV_put, if_neg (fun e => ho (o, A, B) (List.mem_append.mpr (.inr (List.mem_singleton.mpr rfl))) (Sum.inl.inj e).symm)]
    exact h.non o' fun p hp => ho p (List.mem_append.mpr (.inl hp))
theorem twIn_in (i : Int) (s : Int × Int) : twIn (.inp i, s) = some (i, s) := rfl
theorem twIn_st (n c : Int) (ps : List (Int × Th)) (s : Int × Int) : twIn (.st n c ps, s) = none := rfl
theorem l_dgetI {H : Hp} {a : Addr} {kvs : List (L2.Key × V)} {z : Int} {v : V} {P : V → Prop} (h : H a = some (.dK kvs)) (hk : valV kvs (.inl z) = some v) (q : P v) : ∃ a' v', V.ref a = V.ref a' ∧ DGet H a' (.int z) (some v') ∧ P v' := by
  refine ⟨a, v, rfl, ?_, q⟩
  have g := DGet.k (k := Sum.inl z) h
  rw [hk] at g
  exact g
theorem ts_dK {H : Hp} {a : Addr} {kvs : List (L2.Key × V)} {o : HO} (h : H a = some (.dK kvs)) : TSame H (upd H a o) := ts_mut fun o e => by
  rw [h] at e
  cases e
  rfl
def spFormOf (K : PySem.W.Frag) : Sp := fun vs H Q _ => ∃ (v : V) (t : Th), vs = [v] ∧ Dp K H v t.toD ∧ IsPlan t ∧ ∀ (p : Addr) (H' : Hp), Dp K H' (.ref p) (formD t) → Same H H' → Q (.ref p) H'
theorem ok_form_of (T : Tx K mg) : FnOk P w K mg base CX0 45 T.f_form_of T.fd_form_of ["plan"] (spFormOf K) := by
  refine T.F_form_of.ok sc_form_of (fun vs H Q E h => ?_) (fun cdv A outer s H vs Q E hr h => ?_)
  · obtain ⟨_, _, rfl, _⟩ := h
    rfl
  obtain ⟨v, t, rfl, hd, pl, q⟩ := h
  have h1 := pl.many
  have h2 := pl.deep
  have h3 := pl.inp
  have nd : ((t.fm 1 1).map (·.1)).Nodup := by
    rw [fm_ins]
    exact pl.perm.nodup_iff.mpr (by
      unfold rngI
      exact List.pairwise_map.mpr (List.nodup_range.imp fun h e => h (Int.ofNat.inj e)))
  refine ⟨_, (pss_cons (ps_set (i := 1) sc_form_of.nd rfl (Or.inl rfl) (pe_call (ok_things_with_shares T 40) (hr.mono (by first | decide | omega)) (by rfl) T.g_things_with_shares T.F_things_with_shares.kp T.b_things_with_shares .nil pass0 (pa_cons (pv 0) (pa_cons (pe_tup (pa_cons pe_int (pa_cons pe_int pa_nil))) pa_nil))))
      (pss_cons (ps_set (i := 2) sc_form_of.nd rfl (Or.inr rfl) (pe_dc (own := [("thing", 3), ("share", 4)]) (g := (gTup _ 2 (gCons (gName 3) (gCons (gName 4) gNil)))) (by rfl) sc_form_of.nd (pi_list (pv 1)) (blkOk_by (own := [("thing", 3), ("share", 4)]) (N := ["plan", "found", "share_of_input", "thing", "share", "number"]) (sc := defScope s_form_of) (by decide +kernel)) (fun _ _ _ _ _ => (pg_tup (by rfl) (pgs_cons (pg_name (i := 3) sc_form_of.nd rfl (Or.inl rfl)) (pgs_cons (pg_name (i := 4) sc_form_of.nd rfl (Or.inl rfl)) pgs_nil)))) (fun _ _ _ _ _ => pts_one (pt_not (pt_val (pe_call (ok_is_stage T) (hr.mono (by first | decide | omega)) (by rfl) T.g_is_stage T.F_is_stage.kp T.b_is_stage .nil pass0 (pa_cons (pv 3) pa_nil))))) (fun _ _ _ _ _ => (pv 3)) (fun _ _ _ _ _ => (pv 4))))
      (pss_one (ps_ret (pe_callTy call_tuple_of (by rfl) T.m_tuple (by decide +kernel) (pa_cons (pe_lc (own := [("number", 5)]) (g := (gName 5)) (tt := tYes) (by rfl) sc_form_of.nd (pi_range1 rfl T.m_range (pa_cons (pe_callB call_lenD (by rfl) T.m_len PySem.boot_len (pa_cons (pv 2) pa_nil)) pa_nil)) (blkOk_by (own := [("number", 5)]) (N := ["plan", "found", "share_of_input", "thing", "share", "number"]) (sc := defScope s_form_of) (by decide +kernel)) (fun _ _ _ _ _ => (pg_name (i := 5) sc_form_of.nd rfl (Or.inl rfl))) (fun _ _ _ _ _ => pts_nil) (fun _ _ _ _ _ => (pe_dget (hu_of hr) (pv 2) (pv 5) (fun _ _ => rfl)))) pa_nil)))))), ?_⟩
  walk_at "go"
  refine ⟨sz (by simp), fun f nf => ?_⟩
  have s1 := same_new (o := .tup [.int 1, .int 1]) nf
  refine ⟨v, f, 1, 1, t, 0, rfl, dp_same s1 hd, by rw [e11]; exact sq_t upd_same, by decide, by omega, h3, h1, pl.good, by decide, by decide, by omega, fun zs l H1 nl el dz s2 => ?_⟩
  walk_at "go"
  have ss := s1.trans s2
  have lz := dps_len dz
  rw [List.length_map, tws_len] at lz
  refine ⟨l, rfl, ⟨zs, sq_l el⟩, fun D nD => ?_⟩
  have Dl : l ≠ D := ne_of_none el nD
  refine dc_L (xs := zs) (fun i H' => ∃ kvs, H' D = some (.dK kvs) ∧ DcOk K H' kvs (((t.tws 1 1).take i).filterMap twIn) ∧ H' l = some (.lst zs) ∧ Same H1 H') ⟨[], upd_same, ⟨rfl, fun p hp => (by cases hp), fun o _ => rfl⟩, same_new nD _ _ el, same_new nD⟩ (fun i H' h => sq_l h.choose_spec.2.2.1) (fun i x H' hx h => ?_) (fun H2 h => ?_)
  · obtain ⟨kvs, eD, dk, el2, s3⟩ := h
    obtain ⟨t0, a0, b0, q0, v0, q2, hi, rfl, hq, hv, hf⟩ := tw_at dz hx
    have hlen := fm_len (f := twIn) (t.tws 1 1) i
    rw [tws_len, ← dk.len] at hlen
    have ft := fm_take (f := twIn) hi
    refine g_gtup (same_t s3 hq) rfl ?_
    walk_at "go"
    refine ⟨rfl, ?_⟩
    walk_at "go"
    refine ⟨v0, t0, rfl, dp_same s3 hv, fun i0 e => ?_, fun c d ps e => ?_⟩
    · subst e
      simp only [Th.toD] at hv
      obtain rfl := dp_int hv
      walk_at "go"
      rw [if_pos (by decide)]
      walk_at "go"
      rw [twIn_in] at ft
      have hn : ∀ p ∈ ((t.tws 1 1).take i).filterMap twIn, p.1 ≠ i0 := by
        have sub : (((t.tws 1 1).take (i + 1)).filterMap twIn).Sublist (t.fm 1 1) := by
          rw [← tws_fm]
          exact (List.take_sublist _ _).filterMap _
        have nd2 := (sub.map (·.1)).nodup nd
        rw [ft, List.map_append] at nd2
        intro p hp e
        exact (List.nodup_append.mp nd2).2.2 p.1 (List.mem_map.mpr ⟨p, hp, rfl⟩) i0 (List.mem_singleton.mpr rfl) e
      have tl : TSame H' (upd H' D (.dK (putK kvs (.inl i0) (.ref q2)))) := ts_dK eD
      refine ⟨kvs, .inl i0, rfl, eD, sz1 (by omega), _, upd_same, ?_, by rw [upd_ne Dl]; exact el2, same_mut s3 nD⟩
      rw [ft]
      exact (dk.snoc hn (same_t s3 hf)).ts tl
    · subst e
      walk_at "go"
      rw [if_neg (by decide)]
      refine ⟨kvs, eD, ?_, el2, s3⟩
      rw [ft, twIn_st]
      simpa using dk
  obtain ⟨kvs, eD, dk, el2, s3⟩ := h
  have full : (t.tws 1 1).take zs.length = t.tws 1 1 := by rw [lz, ← tws_len t 1 1, List.take_length]
  rw [full, tws_fm] at dk
  have kl := dk.len
  rw [form_len] at kl
  walk_at "go"
  refine ⟨D, kvs, rfl, eD, ?_⟩
  refine ⟨_, rfl, by omega, by omega, fun Z nZ => ?_⟩
  have ek : (kvs.length : Int).toNat = t.nIn := by omega
  rw [ek]
  have s13 := ss.trans s3
  refine lc_range (lo := 0) (n := t.nIn) (fun i H' => ∃ vs, H' Z = some (.lst vs) ∧ DpAll K H' vs ((((t.fm 1 1).mergeSort triLe).take i).map fun p => fracL p.2) ∧ Same H2 H') ⟨[], upd_same, .nil, same_new nZ⟩ (fun i H' hi h => ?_) (fun H3 h => ?_)
  · obtain ⟨vs, eZ, dvs, s4⟩ := h
    obtain ⟨A, B, hA, hm⟩ := srt_at pl hi
    obtain ⟨q2, hv, hf⟩ := dk.has _ hm
    have vl := dps_len dvs
    rw [List.length_map, List.length_take] at vl
    walk_at "go"
    refine ⟨rfl, ?_⟩
    walk_at "go"
    rw [if_pos (by decide)]
    walk_at "go"
    have ei : (0 : Int) + (i : Int) = (i : Int) := Int.zero_add _
    try rw [ei]
    refine l_dgetI (s4 _ _ eD) hv ?_
    have tl := ts_lst (o := .lst (vs ++ [.ref q2])) eZ
    refine ⟨vs, eZ, sz1 (by omega), _, upd_same, ?_, same_mut s4 nZ⟩
    rw [take_one hA, List.map_append]
    have dt : ∀ l : List (Int × Int × Int), tupAll (l.map fun p => fracL p.2) = true := fun l => tupAll_mem.mpr fun d hd => by
      obtain ⟨f, _, rfl⟩ := List.mem_map.mp hd
      simp only [fracL, fracD, tupD, tupAll, Bool.and_self]
    exact dps_app (dps_t tl (dt _) dvs) (dps_t tl (dt [_]) (.cons (.tup (same_t s4 hf) (.cons (.int _) (.cons (.int _) .nil))) .nil))
  obtain ⟨vs, eZ, dvs, s4⟩ := h
  rw [← srt_len t, List.take_length] at dvs
  walk_at "go"
  refine ⟨Z, _, rfl, .inl ⟨sq_l eZ, fun rt nrt => ?_⟩⟩
  have s5 := same_new (o := .tup vs) nrt
  exact q rt _ (.tup (sq_t upd_same) (dps_same s5 dvs)) (s13.trans (s4.trans s5))

end
end SC
namespace SC
open PySem PySem.Spec PyProof.Rows L2 StrLaws
local macro_rules | `(tactic| walk_at "go") => `(tactic| ((try dsimp only [cxOf, Cx.nox, Cx.wish]); repeat (first
  | (with_reducible refine g_seq ?_)
  | (with_reducible refine g_asg ?_)
  | (with_reducible refine g_asg2 ?_)
  | (with_reducible refine g_ret ?_)
  | (with_reducible refine g_drop ?_)
  | (with_reducible refine g_next ?_)
  | (with_reducible refine g_ifs ?_)
  | (with_reducible refine g_par ?_)
  | (with_reducible refine g_par3 ?_)
  | ((with_reducible refine' g_var ?hv ?_); (case hv => exact rfl))
  | (with_reducible refine g_c ?_)
  | ((with_reducible refine' g_aug ?hv ?_); (case hv => exact rfl))
  | (with_reducible refine l_ip ?_)
  | (with_reducible refine g_op ?_)
  | (with_reducible refine g_un ?_)
  | (with_reducible refine g_cons ?_)
  | (with_reducible refine g_nil ?_)
  | (with_reducible refine g_cb ?_)
  | (with_reducible refine g_call ?_)
  | (with_reducible refine g_callK ?_)
  | (with_reducible refine g_test ?_)
  | (with_reducible refine g_b ?_)
  | (with_reducible refine g_not ?_)
  | (with_reducible refine g_chain ?_)
  | (with_reducible refine g_notV ?_)
  | (with_reducible refine g_and ?_)
  | (with_reducible refine g_or ?_)
  | (with_reducible refine g_ifx ?_)
  | (with_reducible refine g_isN ?_)
  | (with_reducible refine g_notN ?_)
  | (with_reducible refine g_andV ?_)
  | (with_reducible refine g_bm ?_)
  | (with_reducible refine g_bm0 ?_)
  | (with_reducible refine g_sl ?_)
  | (with_reducible refine g_part ?_)
  | (with_reducible refine g_nopart ?_)
  | (with_reducible refine g_dget ?_)
  | (with_reducible refine g_dput ?_)
  | (with_reducible refine g_tup ?_)
  | (with_reducible refine g_lst ?_)
  | (with_reducible refine g_yes ?_)
  | (with_reducible refine g_name ?_)
  | (with_reducible refine g_gsub ?_)
  | (with_reducible refine g_iList ?_)
  | (with_reducible refine g_iTup ?_)
  | (with_reducible refine g_for ?_)
  | (with_reducible refine g_lc ?_)
  | (with_reducible refine g_rng1 ?_)
  | (with_reducible refine g_iZip ?_)
  | (with_reducible refine g_allT ?_)
  | (with_reducible refine g_iZipA ?_)
  | (with_reducible refine g_iZip3 ?_)
  | (with_reducible refine g_dcT ?_)
  | (with_reducible refine g_dc ?_)
  | (with_reducible refine g_iEnumT ?_)
  | (with_reducible refine g_lstRg ?_)
  | (with_reducible refine g_rg1 ?_)
  | (with_reducible refine g_gcons ?_)
  | (with_reducible refine g_gnil ?_)
  | (with_reducible refine l_bl ?_)
  | (with_reducible refine l_int ?_)
  | (with_reducible refine l_two ?_)
  | (with_reducible refine l_three ?_)
  | (with_reducible refine l_I0 ?_)
  | (with_reducible refine l_U ?_)
  | dsimp only)))
section
variable {P : Program} {w : World} {K : PySem.W.Frag} {mg : Str → Option Value} {base : Heap}
/-! ### _law_is_right (k07) -/
def dpFrac {H : Hp} {p : Addr} {a b : Int} (h : H p = some (.tup [.int (lst a b).1, .int (lst a b).2])) : Dp K H (.ref p) (fracD (lst a b)) := .tup (sq_t h) (.cons (.int _) (.cons (.int _) .nil))
theorem fracD_ok {f : Int × Int} (h1 : f.1.natAbs ≤ 2 ^ 1890) (h2 : f.2.natAbs ≤ 2 ^ 1890) : okB (fracD f) = true := by
  have e1 := okB_int h1
  have e2 := okB_int h2
  simp only [okB] at e1 e2
  simp only [fracD, okB, okBAll, e1, e2, Bool.and_true]
theorem up1890 {x : Int} {k : Nat} (h : x.natAbs ≤ 2 ^ k) (hk : k ≤ 1890) : x.natAbs ≤ 2 ^ 1890 := Nat.le_trans h (Nat.pow_le_pow_right (by decide) hk)
theorem fracD_nd (f : Int × Int) : nd (fracD f) = 3 ∧ (fracD f).depth = 1 := by
  refine ⟨by simp only [fracD, nd, ndAll], ?_⟩
  simp only [fracD, depth_tuple, PyData.depthAll, PyData.depth]; omega
theorem fracLs_ok : ∀ {l : List (Int × Int)}, (∀ f ∈ l, f.1.natAbs ≤ 2 ^ 800 ∧ f.2.natAbs ≤ 2 ^ 800) → okBAll (l.map fracL) = true ∧ ndAll (l.map fracL) ≤ 4 * l.length + 5
  | [], _ => by
    refine ⟨rfl, ?_⟩
    simp only [List.map_nil, ndAll]; omega
  | f :: l, h => by
    obtain ⟨i1, i2⟩ := fracLs_ok (l := l) fun g hg => h g (List.mem_cons_of_mem _ hg)
    have hf := h f (List.mem_cons_self ..)
    have e1 : okB (fracL f) = true := fracD_ok (up1890 (Nat.le_trans (lst_le1 _ _) hf.1) (by decide)) (up1890 (Nat.le_trans (lst_le2 _ _) hf.2) (by decide))
    have e2 : nd (fracL f) = 3 := (fracD_nd _).1
    refine ⟨?_, ?_⟩
    · simp only [List.map_cons, okBAll, e1, i1, Bool.and_self]
    · simp only [List.map_cons, ndAll, e2, List.length_cons]; omega
theorem fracLs_depth (l : List (Int × Int)) : PyData.depthAll (l.map fracL) ≤ 1 := depthAll_le.mpr fun d hd => by
  obtain ⟨f, _, rfl⟩ := List.mem_map.mp hd
  exact Nat.le_of_eq (fracD_nd _).2
theorem zn8s {t : Th} (pl : IsPlan t) : 1 * ZN ^ t.dep ≤ 2 ^ 800 := by
  rw [Nat.one_mul]
  exact Nat.le_trans (Nat.pow_le_pow_right (by decide) pl.deep) (by decide +kernel)
theorem formD_eq (t : Th) : formD t = .tuple ((((t.fm 1 1).mergeSort triLe).map (·.2)).map fracL) := by
  unfold formD
  rw [List.map_map]
  rfl
theorem sh_bnd {t : Th} (pl : IsPlan t) : ∀ f ∈ t.sh 1 1, f.1.natAbs ≤ 2 ^ 800 ∧ f.2.natAbs ≤ 2 ^ 800 ∧ 0 < f.2 := fun f hf => by
  have h := sh_le t 1 1 1 pl.good (by decide) (by decide) (by decide) f hf
  exact ⟨Nat.le_trans h.1 (zn8s pl), Nat.le_trans h.2.1 (zn8s pl), h.2.2⟩
theorem fm_bnd {t : Th} (pl : IsPlan t) : ∀ p ∈ t.fm 1 1, p.2.1.natAbs ≤ 2 ^ 800 ∧ p.2.2.natAbs ≤ 2 ^ 800 ∧ 0 < p.2.2 := fun f hf => by
  have h := fm_le t 1 1 1 pl.good (by decide) (by decide) (by decide) f hf
  exact ⟨Nat.le_trans h.1 (zn8s pl), Nat.le_trans h.2.1 (zn8s pl), h.2.2⟩
theorem srt_mem {t : Th} {p : Int × Int × Int} (h : p ∈ (t.fm 1 1).mergeSort triLe) : p ∈ t.fm 1 1 := (List.mergeSort_perm (t.fm 1 1) triLe).mem_iff.mp h
theorem sharesD_ok {t : Th} (pl : IsPlan t) : okB (sharesD t) = true ∧ nd (sharesD t) ≤ 100 ∧ (sharesD t).depth ≤ 2 := by
  obtain ⟨h1, h2⟩ := fracLs_ok (l := t.sh 1 1) fun f hf => ⟨(sh_bnd pl f hf).1, (sh_bnd pl f hf).2.1⟩
  have hm := pl.many
  rw [sh_len] at h2
  have h3 := fracLs_depth (t.sh 1 1)
  refine ⟨?_, ?_, ?_⟩
  · simp only [sharesD, okB, h1]
  · simp only [sharesD, nd]; omega
  · simp only [sharesD, depth_tuple]; omega
theorem formD_ok {t : Th} (pl : IsPlan t) : okB (formD t) = true ∧ nd (formD t) ≤ 200 ∧ (formD t).depth ≤ 2 := by
  obtain ⟨h1, h2⟩ := fracLs_ok (l := ((t.fm 1 1).mergeSort triLe).map (·.2)) fun f hf => by
    obtain ⟨p, hp, rfl⟩ := List.mem_map.mp hf
    have := fm_bnd pl p (srt_mem hp)
    exact ⟨this.1, this.2.1⟩
  have hm := pl.inp
  rw [List.length_map, srt_len] at h2
  have h3 := fracLs_depth (((t.fm 1 1).mergeSort triLe).map (·.2))
  rw [formD_eq]
  refine ⟨?_, ?_, ?_⟩
  · simp only [okB, h1]
  · simp only [nd]; omega
  · simp only [depth_tuple]; omega
theorem exD_ok {t : Th} {r : List Int} (R : Runs t r 210) : okB (fracD (lst (t.ex r).1 (t.ex r).2)) = true :=
  fracD_ok (up1890 (Nat.le_trans (lst_le1 _ _) R.ex1) (by decide)) (up1890 (Nat.le_trans (lst_le2 _ _) R.ex2) (by decide))
theorem sharesD_shows {t : Th} (pl : IsPlan t) : ShowsB (sharesD t) := by
  obtain ⟨h1, h2, h3⟩ := sharesD_ok pl
  exact ⟨h1, by omega, by omega⟩
theorem formD_shows {t : Th} (pl : IsPlan t) : ShowsB (formD t) := by
  obtain ⟨h1, h2, h3⟩ := formD_ok pl
  exact ⟨h1, by omega, by omega⟩
theorem exD_shows {t : Th} {r : List Int} (R : Runs t r 210) : ShowsB (fracD (lst (t.ex r).1 (t.ex r).2)) := ⟨exD_ok R, by rw [(fracD_nd _).1]; decide, by rw [(fracD_nd _).2]; decide⟩
theorem plan_showsB {t : Th} (pl : IsPlan t) : ShowsB t.toD := by
  have h1 := pl.nd
  have h2 := pl.depth
  exact ⟨okB_of t pl.okD, by omega, by omega⟩
def dueD7 (t : Th) : PyData := .list [sharesD t, formD t]
theorem due3_shows {t : Th} (pl : IsPlan t) : ShowsB (.list [dueD7 t, dueD7 t, dueD7 t]) := by
  obtain ⟨h1, h2, h3⟩ := sharesD_ok pl
  obtain ⟨k1, k2, k3⟩ := formD_ok pl
  refine ⟨?_, ?_, ?_⟩
  · simp only [dueD7, okB, okBAll, h1, k1, Bool.and_self]
  · simp only [dueD7, nd, ndAll]; omega
  · simp only [dueD7, depth_list, PyData.depthAll]; omega
theorem ex3_shows {t : Th} {r : List Int} (R : Runs t r 210) : ShowsB (.list [fracD (lst (t.ex r).1 (t.ex r).2), fracD (lst (t.ex r).1 (t.ex r).2), fracD (lst (t.ex r).1 (t.ex r).2)]) := by
  refine ⟨?_, ?_, ?_⟩
  · simp only [okB, okBAll, exD_ok R, Bool.and_self]
  · simp only [nd, ndAll, (fracD_nd _).1]; decide
  · simp only [depth_list, PyData.depthAll, (fracD_nd _).2]; decide
def fterm (r : List Int) (W : Int) (p : Int × Int × Int) : Int := rowAt r p.1 * p.2.1 * (W / p.2.2)
def spRight7 (K : PySem.W.Frag) : Sp := fun vs H Q _ => ∃ (dk gr : Addr) (v : V) (b : Bool) (t : Th), vs = [.ref dk, v, .bl b] ∧ Deck H dk gr ∧ Dp K H v t.toD ∧ IsPlan t ∧ ∀ H', Deck H' dk gr → TSame H H' → Q (.bl true) H'
theorem ok_l_is_right (T : Tx K mg) : FnG P w K mg base 47 T.f_l_is_right T.fd_l_is_right ["deck", "plan", "is_named"] (spRight7 K) := by
  refine FnG.mk' T.F_l_is_right sc_l_is_right (fun vs H Q E h => ?_) (fun cdv A outer s H vs Q hgd hr h => ?_)
  · obtain ⟨_, _, _, _, _, rfl, _⟩ := h
    rfl
  obtain ⟨dk, gr, v, b, t, rfl, D, hd, pl, q⟩ := h
  have h1 := pl.many
  have h2 := pl.deep
  have h3 := pl.inp
  have dep1 : 1 ≤ t.dep := by
    obtain ⟨c, d, ps, e⟩ := pl.st
    subst e
    simp only [Th.dep]; omega
  obtain ⟨va, rfl⟩ : ∃ va, v = .ref va := by
    obtain ⟨c, d, ps, rfl⟩ := pl.st
    exact dp_tuple (by simp only [Th.toD] at hd; exact hd)
  refine ⟨_, (pss_cons (ps_asg (pe_tup (pa_cons (pe_callB (call_reprB hgd hr.repr) (by rfl) T.m_repr (by decide +kernel) (pa_cons (pv 1) pa_nil)) (pa_cons (pe_callB (cr_sortTri hr.repr) (by rfl) T.m_sorted (by decide +kernel) (pa_cons (pe_call (ok_l_form T 40) (hr.mono (by first | decide | omega)) (by rfl) T.g_l_form T.F_l_form.kp T.b_l_form .nil pass0 (pa_cons (pv 1) (pa_cons pe_int (pa_cons pe_int pa_nil)))) pa_nil)) (pa_cons pe_int pa_nil)))) (pg_tup (by rfl) (pgs_cons (pg_name (i := 3) sc_l_is_right.nd rfl (Or.inl rfl)) (pgs_cons (pg_name (i := 4) sc_l_is_right.nd rfl (Or.inl rfl)) (pgs_cons (pg_name (i := 5) sc_l_is_right.nd rfl (Or.inr rfl)) pgs_nil)))))
      (pss_cons (ps_for PassesOwn.never rfl (pi_list (pe_call (ok_l_things T 40) (hr.mono (by first | decide | omega)) (by rfl) T.g_l_things T.F_l_things.kp T.b_l_things .nil pass0 (pa_cons (pv 1) (pa_cons (pe_tup pa_nil) pa_nil)))) (pg_tup (by rfl) (pgs_cons (pg_name (i := 6) sc_l_is_right.nd rfl (Or.inl rfl)) (pgs_cons (pg_name (i := 7) sc_l_is_right.nd rfl (Or.inl rfl)) pgs_nil))) (pss_one (ps_set (i := 5) sc_l_is_right.nd rfl (Or.inr rfl) (pe_op op_mulW (pv 5) (pe_ifExp (pt_val (pe_callB call_isi (by rfl) T.m_isinstance (by decide +kernel) (pa_cons (pv 7) (pa_cons (pe_bltn (by rfl) T.m_tuple (by decide +kernel) (show RelV (.ty "tuple") _ from rfl)) pa_nil)))) (pe_ix ix_tup (pv 7) pe_int (fun _ _ => rfl)) pe_int)))))
      (pss_cons (ps_set (i := 8) sc_l_is_right.nd rfl (Or.inl rfl) (pe_lst (pa_cons (pe_callTy call_tuple_of (by rfl) T.m_tuple (by decide +kernel) (pa_cons (pe_lc (own := [("above", 14), ("below", 15)]) (g := (gTup _ 2 (gCons (gName 14) (gCons (gName 15) gNil)))) (tt := tYes) (by rfl) sc_l_is_right.nd (pi_list (pe_call (ok_l_shares T 40) (hr.mono (by first | decide | omega)) (by rfl) T.g_l_shares T.F_l_shares.kp T.b_l_shares .nil pass0 (pa_cons (pv 1) (pa_cons pe_int (pa_cons pe_int pa_nil))))) (blkOk_by (own := [("above", 14), ("below", 15)]) (N := ["deck", "plan", "is_named", "known", "form", "whole", "way", "thing", "due", "seen", "other", "turn", "row", "total", "above", "below", "own"]) (sc := defScope s_l_is_right) (by decide +kernel)) (fun _ _ _ _ _ => (pg_tup (by rfl) (pgs_cons (pg_name (i := 14) sc_l_is_right.nd rfl (Or.inl rfl)) (pgs_cons (pg_name (i := 15) sc_l_is_right.nd rfl (Or.inl rfl)) pgs_nil)))) (fun _ _ _ _ _ => pts_nil) (fun _ _ _ _ _ => (pe_call (ok_l_least T) (hr.mono (by first | decide | omega)) (by rfl) T.g_l_least T.F_l_least.kp T.b_l_least .nil pass0 (pa_cons (pv 14) (pa_cons (pv 15) pa_nil))))) pa_nil)) pa_nil)))
      (pss_cons (ps_expr (pe_bm PySem.F.plainAttrs_list PySem.F.slot_list_append PySem.F.type_list_append mt_append (pv 8) (pa_cons (pe_callTy call_tuple_of (by rfl) T.m_tuple (by decide +kernel) (pa_cons (pe_lc (own := [("own", 16), ("above", 14), ("below", 15)]) (g := (gTup _ 3 (gCons (gName 16) (gCons (gName 14) (gCons (gName 15) gNil))))) (tt := tYes) (by rfl) sc_l_is_right.nd (pi_list (pv 4)) (blkOk_by (own := [("own", 16), ("above", 14), ("below", 15)]) (N := ["deck", "plan", "is_named", "known", "form", "whole", "way", "thing", "due", "seen", "other", "turn", "row", "total", "above", "below", "own"]) (sc := defScope s_l_is_right) (by decide +kernel)) (fun _ _ _ _ _ => (pg_tup (by rfl) (pgs_cons (pg_name (i := 16) sc_l_is_right.nd rfl (Or.inl rfl)) (pgs_cons (pg_name (i := 14) sc_l_is_right.nd rfl (Or.inl rfl)) (pgs_cons (pg_name (i := 15) sc_l_is_right.nd rfl (Or.inl rfl)) pgs_nil))))) (fun _ _ _ _ _ => pts_nil) (fun _ _ _ _ _ => (pe_call (ok_l_least T) (hr.mono (by first | decide | omega)) (by rfl) T.g_l_least T.F_l_least.kp T.b_l_least .nil pass0 (pa_cons (pv 14) (pa_cons (pv 15) pa_nil))))) pa_nil)) pa_nil)))
      (Evl.pss_cut (ps_set (i := 9) sc_l_is_right.nd rfl (Or.inl rfl) (pe_ifExp (pt_val (pv 2)) (pe_lst (pa_cons (pe_kw (ok_shares_of T) (hr.mono (by first | decide | omega)) (by rfl) T.g_shares_of T.F_shares_of.kp T.k_shares_of_plan (pk_cons (pv 1) pk_nil)) (pa_cons (pe_kw (ok_form_of T) (hr.mono (by first | decide | omega)) (by rfl) T.g_form_of T.F_form_of.kp T.k_form_of_plan (pk_cons (pv 1) pk_nil)) pa_nil))) (pe_lst (pa_cons (pe_call (ok_shares_of T) (hr.mono (by first | decide | omega)) (by rfl) T.g_shares_of T.F_shares_of.kp T.b_shares_of .nil pass0 (pa_cons (pv 1) pa_nil)) (pa_cons (pe_call (ok_form_of T) (hr.mono (by first | decide | omega)) (by rfl) T.g_form_of T.F_form_of.kp T.b_form_of .nil pass0 (pa_cons (pv 1) pa_nil)) pa_nil)))))
      (pss_cons (ps_set (i := 10) sc_l_is_right.nd rfl (Or.inl rfl) (pe_call (ok_l_other T 40) (hr.mono (by first | decide | omega)) (by rfl) T.g_l_other T.F_l_other.kp T.b_l_other .nil pass0 (pa_cons (pv 0) (pa_cons (pv 1) pa_nil))))
      (pss_cons (ps_if (pt_cmpR op_ne (pe_callB (call_reprB hgd hr.repr) (by rfl) T.m_repr (by decide +kernel) (pa_cons (pe_lst (pa_cons (pv 9) (pa_cons (pe_lst (pa_cons (pe_call (ok_shares_of T) (hr.mono (by first | decide | omega)) (by rfl) T.g_shares_of T.F_shares_of.kp T.b_shares_of .nil pass0 (pa_cons (pv 1) pa_nil)) (pa_cons (pe_call (ok_form_of T) (hr.mono (by first | decide | omega)) (by rfl) T.g_form_of T.F_form_of.kp T.b_form_of .nil pass0 (pa_cons (pv 1) pa_nil)) pa_nil))) (pa_cons (pe_lst (pa_cons (pe_call (ok_shares_of T) (hr.mono (by first | decide | omega)) (by rfl) T.g_shares_of T.F_shares_of.kp T.b_shares_of .nil pass0 (pa_cons (pv 10) pa_nil)) (pa_cons (pe_call (ok_form_of T) (hr.mono (by first | decide | omega)) (by rfl) T.g_form_of T.F_form_of.kp T.b_form_of .nil pass0 (pa_cons (pv 10) pa_nil)) pa_nil))) pa_nil)))) pa_nil)) (pe_callB (call_reprB hgd hr.repr) (by rfl) T.m_repr (by decide +kernel) (pa_cons (pe_op op_rep (pe_lst (pa_cons (pv 8) pa_nil)) pe_int) pa_nil)) (nomark _)) (pss_one (ps_ret pe_bl)) pss_nil)
      (pss_cons (ps_for PassesOwn.never rfl (pi_range1 rfl T.m_range (pa_cons pe_int pa_nil)) (pg_name (i := 11) sc_l_is_right.nd rfl (Or.inl rfl)) (pss_cons (ps_set (i := 12) sc_l_is_right.nd rfl (Or.inr rfl) (pe_call (ok_l_row T) (hr.mono (by first | decide | omega)) (by rfl) T.g_l_row T.F_l_row.kp T.b_l_row .nil pass0 (pa_cons (pv 0) (pa_cons (pv 1) (pa_cons (pe_callB call_len_seq (by rfl) T.m_len PySem.boot_len (pa_cons (pv 4) pa_nil)) pa_nil)))))
      (pss_cons (ps_set (i := 13) sc_l_is_right.nd rfl (Or.inl rfl) (pe_callB (cr_sum rfl) (by rfl) T.m_sum (by decide +kernel) (pa_cons (pe_lc (own := [("own", 16), ("above", 14), ("below", 15)]) (g := (gTup _ 3 (gCons (gName 16) (gCons (gName 14) (gCons (gName 15) gNil))))) (tt := tYes) (by rfl) sc_l_is_right.nd (pi_list (pv 4)) (blkOk_by (own := [("own", 16), ("above", 14), ("below", 15)]) (N := ["deck", "plan", "is_named", "known", "form", "whole", "way", "thing", "due", "seen", "other", "turn", "row", "total", "above", "below", "own"]) (sc := defScope s_l_is_right) (by decide +kernel)) (fun _ _ _ _ _ => (pg_tup (by rfl) (pgs_cons (pg_name (i := 16) sc_l_is_right.nd rfl (Or.inl rfl)) (pgs_cons (pg_name (i := 14) sc_l_is_right.nd rfl (Or.inl rfl)) (pgs_cons (pg_name (i := 15) sc_l_is_right.nd rfl (Or.inl rfl)) pgs_nil))))) (fun _ _ _ _ _ => pts_nil) (fun _ _ _ _ _ => (pe_op op_mulW (pe_op op_mulW (pe_ix (show IxR _ (rIxT K) from ix_tup) (pv 12) (pv 16) (fun _ _ => rfl)) (pv 14)) (pe_op op_fdivW (pv 5) (pv 15))))) pa_nil)))
      (pss_cons (ps_if (pt_cmpR (op_neD hr.units) (pe_call (ok_l_exact T 40) (hr.mono (by first | decide | omega)) (by rfl) T.g_l_exact T.F_l_exact.kp T.b_l_exact .nil pass0 (pa_cons (pv 1) (pa_cons (pv 12) pa_nil))) (pe_tup (pa_cons (pv 13) (pa_cons (pv 5) pa_nil))) (nomark _)) (pss_one (ps_ret pe_bl)) pss_nil)
      (pss_cons (ps_set (i := 13) sc_l_is_right.nd rfl (Or.inl rfl) (pe_call (ok_l_least T) (hr.mono (by first | decide | omega)) (by rfl) T.g_l_least T.F_l_least.kp T.b_l_least .nil pass0 (pa_cons (pv 13) (pa_cons (pv 5) pa_nil))))
      (pss_one (ps_if (pt_cmpR op_ne (pe_callB (call_reprB hgd hr.repr) (by rfl) T.m_repr (by decide +kernel) (pa_cons (pe_lst (pa_cons (pe_call (ok_exact_of T) (hr.mono (by first | decide | omega)) (by rfl) T.g_exact_of T.F_exact_of.kp T.b_exact_of .nil pass0 (pa_cons (pv 1) (pa_cons (pv 12) pa_nil))) (pa_cons (pe_call (ok_exact_of T) (hr.mono (by first | decide | omega)) (by rfl) T.g_exact_of T.F_exact_of.kp T.b_exact_of .nil pass0 (pa_cons (pv 10) (pa_cons (pv 12) pa_nil))) (pa_cons (pe_kw (ok_exact_of T) (hr.mono (by first | decide | omega)) (by rfl) T.g_exact_of T.F_exact_of.kp T.k_exact_of_row_plan (pk_cons (pv 12) (pk_cons (pv 1) pk_nil))) pa_nil)))) pa_nil)) (pe_callB (call_reprB hgd hr.repr) (by rfl) T.m_repr (by decide +kernel) (pa_cons (pe_op op_rep (pe_lst (pa_cons (pv 13) pa_nil)) pe_int) pa_nil)) (nomark _)) (pss_one (ps_ret pe_bl)) pss_nil)))))))
      (pss_one (ps_ret (pe_cmpR op_eq (pe_callB (call_reprB hgd hr.repr) (by rfl) T.m_repr (by decide +kernel) (pa_cons (pv 1) pa_nil)) (pv 3) (nomark _)))))))))))), ?_⟩
  walk_at "go"
  refine ⟨.ref va, t.toD, rfl, hd, .inl ⟨_, rfl⟩, plan_showsB pl, ?_⟩
  walk_at "go"
  refine ⟨.ref va, 1, 1, t, 0, rfl, hd, by omega, dep1, h3, pl.good, by decide, by decide, by omega, fun zs p1 H1 np1 ep1 dz s1 => ?_⟩
  refine ⟨p1, zs, t.fm 1 1, rfl, sq_l ep1, Tris.of dz, by rw [form_len]; omega, fun ys p2 ty np2 => ?_⟩
  walk_at "go"
  refine ⟨sz (by simp), fun tp ntp => ?_⟩
  refine g_gtup (sq_t upd_same) rfl ?_
  have s2 := same_new (o := .lst ys) np2
  have s3 := same_new (o := .tup [.str t.toD.shown, .ref p2, .int 1]) ntp
  have ep2 := s3 _ _ (upd_same (H := H1) (a := p2) (o := .lst ys))
  have ly : ys.length = t.nIn := by rw [Tris.len ty, srt_len]
  have ty2 := ty.ts (ts_same (s2.trans s3))
  have s13 := s1.trans (s2.trans s3)
  have np20 : H p2 = none := s1.free np2
  have p2d := (deck_ne D np20).2.2
  generalize upd (upd H1 p2 (.lst ys)) tp (.tup [.str t.toD.shown, .ref p2, .int 1]) = H2 at ep2 ty2 s13 ⊢
  have D2 := deck_new D s13
  have hd2 := dp_same s13 hd
  walk_at "go"
  refine ⟨Nat.zero_le _, fun e ne => ?_⟩
  have s4 := same_new (o := .tup []) ne
  refine ⟨.ref va, e, [], t, rfl, dp_same s4 hd2, .tup (sq_t upd_same) .nil, by omega, by simp; omega, by omega, fun zs l H3 nl el dz3 s5 => ?_⟩
  have lz := dps_len dz3
  rw [List.length_map, things_len] at lz
  have s45 := s4.trans s5
  refine ⟨l, rfl, ⟨zs, sq_l el⟩, ?_⟩
  refine for_L (xs := zs) (fun i σ H' => ∃ y6 y7, σ = [some (.ref dk), some (.ref va), some (.bl b), some (.str t.toD.shown), some (.ref p2), some (.int (prodI (((t.things []).take i).map dvOf))), y6, y7, none, none, none, none, none, none, none, none, none] ∧ Same H3 H')
    ⟨none, none, by simp only [List.take_zero, List.map_nil]; rfl, Same.refl _⟩ (fun i σ H' _ h => ?_) (fun i x σ H' hx h => ?_) (fun σ H' h => ?_)
  · obtain ⟨_, _, _, s⟩ := h
    exact sq_l (s _ _ el)
  · obtain ⟨y6, y7, rfl, s⟩ := h
    obtain ⟨w0, t0, q0, wa, v0, hi, rfl, hq, hw, hv⟩ := thing_at dz3 hx
    have il : i < (t.things []).length := (List.getElem?_eq_some_iff.mp hi).1
    rw [things_len] at il
    have bnd : (prodI (((t.things []).take i).map dvOf)).natAbs ≤ 2 ^ (100 * 40) := by
      refine Nat.le_trans (prodI_le fun x hx => ?_) (Nat.pow_le_pow_right (by decide) (Nat.mul_le_mul_left _ ?_))
      · obtain ⟨p, hp, rfl⟩ := List.mem_map.mp hx
        have hp2 := List.mem_of_mem_take hp
        obtain ⟨w1, t1⟩ := p
        cases t1 with
        | inp i1 => simp only [dvOf]; decide
        | st c d ps =>
          have hs : Th.st c d ps ∈ t.stL := by
            rw [← things_stgs t []]
            exact List.mem_filterMap.mpr ⟨_, hp2, rfl⟩
          obtain ⟨n, c', ps', e, n1, n2, _, _⟩ := stL_st t pl.good _ hs
          cases e
          simp only [dvOf]
          exact Nat.le_trans (nat30 (by omega) n2) (by decide +kernel)
      · rw [List.length_map, List.length_take]; omega
    have tk : prodI (((t.things []).take (i + 1)).map dvOf) = prodI (((t.things []).take i).map dvOf) * dvOf (w0, t0) := by rw [take_one hi, List.map_append, List.map_cons, List.map_nil, prodI_snoc]
    refine g_gtup (same_t s hq) rfl ?_
    walk_at "go"
    cases t0 with
    | inp i0 =>
      simp only [Th.toD] at hv
      obtain rfl := dp_int hv
      refine isi_it ?_
      walk_at "go"
      rw [if_neg (by decide)]
      walk_at "go"
      refine l_I (big_mul (y := 1) bnd (by decide) (by decide)) ?_
      walk_at "go"
      refine ⟨some (.ref wa), some (.int i0), ?_, s⟩
      rw [tk]
      rfl
    | st c d ps =>
      have hs : Th.st c d ps ∈ t.stL := by
        rw [← things_stgs t []]
        exact List.mem_filterMap.mpr ⟨_, List.mem_of_getElem? hi, rfl⟩
      obtain ⟨n, c', ps', e, n1, n2, _, _⟩ := stL_st t pl.good _ hs
      cases e
      have hv0 := hv
      simp only [Th.toD] at hv0
      obtain ⟨tv, rfl⟩ := dp_tuple hv0
      obtain ⟨b0, xs, ht, _, _⟩ := pl_at hv
      refine isi_tt (same_t s ht) ?_
      walk_at "go"
      rw [if_pos (by decide)]
      walk_at "go"
      refine l_ixT (same_t s ht) rfl ?_
      walk_at "go"
      refine l_I (big_mul bnd (Nat.le_trans (nat30 (by omega) n2) (show (10 : Nat) ^ 30 ≤ 2 ^ 100 by decide +kernel)) (by decide)) ?_
      walk_at "go"
      refine ⟨some (.ref wa), some (.ref tv), ?_, s⟩
      rw [tk]
      rfl
  obtain ⟨y6, y7, rfl, s6⟩ := h
  have full : (t.things []).take zs.length = t.things [] := by rw [lz, ← things_len t [], List.take_length]
  rw [full, things_prod []]
  have s46 := s45.trans s6
  have ep3 := s46 _ _ ep2
  have ty3 := ty2.ts (ts_same s46)
  have hd3 := dp_same s46 hd2
  have D3 := deck_new D2 s46
  have s16 := s13.trans s46
  clear hd2 ep2 ty2 D2
  -- what is due
  walk_at "go"
  refine ⟨.ref va, 1, 1, t, 0, rfl, hd3, by omega, dep1, h1, pl.good, by decide, by decide, by omega, fun fs pf H4 npf epf df s7 => ?_⟩
  have lf := dps_len df
  rw [List.length_map, sh_len] at lf
  refine ⟨pf, rfl, ⟨fs, sq_l epf⟩, fun Z nZ => ?_⟩
  have Zf : pf ≠ Z := ne_of_none epf nZ
  refine lc_list (xs := fs) (fun i H' => ∃ vs, H' Z = some (.lst vs) ∧ DpAll K H' vs (((t.sh 1 1).take i).map fracL) ∧ Same H4 H') ⟨[], upd_same, .nil, same_new nZ⟩ (fun i H' _ h => sq_l (h.choose_spec.2.2 _ _ epf)) (fun i x H' hx h => ?_) (fun H5 h => ?_)
  · obtain ⟨vs, eZ, dvs, s⟩ := h
    obtain ⟨f, q0, hf, rfl, hq⟩ := frac_at df hx
    obtain ⟨f1, f2, f3⟩ := sh_bnd pl f (List.mem_of_getElem? hf)
    have vl := dps_len dvs
    rw [List.length_map, List.length_take] at vl
    have il : i < (t.sh 1 1).length := (List.getElem?_eq_some_iff.mp hf).1
    rw [sh_len] at il
    refine g_gtup (same_t s hq) rfl ?_
    walk_at "go"
    refine ⟨rfl, ?_⟩
    walk_at "go"
    rw [if_pos (by decide)]
    walk_at "go"
    refine ⟨f.1, f.2, rfl, f3, Nat.le_trans f2 (Nat.pow_le_pow_right (by decide) (by decide)), fun p2 H2 ep s2 => ?_⟩
    have eZ2 := s2 _ _ eZ
    have tl := ts_lst (o := .lst (vs ++ [.ref p2])) eZ2
    refine ⟨vs, eZ2, sz1 (by omega), _, upd_same, ?_, same_mut (s.trans s2) nZ⟩
    rw [take_one hf, List.map_append]
    exact dps_app (dps_t tl (fracL_t _) (dps_same s2 dvs)) (dps_t tl (fracL_t [_]) (.cons (dpFrac ep) .nil))
  obtain ⟨vs, eZ, dvs, s8⟩ := h
  have full2 : (t.sh 1 1).take fs.length = t.sh 1 1 := by rw [lf, ← sh_len t 1 1, List.take_length]
  rw [full2] at dvs
  walk_at "go"
  refine ⟨Z, _, rfl, .inl ⟨sq_l eZ, fun rt nrt => ?_⟩⟩
  have s9 := same_new (o := .tup vs) nrt
  have drt : Dp K (upd H5 rt (.tup vs)) (.ref rt) (sharesD t) := .tup (sq_t upd_same) (dps_same s9 dvs)
  have s79 := s7.trans (s8.trans s9)
  generalize upd H5 rt (.tup vs) = H6 at drt s79 ⊢
  refine ⟨sz (by simp), fun dl ndl => ?_⟩
  have s10 := same_new (o := .lst [.ref rt]) ndl
  have edl : (upd H6 dl (.lst [.ref rt])) dl = some (.lst [.ref rt]) := upd_same
  have drt7 := dp_same s10 drt
  have s7a := s79.trans s10
  have ndl3 : hid [dk, gr] H dl = none := hid_none ((s16.trans s79).free ndl)
  obtain ⟨dl1, dl2, dl3⟩ := deck_ne D ((s16.trans s79).free ndl)
  have ndlH3 := s79.free ndl
  generalize upd H6 dl (.lst [.ref rt]) = H7 at edl drt7 s7a ⊢
  walk_at "go"
  refine l_tyL (sq_l edl) ?_
  walk_at "go"
  have ep7 := s7a _ _ ep3
  have ty7 := ty3.ts (ts_same s7a)
  have hd7 := dp_same s7a hd3
  have D7 := deck_new D3 s7a
  refine ⟨p2, rfl, ⟨ys, sq_l ep7⟩, fun Y nY => ?_⟩
  refine lc_list (xs := ys) (fun i H' => ∃ vs, H' Y = some (.lst vs) ∧ DpAll K H' vs ((((t.fm 1 1).mergeSort triLe).take i).map fun p => fracL p.2) ∧ Same H7 H') ⟨[], upd_same, .nil, same_new nY⟩ (fun i H' _ h => sq_l (h.choose_spec.2.2 _ _ ep7)) (fun i x H' hx h => ?_) (fun H8 h => ?_)
  · obtain ⟨vs, eY, dvs, s⟩ := h
    obtain ⟨p, hp, q0, rfl, hq⟩ := Tris.get ty7 hx
    obtain ⟨f1, f2, f3⟩ := fm_bnd pl p (srt_mem (List.mem_of_getElem? hp))
    have vl := dps_len dvs
    rw [List.length_map, List.length_take] at vl
    have il : i < ((t.fm 1 1).mergeSort triLe).length := (List.getElem?_eq_some_iff.mp hp).1
    rw [srt_len] at il
    refine g_gtup (same_t s hq) rfl ?_
    walk_at "go"
    refine ⟨rfl, ?_⟩
    walk_at "go"
    rw [if_pos (by decide)]
    walk_at "go"
    refine ⟨p.2.1, p.2.2, rfl, f3, Nat.le_trans f2 (Nat.pow_le_pow_right (by decide) (by decide)), fun p2 H2 ep s2 => ?_⟩
    have eY2 := s2 _ _ eY
    have tl := ts_lst (o := .lst (vs ++ [.ref p2])) eY2
    refine ⟨vs, eY2, sz1 (by omega), _, upd_same, ?_, same_mut (s.trans s2) nY⟩
    rw [take_one hp, List.map_append]
    have dt : ∀ l : List (Int × Int × Int), tupAll (l.map fun p => fracL p.2) = true := fun l => tupAll_mem.mpr fun d hd => by
      obtain ⟨f, _, rfl⟩ := List.mem_map.mp hd
      simp only [fracL, fracD, tupD, tupAll, Bool.and_self]
    exact dps_app (dps_t tl (dt _) (dps_same s2 dvs)) (dps_t tl (dt [_]) (.cons (dpFrac ep) .nil))
  obtain ⟨vs2, eY, dvs2, s11⟩ := h
  rw [ly, ← srt_len t, List.take_length] at dvs2
  walk_at "go"
  refine ⟨Y, _, rfl, .inl ⟨sq_l eY, fun rf nrf => ?_⟩⟩
  have s12 := same_new (o := .tup vs2) nrf
  have drf : Dp K (upd H8 rf (.tup vs2)) (.ref rf) (formD t) := .tup (sq_t upd_same) (dps_same s12 dvs2)
  have s1112 := s11.trans s12
  generalize upd H8 rf (.tup vs2) = H9 at drf s1112 ⊢
  have edl9 := s1112 _ _ edl
  have drt9 := dp_same s1112 drt7
  walk_at "go"
  refine l_app edl9 (sz1 (by simp)) ?_
  have tl := ts_lst (o := .lst ([.ref rt] ++ [.ref rf])) edl9
  have sX : Same H3 H9 := s6.trans (s7a.trans s1112)
  have ep9 := s1112 _ _ ep7
  have p2dl : p2 ≠ dl := fun e => by rw [e, ndlH3] at ep3; cases ep3
  have D9 := deck_new D7 s1112
  have tA : TSame H (upd H9 dl (.lst ([.ref rt] ++ [.ref rf]))) := (ts_same (s16.trans (s7a.trans s1112))).trans tl
  have epA : (upd H9 dl (.lst ([.ref rt] ++ [.ref rf]))) p2 = some (.lst ys) := by rw [upd_ne p2dl]; exact ep9
  have edA : (upd H9 dl (.lst ([.ref rt] ++ [.ref rf]))) dl = some (.lst [.ref rt, .ref rf]) := upd_same
  have drtA := dp_t tl (by simp only [sharesD, tupD, fracL_t]) drt9
  have drfA := dp_t tl (by rw [formD_eq]; simp only [tupD, fracL_t]) drf
  have DA := deck_mut (o := .lst ([.ref rt] ++ [.ref rf])) D9 dl1 dl2
  have tyA := (ty7.ts (ts_same s1112)).ts tl
  have hdA := dp_t tl (toD_t _) (dp_same s1112 hd7)
  generalize upd H9 dl (.lst ([.ref rt] ++ [.ref rf])) = HA at tA epA edA drtA drfA DA tyA hdA ⊢
  clear s1 s2 s3 s4 s5 s6 s7 s8 s9 s10 s11 s12 dz dz3 df dvs dvs2 drt drt7 drt9 drf hd3 hd7 ty3 ty7 ep3 ep7 ep9 D3 D7 D9 el ep1 epf eZ eY
  -- what is seen
  refine g_cut (fun σ H' => ∃ sl a1 a2, σ = [some (.ref dk), some (.ref va), some (.bl b), some (.str t.toD.shown), some (.ref p2), some (.int (t.ex []).2), y6, y7, some (.ref dl), some (.ref sl), none, none, none, none, none, none, none] ∧ H' sl = some (.lst [.ref a1, .ref a2]) ∧ sl ∉ [dk, gr] ∧ Dp K H' (.ref a1) (sharesD t) ∧ Dp K H' (.ref a2) (formD t) ∧ Same HA H') ?_ ?_
  · walk_at "go"
    refine iteBo (fun hb => ?_) (fun hb => ?_)
    · walk_at "go"
      refine ⟨.ref va, t, rfl, hdA, pl, fun a1 H1 d1 s1 => ?_⟩
      walk_at "go"
      refine ⟨.ref va, t, rfl, dp_same s1 hdA, pl, fun a2 H2 d2 s2 => ?_⟩
      refine ⟨sz (by simp), fun sl nsl => ?_⟩
      have s3 := same_new (o := .lst [.ref a1, .ref a2]) nsl
      exact ⟨sl, a1, a2, rfl, upd_same, (deck_ne DA ((s1.trans s2).free nsl)).2.2, dp_same (s2.trans s3) d1, dp_same s3 d2, s1.trans (s2.trans s3)⟩
    · walk_at "go"
      refine ⟨.ref va, t, rfl, hdA, pl, fun a1 H1 d1 s1 => ?_⟩
      walk_at "go"
      refine ⟨.ref va, t, rfl, dp_same s1 hdA, pl, fun a2 H2 d2 s2 => ?_⟩
      refine ⟨sz (by simp), fun sl nsl => ?_⟩
      have s3 := same_new (o := .lst [.ref a1, .ref a2]) nsl
      exact ⟨sl, a1, a2, rfl, upd_same, (deck_ne DA ((s1.trans s2).free nsl)).2.2, dp_same (s2.trans s3) d1, dp_same s3 d2, s1.trans (s2.trans s3)⟩
  rintro σ HB ⟨sl, a1, a2, rfl, esl, slD, da1, da2, sB⟩
  have DB := deck_new DA sB
  have hdB := dp_same sB hdA
  walk_at "go"
  refine ⟨dk, gr, .ref va, t, rfl, DB, hdB, pl.good, pl.full, by omega, by omega, fun u z HC hbr hgu hdz DC sC => ?_⟩
  have pu := pl.of_bare hbr hgu
  obtain ⟨ea1, ea2, ea3⟩ := alike_bare hbr
  obtain ⟨za, rfl⟩ : ∃ za, z = .ref za := by
    obtain ⟨c, d, ps, rfl⟩ := pu.st
    exact dp_tuple (by simp only [Th.toD] at hdz; exact hdz)
  have esu : sharesD u = sharesD t := by unfold sharesD; rw [ea2]
  have efu : formD u = formD t := by unfold formD; rw [ea3]
  have tC := ts_deck DB sC
  have hdC := dp_t tC (toD_t _) hdB
  have eslC := (hid_get (sC _ _ (hid_put slD esl))).2
  have edlC := (hid_get (sC _ _ (hid_put dl3 (sB _ _ edA)))).2
  have epC := (hid_get (sC _ _ (hid_put p2d (sB _ _ epA)))).2
  have st : tupD (sharesD t) = true := by simp only [sharesD, tupD, fracL_t]
  have ft : tupD (formD t) = true := by rw [formD_eq]; simp only [tupD, fracL_t]
  have da1C := dp_t tC st da1
  have da2C := dp_t tC ft da2
  have drtC := dp_t ((ts_same sB).trans tC) st drtA
  have drfC := dp_t ((ts_same sB).trans tC) ft drfA
  have tyC := tyA.ts ((ts_same sB).trans tC)
  have tC' := tA.trans ((ts_same sB).trans tC)
  walk_at "go"
  refine ⟨.ref va, t, rfl, hdC, pl, fun b1 K1 e1 k1 => ?_⟩
  walk_at "go"
  refine ⟨.ref va, t, rfl, dp_same k1 hdC, pl, fun b2 K2 e2 k2 => ?_⟩
  refine ⟨sz (by simp), fun l1 nl1 => ?_⟩
  have k3 := same_new (o := .lst [.ref b1, .ref b2]) nl1
  have d1 : Dp K (upd K2 l1 (.lst [.ref b1, .ref b2])) (.ref l1) (dueD7 t) := .lst (sq_l upd_same) (.cons (dp_same (k2.trans k3) e1) (.cons (dp_same k3 e2) .nil))
  have k13 := k1.trans (k2.trans k3)
  generalize upd K2 l1 (.lst [.ref b1, .ref b2]) = K3 at d1 k13 ⊢
  walk_at "go"
  refine ⟨.ref za, u, rfl, dp_same k13 hdz, pu, fun b3 K4 e3 k4 => ?_⟩
  walk_at "go"
  refine ⟨.ref za, u, rfl, dp_same (k13.trans k4) hdz, pu, fun b4 K5 e4 k5 => ?_⟩
  refine ⟨sz (by simp), fun l2 nl2 => ?_⟩
  have k6 := same_new (o := .lst [.ref b3, .ref b4]) nl2
  rw [esu] at e3
  rw [efu] at e4
  have d2 : Dp K (upd K5 l2 (.lst [.ref b3, .ref b4])) (.ref l2) (dueD7 t) := .lst (sq_l upd_same) (.cons (dp_same (k5.trans k6) e3) (.cons (dp_same k6 e4) .nil))
  have k46 := k4.trans (k5.trans k6)
  have d1' := dp_same k46 d1
  have k16 := k13.trans k46
  generalize upd K5 l2 (.lst [.ref b3, .ref b4]) = K6 at d2 d1' k16 ⊢
  walk_at "go"
  refine ⟨sz (by simp), fun l3 nl3 => ?_⟩
  have k7 := same_new (o := .lst [.ref sl, .ref l1, .ref l2]) nl3
  have k17 := k16.trans k7
  have dsl : Dp K (upd K6 l3 (.lst [.ref sl, .ref l1, .ref l2])) (.ref sl) (dueD7 t) := .lst (sq_l (k17 _ _ eslC)) (.cons (dp_same k17 da1C) (.cons (dp_same k17 da2C) .nil))
  refine ⟨.ref l3, .list [dueD7 t, dueD7 t, dueD7 t], rfl, .lst (sq_l upd_same) (.cons dsl (.cons (dp_same k7 d1') (.cons (dp_same k7 d2) .nil))), .inl ⟨_, rfl⟩, due3_shows pl, ?_⟩
  walk_at "go"
  generalize upd K6 l3 (.lst [.ref sl, .ref l1, .ref l2]) = K7 at dsl k17 ⊢
  refine ⟨sz (by simp), fun l4 nl4 => ?_⟩
  walk_at "go"
  refine ⟨l4, 3, [.ref dl], rfl, rfl, upd_same, by decide, by decide, by rw [sizeLine_eq]; simp, fun l5 nl5 => ?_⟩
  have k8 := same_new (o := .lst [.ref dl]) nl4
  have k9 := same_new (o := .lst (List.replicate (3 : Int).toNat [V.ref dl]).flatten) nl5
  have k19 := k17.trans (k8.trans k9)
  have ddl : Dp K (upd (upd K7 l4 (.lst [.ref dl])) l5 (.lst (List.replicate (3 : Int).toNat [V.ref dl]).flatten)) (.ref dl) (dueD7 t) := .lst (sq_l (k19 _ _ edlC)) (.cons (dp_same k19 drtC) (.cons (dp_same k19 drfC) .nil))
  refine ⟨.ref l5, .list [dueD7 t, dueD7 t, dueD7 t], rfl, .lst (sq_l upd_same) (.cons ddl (.cons ddl (.cons ddl .nil))), .inl ⟨_, rfl⟩, due3_shows pl, ?_⟩
  walk_at "go"
  generalize upd (upd K7 l4 (.lst [.ref dl])) l5 (.lst (List.replicate (3 : Int).toNat [V.ref dl]).flatten) = K9 at k19 ddl ⊢
  refine l_ne rfl ?_
  rw [decide_eq_true rfl]
  walk_at "go"
  rw [if_neg (by decide)]
  walk_at "go"
  have D9 := deck_new DC k19
  have hd9 := dp_same k19 hdC
  have hz9 := dp_same k19 hdz
  have ep9 := k19 _ _ epC
  have ty9 := tyC.ts (ts_same k19)
  have t9 := tC'.trans (ts_same k19)
  clear dsl d1 d2 d1' ddl da1C da2C drtC drfC edlC eslC hdC hdz DC DB hdB hdA DA
  refine ⟨2, rfl, by decide, by decide, ?_⟩
  refine for_R (lo := 0) (n := 2) (fun i σ H' => ∃ y11 y12 y13, σ = [some (.ref dk), some (.ref va), some (.bl b), some (.str t.toD.shown), some (.ref p2), some (.int (t.ex []).2), y6, y7, some (.ref dl), some (.ref sl), some (.ref za), y11, y12, y13, none, none, none] ∧ Deck H' dk gr ∧ TSame K9 H' ∧ H' p2 = some (.lst ys)) ⟨none, none, none, rfl, D9, TSame.refl _, ep9⟩ (fun i σ J hi h => ?_) (fun σ J h => ?_)
  · obtain ⟨y11, y12, y13, rfl, DJ, tJ, epJ⟩ := h
    walk_at "go"
    refine ⟨p2, ys, rfl, .inl (sq_l epJ), ?_⟩
    walk_at "go"
    have hdJ := dp_t tJ (toD_t _) hd9
    refine ⟨dk, gr, .ref va, t, ys.length, rfl, DJ, hdJ, pl, by omega, fun r ra J1 hrl hrs era D1 j1 => ?_⟩
    rw [ly] at hrl
    have R : Runs t r 210 := pl.runs hrl hrs (by decide)
    have Ru : Runs u r 210 := pu.runs (by rw [hrl, ← bare_nIn t, hbr, bare_nIn u]) hrs (by decide)
    have eW : (t.ex []).2 = (t.ex r).2 := ex_2 _ _ t
    have t1 := tJ.trans (ts_deck DJ j1)
    have ep1 := (hid_get (j1 _ _ (hid_put p2d epJ))).2
    have ty1 := ty9.ts t1
    rw [eW]
    walk_at "go"
    refine ⟨p2, rfl, ⟨ys, sq_l ep1⟩, fun Z nZ => ?_⟩
    refine lc_list (xs := ys) (fun i H' => H' Z = some (.lst (((((t.fm 1 1).mergeSort triLe).take i).map (fterm r (t.ex r).2)).map V.int)) ∧ Same J1 H') ⟨upd_same, same_new nZ⟩ (fun i H' _ h => sq_l (h.2 _ _ ep1)) (fun i x H' hx h => ?_) (fun J2 h => ?_)
    · obtain ⟨eZ, s⟩ := h
      obtain ⟨⟨o, A1, B1⟩, hp, q0, rfl, hq⟩ := Tris.get ty1 hx
      simp only at hq
      have pm := srt_mem (List.mem_of_getElem? hp)
      obtain ⟨f1, f2, f3⟩ := fm_bnd pl _ pm
      simp only at f1 f2 f3
      have hi2 := R.ins o (mem_ins pm)
      have il : i < ((t.fm 1 1).mergeSort triLe).length := (List.getElem?_eq_some_iff.mp hp).1
      rw [srt_len] at il
      have hr0 : (rowAt r o).natAbs ≤ 2 ^ 210 := rowAt_le R.row o
      refine g_gtup (same_t s hq) rfl ?_
      walk_at "go"
      refine ⟨rfl, ?_⟩
      walk_at "go"
      rw [if_pos (by decide)]
      walk_at "go"
      refine l_ixT (sq_t (s _ _ era)) (atI_row hi2.1 hi2.2) ?_
      walk_at "go"
      refine l_I (big_mul hr0 f1 (by decide)) ?_
      walk_at "go"
      refine l_I (wide_div (b := 1197) f3 (Nat.lt_of_le_of_lt (Nat.le_trans f2 (Nat.pow_le_pow_right (by decide) (show 800 ≤ 1196 by decide))) (Nat.pow_lt_pow_right (by decide) (by decide))) (by decide) (by decide)) ?_
      walk_at "go"
      refine l_I (big_mul (big_prod hr0 f1) (Nat.le_trans (natAbs_ediv_le (by omega)) R.ex2) (by decide)) ?_
      walk_at "go"
      refine ⟨_, eZ, sz1 (by rw [List.length_map, List.length_map, List.length_take]; omega), ?_, same_mut s nZ⟩
      rw [upd_same, take_one hp, List.map_append, List.map_append]
      rfl
    obtain ⟨eZ, j2⟩ := h
    rw [ly, ← srt_len t, List.take_length] at eZ
    walk_at "go"
    refine ⟨Z, _, rfl, sq_l eZ, ?_⟩
    have es : (((t.fm 1 1).mergeSort triLe).map (fterm r (t.ex r).2)).sum = (t.ex r).1 := fsum_all pl.good
    rw [es]
    walk_at "go"
    have hd2 := dp_same j2 (dp_t t1 (toD_t _) hd9)
    have era2 := j2 _ _ era
    refine ⟨.ref va, ra, t, r, 210, rfl, hd2, sq_t era2, R, by decide, by omega, fun x1 J3 ex1 j3 => ?_⟩
    walk_at "go"
    refine ⟨sz (by simp), fun x2 nx2 => ?_⟩
    have j4 := same_new (o := .tup [.int (t.ex r).1, .int (t.ex r).2]) nx2
    have dl1' : Dp K (upd J3 x2 (.tup [.int (t.ex r).1, .int (t.ex r).2])) (.ref x1) (fracD (t.ex r)) := .tup (sq_t (j4 _ _ ex1)) (.cons (.int _) (.cons (.int _) .nil))
    have dl2' : Dp K (upd J3 x2 (.tup [.int (t.ex r).1, .int (t.ex r).2])) (.ref x2) (fracD (t.ex r)) := .tup (sq_t upd_same) (.cons (.int _) (.cons (.int _) .nil))
    refine l_neSameD dl1' dl2' (by simp only [fracD, numD, numAll, Bool.and_self]) (by rw [(fracD_nd _).2]; decide) ?_
    have j34 := j3.trans j4
    generalize upd J3 x2 (.tup [.int (t.ex r).1, .int (t.ex r).2]) = J4 at j34 ⊢
    clear dl1' dl2'
    walk_at "go"
    rw [if_neg (by decide)]
    walk_at "go"
    have hd4 := dp_same j34 hd2
    have era4 := j34 _ _ era2
    have hz4 : Dp K J4 (.ref za) u.toD := dp_same (j2.trans j34) (dp_t t1 (toD_t _) hz9)
    refine ⟨_, _, rfl, R.pos, Nat.le_trans R.ex2 (Nat.pow_le_pow_right (by decide) (by decide)), fun tt J5 ett j5 => ?_⟩
    walk_at "go"
    refine ⟨.ref va, ra, t, r, 210, rfl, dp_same j5 hd4, sq_t (j5 _ _ era4), R, by decide, fun c1 J6 ec1 j6 => ?_⟩
    walk_at "go"
    have j56 := j5.trans j6
    refine ⟨.ref za, ra, u, r, 210, rfl, dp_same j56 hz4, sq_t (j56 _ _ era4), Ru, by decide, fun c2 J7 ec2 j7 => ?_⟩
    rw [← ea1 r] at ec2
    walk_at "go"
    have j57 := j56.trans j7
    refine ⟨.ref va, ra, t, r, 210, rfl, dp_same j57 hd4, sq_t (j57 _ _ era4), R, by decide, fun c3 J8 ec3 j8 => ?_⟩
    refine ⟨sz (by simp), fun l6 nl6 => ?_⟩
    have j9 := same_new (o := .lst [.ref c1, .ref c2, .ref c3]) nl6
    refine ⟨.ref l6, _, rfl, .lst (sq_l upd_same) (.cons (dpFrac ((j7.trans (j8.trans j9)) _ _ ec1)) (.cons (dpFrac ((j8.trans j9) _ _ ec2)) (.cons (dpFrac (j9 _ _ ec3)) .nil))), .inl ⟨_, rfl⟩, ex3_shows R, ?_⟩
    walk_at "go"
    have j69 := j6.trans (j7.trans (j8.trans j9))
    generalize upd J8 l6 (.lst [.ref c1, .ref c2, .ref c3]) = J9 at j69 ⊢
    refine ⟨sz (by simp), fun l7 nl7 => ?_⟩
    walk_at "go"
    refine ⟨l7, 3, [.ref tt], rfl, rfl, upd_same, by decide, by decide, by rw [sizeLine_eq]; simp, fun l8 nl8 => ?_⟩
    have j10 := same_new (o := .lst [.ref tt]) nl7
    have j11 := same_new (o := .lst (List.replicate (3 : Int).toNat [V.ref tt]).flatten) nl8
    have j6b := j69.trans (j10.trans j11)
    have dtt : Dp K (upd (upd J9 l7 (.lst [.ref tt])) l8 (.lst (List.replicate (3 : Int).toNat [V.ref tt]).flatten)) (.ref tt) (fracD (lst (t.ex r).1 (t.ex r).2)) := dpFrac (j6b _ _ ett)
    refine ⟨.ref l8, _, rfl, .lst (sq_l upd_same) (.cons dtt (.cons dtt (.cons dtt .nil))), .inl ⟨_, rfl⟩, ex3_shows R, ?_⟩
    walk_at "go"
    refine l_ne rfl ?_
    rw [decide_eq_true rfl]
    walk_at "go"
    rw [if_neg (by decide)]
    have jx := j2.trans (j34.trans (j5.trans j6b))
    exact ⟨_, _, _, rfl, deck_new D1 jx, t1.trans (ts_same jx), jx _ _ ep1⟩
  · obtain ⟨y11, y12, y13, rfl, DJ, tJ, epJ⟩ := h
    walk_at "go"
    refine ⟨.ref va, t.toD, rfl, dp_t tJ (toD_t _) hd9, .inl ⟨_, rfl⟩, plan_showsB pl, ?_⟩
    walk_at "go"
    refine l_eq rfl ?_
    rw [decide_eq_true rfl]
    exact q _ DJ (t9.trans tJ)

end
end SC
namespace SC
open PySem PySem.Spec PyProof.Rows L2 StrLaws
local macro_rules | `(tactic| walk_at "go") => `(tactic| ((try dsimp only [cxOf, Cx.nox, Cx.wish]); repeat (first
  | (with_reducible refine g_seq ?_)
  | (with_reducible refine g_asg ?_)
  | (with_reducible refine g_asg2 ?_)
  | (with_reducible refine g_ret ?_)
  | (with_reducible refine g_drop ?_)
  | (with_reducible refine g_next ?_)
  | (with_reducible refine g_ifs ?_)
  | (with_reducible refine g_par ?_)
  | (with_reducible refine g_par3 ?_)
  | ((with_reducible refine' g_var ?hv ?_); (case hv => exact rfl))
  | (with_reducible refine g_c ?_)
  | ((with_reducible refine' g_aug ?hv ?_); (case hv => exact rfl))
  | (with_reducible refine l_ip ?_)
  | (with_reducible refine g_op ?_)
  | (with_reducible refine g_un ?_)
  | (with_reducible refine g_cons ?_)
  | (with_reducible refine g_nil ?_)
  | (with_reducible refine g_cb ?_)
  | (with_reducible refine g_call ?_)
  | (with_reducible refine g_callK ?_)
  | (with_reducible refine g_test ?_)
  | (with_reducible refine g_b ?_)
  | (with_reducible refine g_not ?_)
  | (with_reducible refine g_chain ?_)
  | (with_reducible refine g_notV ?_)
  | (with_reducible refine g_and ?_)
  | (with_reducible refine g_or ?_)
  | (with_reducible refine g_ifx ?_)
  | (with_reducible refine g_isN ?_)
  | (with_reducible refine g_notN ?_)
  | (with_reducible refine g_andV ?_)
  | (with_reducible refine g_bm ?_)
  | (with_reducible refine g_bm0 ?_)
  | (with_reducible refine g_sl ?_)
  | (with_reducible refine g_part ?_)
  | (with_reducible refine g_nopart ?_)
  | (with_reducible refine g_dget ?_)
  | (with_reducible refine g_dput ?_)
  | (with_reducible refine g_tup ?_)
  | (with_reducible refine g_lst ?_)
  | (with_reducible refine g_yes ?_)
  | (with_reducible refine g_name ?_)
  | (with_reducible refine g_gsub ?_)
  | (with_reducible refine g_iList ?_)
  | (with_reducible refine g_iTup ?_)
  | (with_reducible refine g_for ?_)
  | (with_reducible refine g_lc ?_)
  | (with_reducible refine g_rng1 ?_)
  | (with_reducible refine g_iZip ?_)
  | (with_reducible refine g_allT ?_)
  | (with_reducible refine g_iZipA ?_)
  | (with_reducible refine g_iZip3 ?_)
  | (with_reducible refine g_dcT ?_)
  | (with_reducible refine g_dc ?_)
  | (with_reducible refine g_iEnumT ?_)
  | (with_reducible refine g_lstRg ?_)
  | (with_reducible refine g_rg1 ?_)
  | (with_reducible refine g_gcons ?_)
  | (with_reducible refine g_gnil ?_)
  | (with_reducible refine l_bl ?_)
  | (with_reducible refine l_int ?_)
  | (with_reducible refine l_two ?_)
  | (with_reducible refine l_three ?_)
  | (with_reducible refine l_I0 ?_)
  | (with_reducible refine l_U ?_)
  | dsimp only)))
section
variable {P : Program} {w : World} {K : PySem.W.Frag} {mg : Str → Option Value} {base : Heap}
/-! ### _law_seen (k07) -/
def wd7 : Nat → Str
  | 0 => ("shares" : Str)
  | 1 => ("form" : Str)
  | _ => ("exact" : Str)
def td7 (t : Th) (r : List Int) : Nat → PyData
  | 0 => sharesD t
  | 1 => formD t
  | _ => fracD (lst (t.ex r).1 (t.ex r).2)
def spSeen7 (K : PySem.W.Frag) : Sp := fun vs H Q _ => ∃ (c : Nat) (v : V) (ra : Addr) (t : Th) (r : List Int), vs = [.str (wd7 c), v, .ref ra] ∧ Dp K H v t.toD ∧ SqT K H ra (r.map V.int) ∧ IsPlan t ∧ Runs t r 210 ∧
  ∀ (p : Addr) (H' : Hp), Dp K H' (.ref p) (td7 t r c) → Same H H' → Q (.ref p) H'
theorem ok_l_seen (T : Tx K mg) : FnOk P w K mg base CX0 46 T.f_l_seen T.fd_l_seen ["word", "plan", "row"] (spSeen7 K) := by
  refine T.F_l_seen.ok sc_l_seen (fun vs H Q E h => ?_) (fun cdv A outer s H vs Q E hr h => ?_)
  · obtain ⟨_, _, _, _, _, rfl, _⟩ := h
    rfl
  obtain ⟨c, v, ra, t, r, rfl, hd, hrow, pl, R, q⟩ := h
  refine ⟨_, (pss_cons (ps_if (pt_cmpR op_eq (pv 0) pe_str (nomark _)) (pss_one (ps_ret (pe_call (ok_shares_of T) (hr.mono (by first | decide | omega)) (by rfl) T.g_shares_of T.F_shares_of.kp T.b_shares_of .nil pass0 (pa_cons (pv 1) pa_nil)))) pss_nil)
      (pss_one (ps_ret (pe_ifExp (pt_cmpR op_eq (pv 0) pe_str (nomark _)) (pe_call (ok_form_of T) (hr.mono (by first | decide | omega)) (by rfl) T.g_form_of T.F_form_of.kp T.b_form_of .nil pass0 (pa_cons (pv 1) pa_nil)) (pe_call (ok_exact_of T) (hr.mono (by first | decide | omega)) (by rfl) T.g_exact_of T.F_exact_of.kp T.b_exact_of .nil pass0 (pa_cons (pv 1) (pa_cons (pv 2) pa_nil))))))), ?_⟩
  rcases c with _ | _ | c
  · simp only [wd7]
    walk_at "go"
    refine l_eq rfl ?_
    walk_at "go"
    rw [if_pos (by decide)]
    walk_at "go"
    exact ⟨v, t, rfl, hd, pl, q⟩
  · simp only [wd7]
    walk_at "go"
    refine l_eq rfl ?_
    walk_at "go"
    rw [if_neg (by decide)]
    walk_at "go"
    refine l_eq rfl ?_
    walk_at "go"
    rw [if_pos (by decide)]
    walk_at "go"
    exact ⟨v, t, rfl, hd, pl, q⟩
  · simp only [wd7]
    walk_at "go"
    refine l_eq rfl ?_
    walk_at "go"
    rw [if_neg (by decide)]
    walk_at "go"
    refine l_eq rfl ?_
    walk_at "go"
    rw [if_neg (by decide)]
    walk_at "go"
    exact ⟨v, ra, t, r, 210, rfl, hd, hrow, R, by decide, fun p H' ep s => q p H' (.tup (sq_t ep) (.cons (.int _) (.cons (.int _) .nil))) s⟩

end
end SC
namespace SC
open PySem PySem.Spec PyProof.Rows L2 StrLaws
local macro_rules | `(tactic| walk_at "go") => `(tactic| ((try dsimp only [cxOf, Cx.nox, Cx.wish]); repeat (first
  | (with_reducible refine g_seq ?_)
  | (with_reducible refine g_asg ?_)
  | (with_reducible refine g_asg2 ?_)
  | (with_reducible refine g_ret ?_)
  | (with_reducible refine g_drop ?_)
  | (with_reducible refine g_next ?_)
  | (with_reducible refine g_ifs ?_)
  | (with_reducible refine g_par ?_)
  | (with_reducible refine g_par3 ?_)
  | ((with_reducible refine' g_var ?hv ?_); (case hv => exact rfl))
  | (with_reducible refine g_c ?_)
  | ((with_reducible refine' g_aug ?hv ?_); (case hv => exact rfl))
  | (with_reducible refine l_ip ?_)
  | (with_reducible refine g_op ?_)
  | (with_reducible refine g_un ?_)
  | (with_reducible refine g_cons ?_)
  | (with_reducible refine g_nil ?_)
  | (with_reducible refine g_cb ?_)
  | (with_reducible refine g_call ?_)
  | (with_reducible refine g_callK ?_)
  | (with_reducible refine g_test ?_)
  | (with_reducible refine g_b ?_)
  | (with_reducible refine g_not ?_)
  | (with_reducible refine g_chain ?_)
  | (with_reducible refine g_notV ?_)
  | (with_reducible refine g_and ?_)
  | (with_reducible refine g_or ?_)
  | (with_reducible refine g_ifx ?_)
  | (with_reducible refine g_isN ?_)
  | (with_reducible refine g_notN ?_)
  | (with_reducible refine g_andV ?_)
  | (with_reducible refine g_bm ?_)
  | (with_reducible refine g_bm0 ?_)
  | (with_reducible refine g_sl ?_)
  | (with_reducible refine g_part ?_)
  | (with_reducible refine g_nopart ?_)
  | (with_reducible refine g_dget ?_)
  | (with_reducible refine g_dput ?_)
  | (with_reducible refine g_tup ?_)
  | (with_reducible refine g_lst ?_)
  | (with_reducible refine g_yes ?_)
  | (with_reducible refine g_name ?_)
  | (with_reducible refine g_gsub ?_)
  | (with_reducible refine g_iList ?_)
  | (with_reducible refine g_iTup ?_)
  | (with_reducible refine g_for ?_)
  | (with_reducible refine g_lc ?_)
  | (with_reducible refine g_rng1 ?_)
  | (with_reducible refine g_iZip ?_)
  | (with_reducible refine g_allT ?_)
  | (with_reducible refine g_iZipA ?_)
  | (with_reducible refine g_iZip3 ?_)
  | (with_reducible refine g_dcT ?_)
  | (with_reducible refine g_dc ?_)
  | (with_reducible refine g_iEnumT ?_)
  | (with_reducible refine g_lstRg ?_)
  | (with_reducible refine g_rg1 ?_)
  | (with_reducible refine g_gcons ?_)
  | (with_reducible refine g_gnil ?_)
  | (with_reducible refine l_bl ?_)
  | (with_reducible refine l_int ?_)
  | (with_reducible refine l_two ?_)
  | (with_reducible refine l_three ?_)
  | (with_reducible refine l_I0 ?_)
  | (with_reducible refine l_U ?_)
  | dsimp only)))
section
variable {P : Program} {w : World} {K : PySem.W.Frag} {mg : Str → Option Value} {base : Heap}
/-! ### _law_are_mingled (k07) -/
theorem ts_into {H : Hp} {dk gr : Addr} (D : Deck H dk gr) : TSame H (hid [dk, gr] H) := fun a o e z => hid_put (fun ha => by rw [deck_nt D a ha o e] at z; cases z) e
def kv7 (s f e : Addr) : List (L2.Key × V) := [(.inr ("shares" : Str), .ref s), (.inr ("form" : Str), .ref f), (.inr ("exact" : Str), .ref e)]
theorem kv7_1 (s : Addr) : mergeK [] [((.inr ("shares" : Str) : L2.Key), V.ref s)] = [(.inr ("shares" : Str), .ref s)] := rfl
theorem kv7_2 (s f : Addr) : putK [((.inr ("shares" : Str) : L2.Key), V.ref s)] (.inr ("form" : Str)) (.ref f) = [(.inr ("shares" : Str), .ref s), (.inr ("form" : Str), .ref f)] := rfl
theorem kv7_3 (s f e : Addr) : putK [((.inr ("shares" : Str) : L2.Key), V.ref s), (.inr ("form" : Str), .ref f)] (.inr ("exact" : Str)) (.ref e) = kv7 s f e := rfl
def CaseOk (K : PySem.W.Frag) (E : List Addr) (H : Hp) (x : V) : Prop := ∃ (a va ra dd s f e : Addr) (t : Th) (r : List Int), x = .ref a ∧ SqT K H a [.ref va, .ref ra, .ref dd] ∧ Dp K H (.ref va) t.toD ∧ SqT K H ra (r.map V.int) ∧ dd ∉ E ∧ H dd = some (.dK (kv7 s f e)) ∧
  Dp K H (.ref s) (sharesD t) ∧ Dp K H (.ref f) (formD t) ∧ Dp K H (.ref e) (fracD (lst (t.ex r).1 (t.ex r).2)) ∧ IsPlan t ∧ Runs t r 210
theorem shares_t (t : Th) : tupD (sharesD t) = true := by simp only [sharesD, tupD, fracL_t]
theorem formD_t (t : Th) : tupD (formD t) = true := by rw [formD_eq]; simp only [tupD, fracL_t]
theorem frac_t (f : Int × Int) : tupD (fracD f) = true := by simp only [fracD, tupD, tupAll, Bool.and_self]
theorem CaseOk.to {E : List Addr} {H H' : Hp} {x : V} (s : TSame H H') (d : ∀ a o, a ∉ E → H a = some o → H' a = some o) (h : CaseOk K E H x) : CaseOk K E H' x := by
  obtain ⟨a, va, ra, dd, p, f, e, t, r, ex, h1, h2, h3, h4, h5, h6, h7, h8, h9⟩ := h
  exact ⟨a, va, ra, dd, p, f, e, t, r, ex, ts_t s h1, dp_t s (toD_t _) h2, ts_t s h3, h4, d _ _ h4 h5, dp_t s (shares_t _) h6, dp_t s (formD_t _) h7, dp_t s (frac_t _) h8, h9⟩
def CallOk (K : PySem.W.Frag) (H : Hp) (x : V) : Prop := ∃ (a : Addr) (c : Nat) (k : Int), x = .ref a ∧ SqT K H a [.str (wd7 c), .int k] ∧ 0 ≤ k ∧ k ≤ 1
theorem CallOk.ts {H H' : Hp} {x : V} (s : TSame H H') (h : CallOk K H x) : CallOk K H' x := by
  obtain ⟨a, b, k, e, h1, h2⟩ := h
  exact ⟨a, b, k, e, ts_t s h1, h2⟩
theorem CallOk.nm {H : Hp} {x : V} (h : CallOk K H x) : Nm K H x := by
  obtain ⟨a, c, k, rfl, h1, h2⟩ := h
  refine ⟨.tuple [.str (wd7 c), .int k], .tup h1 (.cons (.str _) (.cons (.int _) .nil)), ?_, ?_⟩
  · simp only [numD, numAll, Bool.and_true]
    rcases c with _ | _ | c
    · simp only [wd7]; decide +kernel
    · simp only [wd7]; decide +kernel
    · simp only [wd7]; decide +kernel
  · simp only [depth_tuple, PyData.depthAll, PyData.depth]; omega
theorem word7_at {i : Nat} {x : V} (h : ([V.str ("shares" : Str), V.str ("form" : Str), V.str ("exact" : Str), V.str ("form" : Str)])[i]? = some x) : ∃ c, x = .str (wd7 c) := by
  rcases i with _ | _ | _ | _ | i
  · cases h; exact ⟨0, rfl⟩
  · cases h; exact ⟨1, rfl⟩
  · cases h; exact ⟨2, rfl⟩
  · cases h; exact ⟨1, rfl⟩
  · simp at h
theorem due7_at (t : Th) (r : List Int) {H : Hp} {s f e : Addr} (h1 : Dp K H (.ref s) (sharesD t)) (h2 : Dp K H (.ref f) (formD t)) (h3 : Dp K H (.ref e) (fracD (lst (t.ex r).1 (t.ex r).2))) (c : Nat) : ∃ a, valV (kv7 s f e) (.inr (wd7 c)) = some (.ref a) ∧ Dp K H (.ref a) (td7 t r c) := by
  rcases c with _ | _ | c
  · exact ⟨s, rfl, h1⟩
  · exact ⟨f, rfl, h2⟩
  · exact ⟨e, rfl, h3⟩
theorem td7_shows {t : Th} {r : List Int} (pl : IsPlan t) (R : Runs t r 210) (c : Nat) : ShowsB (td7 t r c) := by
  rcases c with _ | _ | c
  · exact sharesD_shows pl
  · exact formD_shows pl
  · exact exD_shows R
theorem hid_d {dk gr C : Addr} {H H' : Hp} (s : Same (hid [dk, gr] H) (hid [dk, gr] H')) : ∀ a o, a ∉ [dk, gr, C] → H a = some o → H' a = some o := fun a o na e =>
  (hid_get (s a o (hid_put (fun h => na (by
    rcases List.mem_cons.mp h with h | h
    · rw [h]; exact List.mem_cons_self ..
    · rw [List.mem_singleton.mp h]; exact List.mem_cons_of_mem _ (List.mem_cons_self ..))) e))).2
def spMingled (K : PySem.W.Frag) : Sp := fun vs H Q _ => ∃ dk gr, vs = [.ref dk] ∧ Deck H dk gr ∧ ∀ H', Deck H' dk gr → Same (hid [dk, gr] H) (hid [dk, gr] H') → Q (.bl true) H'
theorem ok_l_are_mingled (T : Tx K mg) : FnG P w K mg base 47 T.f_l_are_mingled T.fd_l_are_mingled ["deck"] (spMingled K) := by
  refine FnG.mk' T.F_l_are_mingled sc_l_are_mingled (fun vs H Q E h => ?_) (fun cdv A outer s H vs Q hgd hr h => ?_)
  · obtain ⟨_, _, rfl, _⟩ := h
    rfl
  obtain ⟨dk, gr, rfl, D, q⟩ := h
  refine ⟨_, (pss_cons (ps_par (i := 1) (j := 2) (by rfl) sc_l_are_mingled.nd rfl rfl (by decide) rfl rfl (pa_cons (pe_lst pa_nil) (pa_cons (pe_lst pa_nil) pa_nil)) (by rfl))
      (pss_cons (ps_for PassesOwn.never rfl (pi_range1 rfl T.m_range (pa_cons pe_int pa_nil)) (pg_name (i := 3) sc_l_are_mingled.nd rfl (Or.inr rfl)) (pss_cons (ps_set (i := 4) sc_l_are_mingled.nd rfl (Or.inl rfl) (pe_call (ok_l_drawn T) (hr.mono (by first | decide | omega)) (by rfl) T.g_l_drawn T.F_l_drawn.kp T.b_l_drawn .nil pass0 (pa_cons (pv 0) (pa_cons (pe_call (ok_l_draw T) (hr.mono (by first | decide | omega)) (by rfl) T.g_l_draw T.F_l_draw.kp T.b_l_draw .nil pass0 (pa_cons (pv 0) (pa_cons pe_int pa_nil))) pa_nil))))
      (pss_cons (ps_set (i := 5) sc_l_are_mingled.nd rfl (Or.inl rfl) (pe_callB (cr_sortTri hr.repr) (by rfl) T.m_sorted (by decide +kernel) (pa_cons (pe_call (ok_l_form T 40) (hr.mono (by first | decide | omega)) (by rfl) T.g_l_form T.F_l_form.kp T.b_l_form .nil pass0 (pa_cons (pv 4) (pa_cons pe_int (pa_cons pe_int pa_nil)))) pa_nil)))
      (pss_cons (ps_set (i := 6) sc_l_are_mingled.nd rfl (Or.inl rfl) (pe_call (ok_l_row T) (hr.mono (by first | decide | omega)) (by rfl) T.g_l_row T.F_l_row.kp T.b_l_row .nil pass0 (pa_cons (pv 0) (pa_cons (pv 4) (pa_cons (pe_callB call_len_seq (by rfl) T.m_len PySem.boot_len (pa_cons (pv 5) pa_nil)) pa_nil)))))
      (pss_cons (ps_set (i := 7) sc_l_are_mingled.nd rfl (Or.inl rfl) (pe_disp (pps_cons pe_str (pe_callTy call_tuple_of (by rfl) T.m_tuple (by decide +kernel) (pa_cons (pe_lc (own := [("above", 8), ("below", 9)]) (g := (gTup _ 2 (gCons (gName 8) (gCons (gName 9) gNil)))) (tt := tYes) (by rfl) sc_l_are_mingled.nd (pi_list (pe_call (ok_l_shares T 40) (hr.mono (by first | decide | omega)) (by rfl) T.g_l_shares T.F_l_shares.kp T.b_l_shares .nil pass0 (pa_cons (pv 4) (pa_cons pe_int (pa_cons pe_int pa_nil))))) (blkOk_by (own := [("above", 8), ("below", 9)]) (N := ["deck", "cases", "calls", "nth", "plan", "form", "row", "due", "above", "below", "word", "own"]) (sc := defScope s_l_are_mingled) (by decide +kernel)) (fun _ _ _ _ _ => (pg_tup (by rfl) (pgs_cons (pg_name (i := 8) sc_l_are_mingled.nd rfl (Or.inl rfl)) (pgs_cons (pg_name (i := 9) sc_l_are_mingled.nd rfl (Or.inl rfl)) pgs_nil)))) (fun _ _ _ _ _ => pts_nil) (fun _ _ _ _ _ => (pe_call (ok_l_least T) (hr.mono (by first | decide | omega)) (by rfl) T.g_l_least T.F_l_least.kp T.b_l_least .nil pass0 (pa_cons (pv 8) (pa_cons (pv 9) pa_nil))))) pa_nil)) pps_nil) (by rfl) (by rfl) (fun z => by cases z) (by decide)))
      (pss_cons (ps_dput (hu_of hr) (pv 7) pe_str (pe_callTy call_tuple_of (by rfl) T.m_tuple (by decide +kernel) (pa_cons (pe_lc (own := [("own", 11), ("above", 8), ("below", 9)]) (g := (gTup _ 3 (gCons (gName 11) (gCons (gName 8) (gCons (gName 9) gNil))))) (tt := tYes) (by rfl) sc_l_are_mingled.nd (pi_list (pv 5)) (blkOk_by (own := [("own", 11), ("above", 8), ("below", 9)]) (N := ["deck", "cases", "calls", "nth", "plan", "form", "row", "due", "above", "below", "word", "own"]) (sc := defScope s_l_are_mingled) (by decide +kernel)) (fun _ _ _ _ _ => (pg_tup (by rfl) (pgs_cons (pg_name (i := 11) sc_l_are_mingled.nd rfl (Or.inl rfl)) (pgs_cons (pg_name (i := 8) sc_l_are_mingled.nd rfl (Or.inl rfl)) (pgs_cons (pg_name (i := 9) sc_l_are_mingled.nd rfl (Or.inl rfl)) pgs_nil))))) (fun _ _ _ _ _ => pts_nil) (fun _ _ _ _ _ => (pe_call (ok_l_least T) (hr.mono (by first | decide | omega)) (by rfl) T.g_l_least T.F_l_least.kp T.b_l_least .nil pass0 (pa_cons (pv 8) (pa_cons (pv 9) pa_nil))))) pa_nil)) rfl)
      (pss_cons (ps_asg (pe_call (ok_l_exact T 40) (hr.mono (by first | decide | omega)) (by rfl) T.g_l_exact T.F_l_exact.kp T.b_l_exact .nil pass0 (pa_cons (pv 4) (pa_cons (pv 6) pa_nil))) (pg_tup (by rfl) (pgs_cons (pg_name (i := 8) sc_l_are_mingled.nd rfl (Or.inl rfl)) (pgs_cons (pg_name (i := 9) sc_l_are_mingled.nd rfl (Or.inl rfl)) pgs_nil))))
      (pss_cons (ps_dput (hu_of hr) (pv 7) pe_str (pe_call (ok_l_least T) (hr.mono (by first | decide | omega)) (by rfl) T.g_l_least T.F_l_least.kp T.b_l_least .nil pass0 (pa_cons (pv 8) (pa_cons (pv 9) pa_nil))) rfl)
      (pss_cons (ps_expr (pe_bm PySem.F.plainAttrs_list PySem.F.slot_list_append PySem.F.type_list_append mt_append (pv 1) (pa_cons (pe_tup (pa_cons (pv 4) (pa_cons (pv 6) (pa_cons (pv 7) pa_nil)))) pa_nil)))
      (pss_one (ps_set (i := 2) sc_l_are_mingled.nd rfl (Or.inl rfl) (pe_op op_cat (pv 2) (pe_lc (own := [("word", 10)]) (g := (gName 10)) (tt := tYes) (by rfl) sc_l_are_mingled.nd (pi_tup (pe_tup (pa_cons pe_str (pa_cons pe_str (pa_cons pe_str (pa_cons pe_str pa_nil)))))) (blkOk_by (own := [("word", 10)]) (N := ["deck", "cases", "calls", "nth", "plan", "form", "row", "due", "above", "below", "word", "own"]) (sc := defScope s_l_are_mingled) (by decide +kernel)) (fun _ _ _ _ _ => (pg_name (i := 10) sc_l_are_mingled.nd rfl (Or.inl rfl))) (fun _ _ _ _ _ => pts_nil) (fun _ _ _ _ _ => (pe_tup (pa_cons (pv 10) (pa_cons (pv 3) pa_nil)))))))))))))))))
      (pss_cons (ps_for PassesOwn.never rfl (pi_list (pe_call (ok_l_mixed T) (hr.mono (by first | decide | omega)) (by rfl) T.g_l_mixed T.F_l_mixed.kp T.b_l_mixed .nil pass0 (pa_cons (pv 0) (pa_cons (pv 2) pa_nil)))) (pg_tup (by rfl) (pgs_cons (pg_name (i := 10) sc_l_are_mingled.nd rfl (Or.inl rfl)) (pgs_cons (pg_name (i := 3) sc_l_are_mingled.nd rfl (Or.inr rfl)) pgs_nil))) (pss_cons (ps_asg (pe_ix ix_list (pv 1) (pv 3) (fun _ _ => rfl)) (pg_tup (by rfl) (pgs_cons (pg_name (i := 4) sc_l_are_mingled.nd rfl (Or.inl rfl)) (pgs_cons (pg_name (i := 6) sc_l_are_mingled.nd rfl (Or.inl rfl)) (pgs_cons (pg_name (i := 7) sc_l_are_mingled.nd rfl (Or.inl rfl)) pgs_nil)))))
      (pss_one (ps_if (pt_cmpR op_ne (pe_callB (call_reprB hgd hr.repr) (by rfl) T.m_repr (by decide +kernel) (pa_cons (pe_call (ok_l_seen T) (hr.mono (by first | decide | omega)) (by rfl) T.g_l_seen T.F_l_seen.kp T.b_l_seen .nil pass0 (pa_cons (pv 10) (pa_cons (pv 4) (pa_cons (pv 6) pa_nil)))) pa_nil)) (pe_callB (call_reprB hgd hr.repr) (by rfl) T.m_repr (by decide +kernel) (pa_cons (pe_dget (hu_of hr) (pv 7) (pv 10) (fun _ _ => rfl)) pa_nil)) (nomark _)) (pss_one (ps_ret pe_bl)) pss_nil))))
      (pss_one (ps_ret pe_bl))))), ?_⟩
  walk_at "go"
  refine ⟨Nat.zero_le _, fun C nC => ?_⟩
  walk_at "go"
  refine ⟨Nat.zero_le _, fun L0 nL0 => ?_⟩
  walk_at "go"
  obtain ⟨c1, c2, c3⟩ := deck_ne D nC
  have nC0 : hid [dk, gr] H C = none := hid_none nC
  have z1 := same_new (o := .lst []) nC
  have z2 := same_new (o := .lst []) nL0
  have nL00 : H L0 = none := z1.free nL0
  have CL0 : C ≠ L0 := fun e => by rw [← e, upd_same] at nL0; cases nL0
  refine ⟨2, rfl, by decide, by decide, ?_⟩
  refine for_R (lo := 0) (n := 2) (fun i σ H' => ∃ y3 y4 y5 y6 y7 y8 y9, ∃ (L : Addr) (cs cl : List V), σ = [some (.ref dk), some (.ref C), some (.ref L), y3, y4, y5, y6, y7, y8, y9, none, none] ∧ cs.length = i ∧ cl.length ≤ 4 * i ∧ C ≠ L ∧ L ∉ [dk, gr] ∧ (∀ x ∈ cs, CaseOk K [dk, gr, C] H' x) ∧ (∀ x ∈ cl, CallOk K H' x) ∧ H' C = some (.lst cs) ∧ H' L = some (.lst cl) ∧ Deck H' dk gr ∧ Same (hid [dk, gr] H) (hid [dk, gr] H'))
    ⟨none, none, none, none, none, none, none, L0, [], [], rfl, rfl, Nat.le_refl _, CL0, (deck_ne D nL00).2.2, fun x hx => (by cases hx), fun x hx => (by cases hx), z2 _ _ upd_same, upd_same, deck_new D (z1.trans z2), same_hid (z1.trans z2)⟩ (fun i σ H1 hi h => ?_) (fun σ H1 h => ?_)
  · obtain ⟨y3, y4, y5, y6, y7, y8, y9, L, cs, cl, rfl, hl, hll, CL, LD, hcs, hcl, eC, eL, D1, s1⟩ := h
    walk_at "go"
    refine ⟨dk, gr, _, rfl, D1, by decide, fun v H2 v0 v1 D2 s2 => ?_⟩
    walk_at "go"
    refine ⟨dk, gr, v, rfl, D2, v0, fun t pv H3 pl hd D3 s3 => ?_⟩
    walk_at "go"
    have h1 := pl.many
    have h2 := pl.deep
    have h3 := pl.inp
    have dep1 : 1 ≤ t.dep := by
      obtain ⟨c, d, ps, e⟩ := pl.st
      subst e
      simp only [Th.dep]; omega
    refine ⟨.ref pv, 1, 1, t, 0, rfl, hd, by omega, dep1, h3, pl.good, by decide, by decide, by omega, fun zs p1 H4 np1 ep1 dz s4 => ?_⟩
    refine ⟨p1, zs, t.fm 1 1, rfl, sq_l ep1, Tris.of dz, by rw [form_len]; omega, fun ys p2 ty np2 => ?_⟩
    have s5 := same_new (o := .lst ys) np2
    have ep2 : (upd H4 p2 (.lst ys)) p2 = some (.lst ys) := upd_same
    have ly : ys.length = t.nIn := by rw [Tris.len ty, srt_len]
    have ty5 := ty.ts (ts_same s5)
    have s45 := s4.trans s5
    have np20 : H3 p2 = none := s4.free np2
    have p2d := (deck_ne D3 np20).2.2
    generalize upd H4 p2 (.lst ys) = H5 at ep2 ty5 s45 ⊢
    have D5 := deck_new D3 s45
    have hd5 := dp_same s45 hd
    walk_at "go"
    refine ⟨p2, ys, rfl, .inl (sq_l ep2), ?_⟩
    walk_at "go"
    refine ⟨dk, gr, .ref pv, t, ys.length, rfl, D5, hd5, pl, by omega, fun r ra H6 hrl hrs era D6 s6 => ?_⟩
    rw [ly] at hrl
    have R : Runs t r 210 := pl.runs hrl hrs (by decide)
    have t6 := ts_deck D5 s6
    have ep6 := (hid_get (s6 _ _ (hid_put p2d ep2))).2
    have ty6 := ty5.ts t6
    have hd6 := dp_t t6 (toD_t _) hd5
    have sA := s2.trans (s3.trans ((same_hid (D := [dk, gr]) s45).trans s6))
    have tA := ts_deck D1 sA
    have eC6 := (hid_get (sA _ _ (hid_put c3 eC))).2
    have eL6 := (hid_get (sA _ _ (hid_put LD eL))).2
    have hcs6 : ∀ x ∈ cs, CaseOk K [dk, gr, C] H6 x := fun x hx => (hcs x hx).to tA (hid_d sA)
    have hcl6 : ∀ x ∈ cl, CallOk K H6 x := fun x hx => (hcl x hx).ts tA
    have s16 := s1.trans sA
    clear hcs hcl eC eL ty ty5 ep2 dz ep1 hd hd5
    -- the dict
    walk_at "go"
    intro dd ndd
    have ddC : dd ≠ C := (ne_of_none eC6 ndd).symm
    have ddE : dd ∉ [dk, gr, C] := fun h => by
      have := deck_ne D6 ndd
      simp only [List.mem_cons, List.not_mem_nil, or_false] at h
      rcases h with h | h | h
      · exact this.1 h
      · exact this.2.1 h
      · exact ddC h
    have s7 := same_new (o := .dK []) ndd
    have edd : (upd H6 dd (.dK [])) dd = some (.dK []) := upd_same
    generalize upd H6 dd (.dK []) = H7 at s7 edd ⊢
    refine g_pc ?_
    walk_at "go"
    refine ⟨.ref pv, 1, 1, t, 0, rfl, dp_same s7 hd6, by omega, dep1, h1, pl.good, by decide, by decide, by omega, fun fs pf H8 npf epf df s8 => ?_⟩
    have lf := dps_len df
    rw [List.length_map, sh_len] at lf
    refine ⟨pf, rfl, ⟨fs, sq_l epf⟩, fun Z nZ => ?_⟩
    refine lc_list (xs := fs) (fun i H' => ∃ vs, H' Z = some (.lst vs) ∧ DpAll K H' vs (((t.sh 1 1).take i).map fracL) ∧ Same H8 H') ⟨[], upd_same, .nil, same_new nZ⟩ (fun i H' _ h => sq_l (h.choose_spec.2.2 _ _ epf)) (fun i x H' hx h => ?_) (fun H9 h => ?_)
    · obtain ⟨vs, eZ, dvs, s⟩ := h
      obtain ⟨f, q0, hf, rfl, hq⟩ := frac_at df hx
      obtain ⟨f1, f2, f3⟩ := sh_bnd pl f (List.mem_of_getElem? hf)
      have vl := dps_len dvs
      rw [List.length_map, List.length_take] at vl
      have il : i < (t.sh 1 1).length := (List.getElem?_eq_some_iff.mp hf).1
      rw [sh_len] at il
      refine g_gtup (same_t s hq) rfl ?_
      walk_at "go"
      refine ⟨rfl, ?_⟩
      walk_at "go"
      rw [if_pos (by decide)]
      walk_at "go"
      refine ⟨f.1, f.2, rfl, f3, Nat.le_trans f2 (Nat.pow_le_pow_right (by decide) (by decide)), fun p2 H2 ep s2 => ?_⟩
      have eZ2 := s2 _ _ eZ
      have tl := ts_lst (o := .lst (vs ++ [.ref p2])) eZ2
      refine ⟨vs, eZ2, sz1 (by omega), _, upd_same, ?_, same_mut (s.trans s2) nZ⟩
      rw [take_one hf, List.map_append]
      exact dps_app (dps_t tl (fracL_t _) (dps_same s2 dvs)) (dps_t tl (fracL_t [_]) (.cons (dpFrac ep) .nil))
    obtain ⟨vs, eZ, dvs, s9⟩ := h
    have full2 : (t.sh 1 1).take fs.length = t.sh 1 1 := by rw [lf, ← sh_len t 1 1, List.take_length]
    rw [full2] at dvs
    walk_at "go"
    refine ⟨Z, _, rfl, .inl ⟨sq_l eZ, fun rt nrt => ?_⟩⟩
    have s10 := same_new (o := .tup vs) nrt
    have drt : Dp K (upd H9 rt (.tup vs)) (.ref rt) (sharesD t) := .tup (sq_t upd_same) (dps_same s10 dvs)
    have s7a := s8.trans (s9.trans s10)
    generalize upd H9 rt (.tup vs) = Ha at drt s7a ⊢
    refine g_pn ?_
    refine ⟨s7a _ _ edd, [(.inr ("shares" : Str), .ref rt)], rfl, by show 1 ≤ 15; decide, ?_⟩
    rw [kv7_1]
    have tl1 : TSame Ha (upd Ha dd (.dK [(.inr ("shares" : Str), .ref rt)])) := ts_dK (s7a _ _ edd)
    have s6b : Same H6 (upd Ha dd (.dK [(.inr ("shares" : Str), .ref rt)])) := same_mut (s7.trans s7a) ndd
    have eddb : (upd Ha dd (.dK [(.inr ("shares" : Str), .ref rt)])) dd = some (.dK [(.inr ("shares" : Str), .ref rt)]) := upd_same
    have drtb := dp_t tl1 (shares_t _) drt
    generalize upd Ha dd (.dK [(.inr ("shares" : Str), .ref rt)]) = Hb at s6b eddb drtb ⊢
    clear tl1 drt s7a s8 s9 s10 dvs df epf eZ
    walk_at "go"
    have epb := s6b _ _ ep6
    have tyb := ty6.ts (ts_same s6b)
    refine ⟨p2, rfl, ⟨ys, sq_l epb⟩, fun Y nY => ?_⟩
    refine lc_list (xs := ys) (fun i H' => ∃ vs, H' Y = some (.lst vs) ∧ DpAll K H' vs ((((t.fm 1 1).mergeSort triLe).take i).map fun p => fracL p.2) ∧ Same Hb H') ⟨[], upd_same, .nil, same_new nY⟩ (fun i H' _ h => sq_l (h.choose_spec.2.2 _ _ epb)) (fun i x H' hx h => ?_) (fun Hc h => ?_)
    · obtain ⟨vs, eY, dvs, s⟩ := h
      obtain ⟨p, hp, q0, rfl, hq⟩ := Tris.get tyb hx
      obtain ⟨f1, f2, f3⟩ := fm_bnd pl p (srt_mem (List.mem_of_getElem? hp))
      have vl := dps_len dvs
      rw [List.length_map, List.length_take] at vl
      have il : i < ((t.fm 1 1).mergeSort triLe).length := (List.getElem?_eq_some_iff.mp hp).1
      rw [srt_len] at il
      refine g_gtup (same_t s hq) rfl ?_
      walk_at "go"
      refine ⟨rfl, ?_⟩
      walk_at "go"
      rw [if_pos (by decide)]
      walk_at "go"
      refine ⟨p.2.1, p.2.2, rfl, f3, Nat.le_trans f2 (Nat.pow_le_pow_right (by decide) (by decide)), fun p2 H2 ep s2 => ?_⟩
      have eY2 := s2 _ _ eY
      have tl := ts_lst (o := .lst (vs ++ [.ref p2])) eY2
      refine ⟨vs, eY2, sz1 (by omega), _, upd_same, ?_, same_mut (s.trans s2) nY⟩
      rw [take_one hp, List.map_append]
      have dt : ∀ l : List (Int × Int × Int), tupAll (l.map fun p => fracL p.2) = true := fun l => tupAll_mem.mpr fun d hd => by
        obtain ⟨f, _, rfl⟩ := List.mem_map.mp hd
        simp only [fracL, fracD, tupD, tupAll, Bool.and_self]
      exact dps_app (dps_t tl (dt _) (dps_same s2 dvs)) (dps_t tl (dt [_]) (.cons (dpFrac ep) .nil))
    obtain ⟨vs2, eY, dvs2, s11⟩ := h
    rw [ly, ← srt_len t, List.take_length] at dvs2
    walk_at "go"
    refine ⟨Y, _, rfl, .inl ⟨sq_l eY, fun rf nrf => ?_⟩⟩
    have s12 := same_new (o := .tup vs2) nrf
    have drf : Dp K (upd Hc rf (.tup vs2)) (.ref rf) (formD t) := .tup (sq_t upd_same) (dps_same s12 dvs2)
    have sbd := s11.trans s12
    generalize upd Hc rf (.tup vs2) = Hd at drf sbd ⊢
    have eddd := sbd _ _ eddb
    walk_at "go"
    refine l_dput eddd (sz1 (show 1 < 1000000 by decide)) ?_
    walk_at "go"
    rw [kv7_2]
    have tl2 : TSame Hd (upd Hd dd (.dK [(.inr ("shares" : Str), .ref rt), (.inr ("form" : Str), .ref rf)])) := ts_dK eddd
    have s6e : Same H6 (upd Hd dd (.dK [(.inr ("shares" : Str), .ref rt), (.inr ("form" : Str), .ref rf)])) := same_mut (s6b.trans sbd) ndd
    have edde : (upd Hd dd (.dK [(.inr ("shares" : Str), .ref rt), (.inr ("form" : Str), .ref rf)])) dd = some (.dK [(.inr ("shares" : Str), .ref rt), (.inr ("form" : Str), .ref rf)]) := upd_same
    have drte := dp_t tl2 (shares_t _) (dp_same sbd drtb)
    have drfe := dp_t tl2 (formD_t _) drf
    generalize upd Hd dd (.dK [(.inr ("shares" : Str), .ref rt), (.inr ("form" : Str), .ref rf)]) = He at s6e edde drte drfe ⊢
    clear tl2 drf drtb sbd s11 s12 dvs2 eY s6b eddb
    refine ⟨.ref pv, ra, t, r, 210, rfl, dp_same s6e hd6, sq_t (s6e _ _ era), R, by decide, by omega, fun x1 Hf ex1 s13 => ?_⟩
    refine g_gtup (sq_t ex1) rfl ?_
    walk_at "go"
    refine ⟨_, _, rfl, R.pos, Nat.le_trans R.ex2 (Nat.pow_le_pow_right (by decide) (by decide)), fun re Hg ere s14 => ?_⟩
    walk_at "go"
    have s1314 := s13.trans s14
    have eddg := s1314 _ _ edde
    refine l_dput eddg (sz1 (show 2 < 1000000 by decide)) ?_
    walk_at "go"
    rw [kv7_3]
    have tl3 : TSame Hg (upd Hg dd (.dK (kv7 rt rf re))) := ts_dK eddg
    have s6h : Same H6 (upd Hg dd (.dK (kv7 rt rf re))) := same_mut (s6e.trans s1314) ndd
    have eddh : (upd Hg dd (.dK (kv7 rt rf re))) dd = some (.dK (kv7 rt rf re)) := upd_same
    have drth := dp_t tl3 (shares_t _) (dp_same s1314 drte)
    have drfh := dp_t tl3 (formD_t _) (dp_same s1314 drfe)
    have dreh := dp_t (K := K) tl3 (frac_t _) (dpFrac ere)
    generalize upd Hg dd (.dK (kv7 rt rf re)) = Hh at s6h eddh drth drfh dreh ⊢
    clear tl3 drte drfe s1314 s13 s14 edde eddg s6e
    refine l_tyL (sq_l (s6h _ _ eC6)) ?_
    walk_at "go"
    refine ⟨sz (by simp), fun ca nca => ?_⟩
    have s15 := same_new (o := .tup [.ref pv, .ref ra, .ref dd]) nca
    have s6i := s6h.trans s15
    have hc : CaseOk K [dk, gr, C] (upd Hh ca (.tup [.ref pv, .ref ra, .ref dd])) (.ref ca) :=
      ⟨ca, pv, ra, dd, rt, rf, re, t, r, rfl, sq_t upd_same, dp_same s6i hd6, sq_t (s6i _ _ era), ddE, s15 _ _ eddh, dp_same s15 drth, dp_same s15 drfh, dp_same s15 dreh, pl, R⟩
    generalize upd Hh ca (.tup [.ref pv, .ref ra, .ref dd]) = Hi at s6i hc ⊢
    clear drth drfh dreh eddh s6h s15
    have eCi := s6i _ _ eC6
    have eLi := s6i _ _ eL6
    have hcsi : ∀ x ∈ cs ++ [V.ref ca], CaseOk K [dk, gr, C] Hi x := fun x hx => by
      rcases List.mem_append.mp hx with h | h
      · exact (hcs6 x h).to (ts_same s6i) (fun a o _ e => s6i _ _ e)
      · rw [List.mem_singleton.mp h]; exact hc
    have hcli : ∀ x ∈ cl, CallOk K Hi x := fun x hx => (hcl6 x hx).ts (ts_same s6i)
    have Di := deck_new D6 s6i
    have s1i := s16.trans (same_hid (D := [dk, gr]) s6i)
    clear hcs6 hcl6 hc
    walk_at "go"
    refine l_app eCi (sz1 (by omega)) ?_
    have tl4 := ts_lst (o := .lst (cs ++ [.ref ca])) eCi
    have hcsj : ∀ x ∈ cs ++ [V.ref ca], CaseOk K [dk, gr, C] (upd Hi C (.lst (cs ++ [.ref ca]))) x := fun x hx => (hcsi x hx).to tl4 fun a o na e => by
      rw [upd_ne (fun h => na (by rw [h]; simp))]; exact e
    have hclj : ∀ x ∈ cl, CallOk K (upd Hi C (.lst (cs ++ [.ref ca]))) x := fun x hx => (hcli x hx).ts tl4
    have eCj : (upd Hi C (.lst (cs ++ [.ref ca]))) C = some (.lst (cs ++ [.ref ca])) := upd_same
    have eLj : (upd Hi C (.lst (cs ++ [.ref ca]))) L = some (.lst cl) := by rw [upd_ne CL.symm]; exact eLi
    have Dj := deck_mut (o := .lst (cs ++ [.ref ca])) Di c1 c2
    have s1j := hid_mut (o := .lst (cs ++ [.ref ca])) s1i nC0
    generalize upd Hi C (.lst (cs ++ [.ref ca])) = Hj at hcsj hclj eCj eLj Dj s1j ⊢
    clear hcsi hcli eCi eLi Di s1i tl4
    walk_at "go"
    refine ⟨sz (by simp), fun a na => ?_⟩
    have s17 := same_new (o := .tup [.str ("shares" : Str), .str ("form" : Str), .str ("exact" : Str), .str ("form" : Str)]) na
    have ea : (upd Hj a (.tup [.str ("shares" : Str), .str ("form" : Str), .str ("exact" : Str), .str ("form" : Str)])) a = some (.tup [.str ("shares" : Str), .str ("form" : Str), .str ("exact" : Str), .str ("form" : Str)]) := upd_same
    generalize upd Hj a (.tup [.str ("shares" : Str), .str ("form" : Str), .str ("exact" : Str), .str ("form" : Str)]) = Hk at s17 ea ⊢
    refine ⟨a, rfl, ⟨_, sq_t ea⟩, fun X nX => ?_⟩
    refine lc_tup (xs := [.str ("shares" : Str), .str ("form" : Str), .str ("exact" : Str), .str ("form" : Str)]) (fun j H' => ∃ zs : List V, zs.length = j ∧ (∀ x ∈ zs, CallOk K H' x) ∧ H' X = some (.lst zs) ∧ Same Hk H') ⟨[], rfl, fun x hx => (by cases hx), upd_same, same_new nX⟩ (fun j H' _ h => ?_) (fun j x H' hx h => ?_) (fun Hl h => ?_)
    · obtain ⟨zs, _, _, _, s⟩ := h
      exact sq_t (s _ _ ea)
    · obtain ⟨zs, hzl, hzs, eX, s⟩ := h
      obtain ⟨c, rfl⟩ := word7_at hx
      have jl : j < 4 := (List.getElem?_eq_some_iff.mp hx).1
      walk_at "go"
      refine ⟨rfl, ?_⟩
      walk_at "go"
      rw [if_pos (by decide)]
      walk_at "go"
      refine ⟨sz (by simp), fun p np => ?_⟩
      have s5 := same_new (o := .tup [.str (wd7 c), .int (0 + (i : Int))]) np
      have eX5 := s5 _ _ eX
      have hc : CallOk K (upd H' p (.tup [.str (wd7 c), .int (0 + (i : Int))])) (.ref p) := ⟨p, c, _, rfl, sq_t upd_same, by omega, by omega⟩
      have tl := ts_lst (o := .lst (zs ++ [.ref p])) eX5
      refine ⟨zs, eX5, sz1 (by omega), zs ++ [.ref p], by rw [List.length_append, hzl]; rfl, fun x hx => ?_, upd_same, same_mut (s.trans s5) nX⟩
      rcases List.mem_append.mp hx with h | h
      · exact (hzs x h).ts ((ts_same s5).trans tl)
      · rw [List.mem_singleton.mp h]; exact hc.ts tl
    obtain ⟨zs, hzl, hzs, eX, s18⟩ := h
    have hzl4 : zs.length = 4 := hzl
    have sjl := s17.trans s18
    refine ⟨L, X, cl, zs, rfl, rfl, sjl _ _ eLj, eX, sz (by omega), fun p np => ?_⟩
    have s19 := same_new (o := .lst (cl ++ zs)) np
    have sjm := sjl.trans s19
    refine ⟨_, _, _, _, _, _, _, p, cs ++ [.ref ca], cl ++ zs, rfl, by rw [List.length_append, hl]; rfl, by rw [List.length_append]; omega, ne_of_none (sjl _ _ eCj) np, (deck_ne (deck_new Dj sjl) np).2.2, fun x hx => (hcsj x hx).to (ts_same sjm) (fun a o _ e => sjm _ _ e), fun x hx => ?_, sjm _ _ eCj, upd_same, deck_new Dj sjm, s1j.trans (same_hid sjm)⟩
    rcases List.mem_append.mp hx with h | h
    · exact (hclj x h).ts (ts_same sjm)
    · exact (hzs x h).ts (ts_same s19)
  obtain ⟨y3, y4, y5, y6, y7, y8, y9, L, cs, cl, rfl, hl, hll, CL, LD, hcs, hcl, eC, eL, D1, s1⟩ := h
  walk_at "go"
  refine ⟨dk, gr, L, cl, rfl, D1, sq_l (hid_put LD eL), fun x hx => ((hcl x hx).ts (ts_into D1)).nm, by omega, fun ys p H4 hp np D4 ep s4 => ?_⟩
  have t4 := ts_deck D1 s4
  have hys : ∀ x ∈ ys, CallOk K H4 x := fun x hx => (hcl x (hp.mem_iff.mp hx)).ts t4
  have hcs4 : ∀ x ∈ cs, CaseOk K [dk, gr, C] H4 x := fun x hx => (hcs x hx).to t4 (hid_d s4)
  have eC4 := (hid_get (s4 _ _ (hid_put c3 eC))).2
  have sA := s1.trans s4
  clear hcs hcl
  refine ⟨p, rfl, ⟨ys, sq_l ep⟩, ?_⟩
  refine for_L (xs := ys) (fun i σ H' => ∃ y3 y4 y5 y6 y7 y8 y9 y10 y11, σ = [some (.ref dk), some (.ref C), some (.ref L), y3, y4, y5, y6, y7, y8, y9, y10, y11] ∧ Same H4 H') ⟨_, _, _, _, _, _, _, _, _, rfl, Same.refl _⟩ (fun i σ H' _ h => ?_) (fun i x σ H5 hx h => ?_) (fun σ H5 h => ?_)
  · obtain ⟨_, _, _, _, _, _, _, _, _, _, s⟩ := h
    exact sq_l (s _ _ ep)
  · obtain ⟨y3, y4, y5, y6, y7, y8, y9, y10, y11, rfl, s5⟩ := h
    obtain ⟨a, c, k, rfl, ha, k0, k1⟩ := hys x (List.mem_of_getElem? hx)
    refine g_gtup (same_t s5 ha) rfl ?_
    walk_at "go"
    obtain ⟨z, ez, hz⟩ := at_nat (xs := cs) (v := k) k0 (by omega)
    refine l_ixL (sq_l (s5 _ _ eC4)) ez ?_
    obtain ⟨ca, va, ra, dd, s, f, e, t, r, rfl, hca, hd, hrow, hdd, edd, d1, d2, d3, pl, R⟩ := (hcs4 z hz).to (ts_same s5) (fun a o _ e => s5 _ _ e)
    refine g_gtup hca rfl ?_
    walk_at "go"
    refine ⟨c, .ref va, ra, t, r, rfl, hd, hrow, pl, R, fun x1 H6 dx s6 => ?_⟩
    refine ⟨.ref x1, _, rfl, dx, .inl ⟨_, rfl⟩, td7_shows pl R c, ?_⟩
    walk_at "go"
    obtain ⟨x2, ev, dv⟩ := due7_at t r d1 d2 d3 c
    refine l_dget (s6 _ _ edd) ev ?_
    walk_at "go"
    refine ⟨.ref x2, _, rfl, dp_same s6 dv, .inl ⟨_, rfl⟩, td7_shows pl R c, ?_⟩
    walk_at "go"
    refine l_ne rfl ?_
    rw [decide_eq_true rfl]
    walk_at "go"
    rw [if_neg (by decide)]
    exact ⟨_, _, _, _, _, _, _, _, _, rfl, s5.trans s6⟩
  · obtain ⟨y3, y4, y5, y6, y7, y8, y9, y10, y11, rfl, s5⟩ := h
    walk_at "go"
    exact q _ (deck_new D4 s5) (sA.trans (same_hid s5))

end
end SC
namespace SC
open PySem PySem.Spec PyProof.Rows L2 StrLaws
local macro_rules | `(tactic| walk_at "go") => `(tactic| ((try dsimp only [cxOf, Cx.nox, Cx.wish]); repeat (first
  | (with_reducible refine g_seq ?_)
  | (with_reducible refine g_asg ?_)
  | (with_reducible refine g_asg2 ?_)
  | (with_reducible refine g_ret ?_)
  | (with_reducible refine g_drop ?_)
  | (with_reducible refine g_next ?_)
  | (with_reducible refine g_ifs ?_)
  | (with_reducible refine g_par ?_)
  | (with_reducible refine g_par3 ?_)
  | ((with_reducible refine' g_var ?hv ?_); (case hv => exact rfl))
  | (with_reducible refine g_c ?_)
  | ((with_reducible refine' g_aug ?hv ?_); (case hv => exact rfl))
  | (with_reducible refine l_ip ?_)
  | (with_reducible refine g_op ?_)
  | (with_reducible refine g_un ?_)
  | (with_reducible refine g_cons ?_)
  | (with_reducible refine g_nil ?_)
  | (with_reducible refine g_cb ?_)
  | (with_reducible refine g_call ?_)
  | (with_reducible refine g_callK ?_)
  | (with_reducible refine g_test ?_)
  | (with_reducible refine g_b ?_)
  | (with_reducible refine g_not ?_)
  | (with_reducible refine g_chain ?_)
  | (with_reducible refine g_notV ?_)
  | (with_reducible refine g_and ?_)
  | (with_reducible refine g_or ?_)
  | (with_reducible refine g_ifx ?_)
  | (with_reducible refine g_isN ?_)
  | (with_reducible refine g_notN ?_)
  | (with_reducible refine g_andV ?_)
  | (with_reducible refine g_bm ?_)
  | (with_reducible refine g_bm0 ?_)
  | (with_reducible refine g_sl ?_)
  | (with_reducible refine g_part ?_)
  | (with_reducible refine g_nopart ?_)
  | (with_reducible refine g_dget ?_)
  | (with_reducible refine g_dput ?_)
  | (with_reducible refine g_tup ?_)
  | (with_reducible refine g_lst ?_)
  | (with_reducible refine g_yes ?_)
  | (with_reducible refine g_name ?_)
  | (with_reducible refine g_gsub ?_)
  | (with_reducible refine g_iList ?_)
  | (with_reducible refine g_iTup ?_)
  | (with_reducible refine g_for ?_)
  | (with_reducible refine g_lc ?_)
  | (with_reducible refine g_rng1 ?_)
  | (with_reducible refine g_iZip ?_)
  | (with_reducible refine g_allT ?_)
  | (with_reducible refine g_iZipA ?_)
  | (with_reducible refine g_iZip3 ?_)
  | (with_reducible refine g_dcT ?_)
  | (with_reducible refine g_dc ?_)
  | (with_reducible refine g_iEnumT ?_)
  | (with_reducible refine g_lstRg ?_)
  | (with_reducible refine g_rg1 ?_)
  | (with_reducible refine g_gcons ?_)
  | (with_reducible refine g_gnil ?_)
  | (with_reducible refine l_bl ?_)
  | (with_reducible refine l_int ?_)
  | (with_reducible refine l_two ?_)
  | (with_reducible refine l_three ?_)
  | (with_reducible refine l_I0 ?_)
  | (with_reducible refine l_U ?_)
  | dsimp only)))
section
variable {P : Program} {w : World} {K : PySem.W.Frag} {mg : Str → Option Value} {base : Heap}
/-! ### law (k07) -/
def spLaw (K : PySem.W.Frag) : Sp := fun vs H Q _ => ∃ (a : Addr) (ns : List Int), vs = [.ref a] ∧ SqL K H a (ns.map V.int) ∧ ns.length ≤ 63 ∧ ∀ H', Q (.bl true) H'
def oneT (c k : Int) : Th := .st c 0 [(k, .inp 0)]
theorem one_plan {c k : Int} (hc : c = 1 ∨ c = 6 ∨ c = 10 ^ 30) (hk : k = 1 ∨ k = -1) : IsPlan (oneT c k) := by
  have hw : WsOk [k] := by rcases hk with rfl | rfl <;> exact ⟨by decide, by decide⟩
  have hn : 1 ≤ c ∧ c ≤ 10 ^ 30 := by rcases hc with rfl | rfl | rfl <;> decide
  refine ⟨⟨_, _, _, rfl⟩, ?_, ?_, ?_, ?_, ?_, ?_⟩
  · simp only [oneT, Th.good, goodL, List.map_cons, List.map_nil, and_true]
    exact ⟨hn.1, hn.2, by decide, by omega, hw⟩
  · simp [oneT, Th.full, fullL]
  · simp only [oneT, Th.nSt, nStL]; decide
  · simp only [oneT, Th.dep, depL]; decide
  · simp only [oneT, Th.nIn, nInL]; decide
  · simp only [oneT, Th.ins, insL, Th.nIn, nInL]
    exact List.Perm.refl _
theorem ok_law (T : Tx K mg) : FnG P w K mg base 48 T.f_law T.fd_law ["script"] (spLaw K) := by
  refine FnG.mk' T.F_law sc_law (fun vs H Q E h => ?_) (fun cdv A outer s H vs Q hgd hr h => ?_)
  · obtain ⟨_, _, rfl, _⟩ := h
    rfl
  obtain ⟨a, ns, rfl, ha, hl, q⟩ := h
  refine ⟨_, (pss_cons (ps_set (i := 1) sc_law.nd rfl (Or.inl rfl) (pe_call (ok_l_deck T) (hr.mono (by first | decide | omega)) (by rfl) T.g_l_deck T.F_l_deck.kp T.b_l_deck .nil pass0 (pa_cons (pv 0) pa_nil)))
      (pss_cons (ps_for PassesOwn.never rfl (pi_range1 rfl T.m_range (pa_cons pe_int pa_nil)) (pg_name (i := 2) sc_law.nd rfl (Or.inl rfl)) (pss_one (ps_if (pt_not (pt_val (pe_callG (ok_l_is_right T) hgd (hr.mono (by first | decide | omega)) (by rfl) T.g_l_is_right T.F_l_is_right.kp T.b_l_is_right .nil (pa_cons (pv 1) (pa_cons (pe_call (ok_l_drawn T) (hr.mono (by first | decide | omega)) (by rfl) T.g_l_drawn T.F_l_drawn.kp T.b_l_drawn .nil pass0 (pa_cons (pv 1) (pa_cons (pv 2) pa_nil))) (pa_cons (pe_cmpR op_eq (pe_op op_modN (pv 2) pe_int) pe_int (nomark _)) pa_nil)))))) (pss_one (ps_ret pe_bl)) pss_nil)))
      (pss_cons (ps_if (pt_not (pt_val (pe_callG (ok_l_are_mingled T) hgd (hr.mono (by first | decide | omega)) (by rfl) T.g_l_are_mingled T.F_l_are_mingled.kp T.b_l_are_mingled .nil (pa_cons (pv 1) pa_nil)))) (pss_one (ps_ret pe_bl)) pss_nil)
      (pss_cons (ps_set (i := 3) sc_law.nd rfl (Or.inl rfl) (pe_tup (pa_cons (pe_call (ok_l_pick T) (hr.mono (by first | decide | omega)) (by rfl) T.g_l_pick T.F_l_pick.kp T.b_l_pick .nil pass0 (pa_cons (pv 1) (pa_cons (pe_lst (pa_cons pe_int (pa_cons pe_int (pa_cons (pe_op op_pow pe_int pe_int) pa_nil)))) pa_nil))) (pa_cons pe_int (pa_cons (pe_tup (pa_cons (pe_tup (pa_cons (pe_call (ok_l_pick T) (hr.mono (by first | decide | omega)) (by rfl) T.g_l_pick T.F_l_pick.kp T.b_l_pick .nil pass0 (pa_cons (pv 1) (pa_cons (pe_lst (pa_cons pe_int (pa_cons (pe_un un_neg pe_int) pa_nil))) pa_nil))) (pa_cons pe_int pa_nil))) pa_nil)) pa_nil)))))
      (pss_one (ps_ret (pe_and (pe_callG (ok_l_is_right T) hgd (hr.mono (by first | decide | omega)) (by rfl) T.g_l_is_right T.F_l_is_right.kp T.b_l_is_right .nil (pa_cons (pv 1) (pa_cons (pe_call (ok_l_plan T) (hr.mono (by first | decide | omega)) (by rfl) T.g_l_plan T.F_l_plan.kp T.b_l_plan .nil pass0 (pa_cons (pv 1) (pa_cons pe_int (pa_cons pe_int (pa_cons pe_int (pa_cons (pe_call (ok_l_draw T) (hr.mono (by first | decide | omega)) (by rfl) T.g_l_draw T.F_l_draw.kp T.b_l_draw .nil pass0 (pa_cons (pv 1) (pa_cons pe_int pa_nil))) pa_nil)))))) (pa_cons pe_bl pa_nil)))) (pe_one (pe_callG (ok_l_is_right T) hgd (hr.mono (by first | decide | omega)) (by rfl) T.g_l_is_right T.F_l_is_right.kp T.b_l_is_right .nil (pa_cons (pv 1) (pa_cons (pv 3) (pa_cons pe_bl pa_nil)))))))))))), ?_⟩
  walk_at "go"
  refine ⟨a, ns, rfl, ha, hl, fun dk gr H1 _ _ D1 s1 => ?_⟩
  walk_at "go"
  refine ⟨6, rfl, by decide, by decide, ?_⟩
  refine for_R (lo := 0) (n := 6) (fun i σ H' => ∃ y2, σ = [some (.ref a), some (.ref dk), y2, none] ∧ Deck H' dk gr) ⟨_, rfl, D1⟩ (fun i σ H3 hi h => ?_) (fun σ H3 h => ?_)
  · obtain ⟨y2, rfl, D3⟩ := h
    walk_at "go"
    refine ⟨dk, gr, _, rfl, D3, by omega, fun t pv H4 pl hd D4 s4 => ?_⟩
    walk_at "go"
    refine l_I (by omega) ?_
    walk_at "go"
    refine l_eq rfl ?_
    refine ⟨dk, gr, .ref pv, _, t, rfl, D4, hd, pl, fun H5 D5 s5 => ?_⟩
    walk_at "go"
    rw [if_neg (by decide)]
    exact ⟨_, rfl, D5⟩
  obtain ⟨y2, rfl, D3⟩ := h
  walk_at "go"
  refine ⟨dk, gr, rfl, D3, fun H4 D4 s4 => ?_⟩
  walk_at "go"
  rw [if_neg (by decide)]
  walk_at "go"
  refine l_I ⟨by decide, by decide, by decide⟩ ?_
  walk_at "go"
  refine ⟨sz (by simp), fun m1 nm1 => ?_⟩
  have z1 := same_new (o := .lst [.int 1, .int 6, .int (10 ^ (30 : Int).toNat)]) nm1
  walk_at "go"
  refine ⟨dk, gr, m1, _, rfl, deck_new D4 z1, sq_l (hid_put (deck_ne D4 nm1).2.2 upd_same), by simp, by simp, fun x H5 hx D5 s5 => ?_⟩
  have hc : ∃ c : Int, x = .int c ∧ (c = 1 ∨ c = 6 ∨ c = 10 ^ 30) := by
    simp only [List.mem_cons, List.not_mem_nil, or_false] at hx
    rcases hx with e | e | e
    · exact ⟨1, e, by decide⟩
    · exact ⟨6, e, by decide⟩
    · exact ⟨10 ^ 30, by rw [e]; decide +kernel, .inr (.inr rfl)⟩
  obtain ⟨c, rfl, hc⟩ := hc
  walk_at "go"
  refine ⟨sz (by simp), fun m2 nm2 => ?_⟩
  have z2 := same_new (o := .lst [.int 1, .int (-1)]) nm2
  walk_at "go"
  refine ⟨dk, gr, m2, _, rfl, deck_new D5 z2, sq_l (hid_put (deck_ne D5 nm2).2.2 upd_same), by simp, by simp, fun x H6 hx D6 s6 => ?_⟩
  have hk : ∃ k : Int, x = .int k ∧ (k = 1 ∨ k = -1) := by
    simp only [List.mem_cons, List.not_mem_nil, or_false] at hx
    rcases hx with e | e
    · exact ⟨1, e, .inl rfl⟩
    · exact ⟨-1, e, .inr rfl⟩
  obtain ⟨k, rfl, hk⟩ := hk
  walk_at "go"
  refine ⟨sz (by simp), fun t1 nt1 => ?_⟩
  walk_at "go"
  refine ⟨sz (by simp), fun t2 nt2 => ?_⟩
  walk_at "go"
  refine ⟨sz (by simp), fun t3 nt3 => ?_⟩
  have z3 := same_new (o := .tup [.int k, .int 0]) nt1
  have z4 := same_new (o := .tup [.ref t1]) nt2
  have z5 := same_new (o := .tup [.int c, .int 0, .ref t2]) nt3
  have d3 : Dp K (upd (upd (upd H6 t1 (.tup [.int k, .int 0])) t2 (.tup [.ref t1])) t3 (.tup [.int c, .int 0, .ref t2])) (.ref t3) (oneT c k).toD := by
    simp only [oneT, Th.toD, toDL]
    exact .tup (sq_t upd_same) (.cons (.int _) (.cons (.int _) (.cons (.tup (sq_t (z5 _ _ upd_same)) (.cons (.tup (sq_t (z5 _ _ (z4 _ _ upd_same))) (.cons (.int _) (.cons (.int _) .nil))) .nil)) .nil)))
  have D7 := deck_new D6 (z3.trans (z4.trans z5))
  generalize upd (upd (upd H6 t1 (.tup [.int k, .int 0])) t2 (.tup [.ref t1])) t3 (.tup [.int c, .int 0, .ref t2]) = H7 at d3 D7 ⊢
  walk_at "go"
  refine ⟨dk, gr, _, rfl, D7, by decide, fun v H8 v0 v1 D8 s8 => ?_⟩
  have d38 := dp_t (ts_deck D7 s8) (toD_t _) d3
  walk_at "go"
  refine ⟨dk, gr, 1, 1, 24, v, rfl, D8, by decide, by decide, by decide, by decide, by decide, by decide, v0, by omega, fun t pv H9 pl hd D9 s9 => ?_⟩
  have d39 := dp_t (ts_deck D8 s9) (toD_t _) d38
  refine ⟨dk, gr, .ref pv, false, t, rfl, D9, hd, pl, fun Ha Da sa => ?_⟩
  walk_at "go"
  rw [if_pos rfl]
  walk_at "go"
  refine ⟨dk, gr, .ref t3, true, oneT c k, rfl, Da, dp_t sa (toD_t _) d39, one_plan hc hk, fun Hb Db sb => ?_⟩
  exact q Hb

end
end SC
namespace SC
open PySem PySem.Spec PyProof.Rows L2
theorem all_mk {l : PySem.W.OpenLaw} {q : Program} {loose : List Str} {w : World} {s₀ : Shared} {K : PySem.W.Frag} {h : Heap} {mg mb : Str → Option Value} {fa : Addr}
    (G : PySem.W.Ground q loose [] (PySem.W.XL q []) w s₀ mg mb h) (X : K.In h) (hfa : mg "law" = some (.ref fa))
    {od0 an0 : Option Addr} {sl0 : Array (Option Value)} {f0 : Addr} {oc0 kV0 dc0 pm0 cd0 ct0 : Value}
    (a0 : PySem.W.nsIn K mainGlobals "is_stage" = some (some (.ref f0))) (l0 : K.lookup f0 = some ⟨oc0, od0, .func (PySem.W.fnOf "is_stage" "is_stage" (defArgs s_is_stage) (defBody s_is_stage) (defScope s_is_stage) .none kV0 dc0 pm0 an0 cd0 ct0), sl0⟩) (c0 : PySem.W.codeIn K cd0 "is_stage" = true) (k0 : PySem.W.keepIn K (.ref f0) = true)
    {od1 an1 : Option Addr} {sl1 : Array (Option Value)} {f1 : Addr} {oc1 kV1 dc1 pm1 cd1 ct1 : Value}
    (a1 : PySem.W.nsIn K mainGlobals "fraction_of" = some (some (.ref f1))) (l1 : K.lookup f1 = some ⟨oc1, od1, .func (PySem.W.fnOf "fraction_of" "fraction_of" (defArgs s_fraction_of) (defBody s_fraction_of) (defScope s_fraction_of) .none kV1 dc1 pm1 an1 cd1 ct1), sl1⟩) (c1 : PySem.W.codeIn K cd1 "fraction_of" = true) (k1 : PySem.W.keepIn K (.ref f1) = true)
    {od2 an2 : Option Addr} {sl2 : Array (Option Value)} {f2 : Addr} {oc2 kV2 dc2 pm2 cd2 ct2 : Value}
    (a2 : PySem.W.nsIn K mainGlobals "scaled" = some (some (.ref f2))) (l2 : K.lookup f2 = some ⟨oc2, od2, .func (PySem.W.fnOf "scaled" "scaled" (defArgs s_scaled) (defBody s_scaled) (defScope s_scaled) .none kV2 dc2 pm2 an2 cd2 ct2), sl2⟩) (c2 : PySem.W.codeIn K cd2 "scaled" = true) (k2 : PySem.W.keepIn K (.ref f2) = true)
    {od3 an3 : Option Addr} {sl3 : Array (Option Value)} {f3 : Addr} {oc3 kV3 dc3 pm3 cd3 ct3 : Value}
    (a3 : PySem.W.nsIn K mainGlobals "sum_of" = some (some (.ref f3))) (l3 : K.lookup f3 = some ⟨oc3, od3, .func (PySem.W.fnOf "sum_of" "sum_of" (defArgs s_sum_of) (defBody s_sum_of) (defScope s_sum_of) .none kV3 dc3 pm3 an3 cd3 ct3), sl3⟩) (c3 : PySem.W.codeIn K cd3 "sum_of" = true) (k3 : PySem.W.keepIn K (.ref f3) = true)
    {od4 an4 : Option Addr} {sl4 : Array (Option Value)} {f4 : Addr} {oc4 kV4 dc4 pm4 cd4 ct4 : Value}
    (a4 : PySem.W.nsIn K mainGlobals "things_with_shares" = some (some (.ref f4))) (l4 : K.lookup f4 = some ⟨oc4, od4, .func (PySem.W.fnOf "things_with_shares" "things_with_shares" (defArgs s_things_with_shares) (defBody s_things_with_shares) (defScope s_things_with_shares) .none kV4 dc4 pm4 an4 cd4 ct4), sl4⟩) (c4 : PySem.W.codeIn K cd4 "things_with_shares" = true) (k4 : PySem.W.keepIn K (.ref f4) = true)
    {od5 an5 : Option Addr} {sl5 : Array (Option Value)} {f5 : Addr} {oc5 kV5 dc5 pm5 cd5 ct5 : Value}
    (a5 : PySem.W.nsIn K mainGlobals "stages_with_shares" = some (some (.ref f5))) (l5 : K.lookup f5 = some ⟨oc5, od5, .func (PySem.W.fnOf "stages_with_shares" "stages_with_shares" (defArgs s_stages_with_shares) (defBody s_stages_with_shares) (defScope s_stages_with_shares) .none kV5 dc5 pm5 an5 cd5 ct5), sl5⟩) (c5 : PySem.W.codeIn K cd5 "stages_with_shares" = true) (k5 : PySem.W.keepIn K (.ref f5) = true)
    {od6 an6 : Option Addr} {sl6 : Array (Option Value)} {f6 : Addr} {oc6 kV6 dc6 pm6 cd6 ct6 : Value}
    (a6 : PySem.W.nsIn K mainGlobals "shares_of" = some (some (.ref f6))) (l6 : K.lookup f6 = some ⟨oc6, od6, .func (PySem.W.fnOf "shares_of" "shares_of" (defArgs s_shares_of) (defBody s_shares_of) (defScope s_shares_of) .none kV6 dc6 pm6 an6 cd6 ct6), sl6⟩) (c6 : PySem.W.codeIn K cd6 "shares_of" = true) (k6 : PySem.W.keepIn K (.ref f6) = true)
    {od7 an7 : Option Addr} {sl7 : Array (Option Value)} {f7 : Addr} {oc7 kV7 dc7 pm7 cd7 ct7 : Value}
    (a7 : PySem.W.nsIn K mainGlobals "form_of" = some (some (.ref f7))) (l7 : K.lookup f7 = some ⟨oc7, od7, .func (PySem.W.fnOf "form_of" "form_of" (defArgs s_form_of) (defBody s_form_of) (defScope s_form_of) .none kV7 dc7 pm7 an7 cd7 ct7), sl7⟩) (c7 : PySem.W.codeIn K cd7 "form_of" = true) (k7 : PySem.W.keepIn K (.ref f7) = true)
    {od8 an8 : Option Addr} {sl8 : Array (Option Value)} {f8 : Addr} {oc8 kV8 dc8 pm8 cd8 ct8 : Value}
    (a8 : PySem.W.nsIn K mainGlobals "exact_of_thing" = some (some (.ref f8))) (l8 : K.lookup f8 = some ⟨oc8, od8, .func (PySem.W.fnOf "exact_of_thing" "exact_of_thing" (defArgs s_exact_of_thing) (defBody s_exact_of_thing) (defScope s_exact_of_thing) .none kV8 dc8 pm8 an8 cd8 ct8), sl8⟩) (c8 : PySem.W.codeIn K cd8 "exact_of_thing" = true) (k8 : PySem.W.keepIn K (.ref f8) = true)
    {od9 an9 : Option Addr} {sl9 : Array (Option Value)} {f9 : Addr} {oc9 kV9 dc9 pm9 cd9 ct9 : Value}
    (a9 : PySem.W.nsIn K mainGlobals "exact_of" = some (some (.ref f9))) (l9 : K.lookup f9 = some ⟨oc9, od9, .func (PySem.W.fnOf "exact_of" "exact_of" (defArgs s_exact_of) (defBody s_exact_of) (defScope s_exact_of) .none kV9 dc9 pm9 an9 cd9 ct9), sl9⟩) (c9 : PySem.W.codeIn K cd9 "exact_of" = true) (k9 : PySem.W.keepIn K (.ref f9) = true)
    {od10 an10 : Option Addr} {sl10 : Array (Option Value)} {f10 : Addr} {oc10 kV10 dc10 pm10 cd10 ct10 : Value}
    (a10 : PySem.W.nsIn K mainGlobals "_law_deck" = some (some (.ref f10))) (l10 : K.lookup f10 = some ⟨oc10, od10, .func (PySem.W.fnOf "_law_deck" "_law_deck" (defArgs s_l_deck) (defBody s_l_deck) (defScope s_l_deck) .none kV10 dc10 pm10 an10 cd10 ct10), sl10⟩) (c10 : PySem.W.codeIn K cd10 "_law_deck" = true) (k10 : PySem.W.keepIn K (.ref f10) = true)
    {od11 an11 : Option Addr} {sl11 : Array (Option Value)} {f11 : Addr} {oc11 kV11 dc11 pm11 cd11 ct11 : Value}
    (a11 : PySem.W.nsIn K mainGlobals "_law_draw" = some (some (.ref f11))) (l11 : K.lookup f11 = some ⟨oc11, od11, .func (PySem.W.fnOf "_law_draw" "_law_draw" (defArgs s_l_draw) (defBody s_l_draw) (defScope s_l_draw) .none kV11 dc11 pm11 an11 cd11 ct11), sl11⟩) (c11 : PySem.W.codeIn K cd11 "_law_draw" = true) (k11 : PySem.W.keepIn K (.ref f11) = true)
    {od12 an12 : Option Addr} {sl12 : Array (Option Value)} {f12 : Addr} {oc12 kV12 dc12 pm12 cd12 ct12 : Value}
    (a12 : PySem.W.nsIn K mainGlobals "_law_pick" = some (some (.ref f12))) (l12 : K.lookup f12 = some ⟨oc12, od12, .func (PySem.W.fnOf "_law_pick" "_law_pick" (defArgs s_l_pick) (defBody s_l_pick) (defScope s_l_pick) .none kV12 dc12 pm12 an12 cd12 ct12), sl12⟩) (c12 : PySem.W.codeIn K cd12 "_law_pick" = true) (k12 : PySem.W.keepIn K (.ref f12) = true)
    {od13 an13 : Option Addr} {sl13 : Array (Option Value)} {f13 : Addr} {oc13 kV13 dc13 pm13 cd13 ct13 : Value}
    (a13 : PySem.W.nsIn K mainGlobals "_law_mixed" = some (some (.ref f13))) (l13 : K.lookup f13 = some ⟨oc13, od13, .func (PySem.W.fnOf "_law_mixed" "_law_mixed" (defArgs s_l_mixed) (defBody s_l_mixed) (defScope s_l_mixed) .none kV13 dc13 pm13 an13 cd13 ct13), sl13⟩) (c13 : PySem.W.codeIn K cd13 "_law_mixed" = true) (k13 : PySem.W.keepIn K (.ref f13) = true)
    {od14 an14 : Option Addr} {sl14 : Array (Option Value)} {f14 : Addr} {oc14 kV14 dc14 pm14 cd14 ct14 : Value}
    (a14 : PySem.W.nsIn K mainGlobals "_law_shape" = some (some (.ref f14))) (l14 : K.lookup f14 = some ⟨oc14, od14, .func (PySem.W.fnOf "_law_shape" "_law_shape" (defArgs s_l_shape) (defBody s_l_shape) (defScope s_l_shape) .none kV14 dc14 pm14 an14 cd14 ct14), sl14⟩) (c14 : PySem.W.codeIn K cd14 "_law_shape" = true) (k14 : PySem.W.keepIn K (.ref f14) = true)
    {od15 an15 : Option Addr} {sl15 : Array (Option Value)} {f15 : Addr} {oc15 kV15 dc15 pm15 cd15 ct15 : Value}
    (a15 : PySem.W.nsIn K mainGlobals "_law_divisor_of" = some (some (.ref f15))) (l15 : K.lookup f15 = some ⟨oc15, od15, .func (PySem.W.fnOf "_law_divisor_of" "_law_divisor_of" (defArgs s_l_divisor_of) (defBody s_l_divisor_of) (defScope s_l_divisor_of) .none kV15 dc15 pm15 an15 cd15 ct15), sl15⟩) (c15 : PySem.W.codeIn K cd15 "_law_divisor_of" = true) (k15 : PySem.W.keepIn K (.ref f15) = true)
    {od16 an16 : Option Addr} {sl16 : Array (Option Value)} {f16 : Addr} {oc16 kV16 dc16 pm16 cd16 ct16 : Value}
    (a16 : PySem.W.nsIn K mainGlobals "_law_weights" = some (some (.ref f16))) (l16 : K.lookup f16 = some ⟨oc16, od16, .func (PySem.W.fnOf "_law_weights" "_law_weights" (defArgs s_l_weights) (defBody s_l_weights) (defScope s_l_weights) .none kV16 dc16 pm16 an16 cd16 ct16), sl16⟩) (c16 : PySem.W.codeIn K cd16 "_law_weights" = true) (k16 : PySem.W.keepIn K (.ref f16) = true)
    {od17 an17 : Option Addr} {sl17 : Array (Option Value)} {f17 : Addr} {oc17 kV17 dc17 pm17 cd17 ct17 : Value}
    (a17 : PySem.W.nsIn K mainGlobals "_law_stage" = some (some (.ref f17))) (l17 : K.lookup f17 = some ⟨oc17, od17, .func (PySem.W.fnOf "_law_stage" "_law_stage" (defArgs s_l_stage) (defBody s_l_stage) (defScope s_l_stage) .none kV17 dc17 pm17 an17 cd17 ct17), sl17⟩) (c17 : PySem.W.codeIn K cd17 "_law_stage" = true) (k17 : PySem.W.keepIn K (.ref f17) = true)
    {od18 an18 : Option Addr} {sl18 : Array (Option Value)} {f18 : Addr} {oc18 kV18 dc18 pm18 cd18 ct18 : Value}
    (a18 : PySem.W.nsIn K mainGlobals "_law_many_inputs" = some (some (.ref f18))) (l18 : K.lookup f18 = some ⟨oc18, od18, .func (PySem.W.fnOf "_law_many_inputs" "_law_many_inputs" (defArgs s_l_many_inputs) (defBody s_l_many_inputs) (defScope s_l_many_inputs) .none kV18 dc18 pm18 an18 cd18 ct18), sl18⟩) (c18 : PySem.W.codeIn K cd18 "_law_many_inputs" = true) (k18 : PySem.W.keepIn K (.ref f18) = true)
    {od19 an19 : Option Addr} {sl19 : Array (Option Value)} {f19 : Addr} {oc19 kV19 dc19 pm19 cd19 ct19 : Value}
    (a19 : PySem.W.nsIn K mainGlobals "_law_plan" = some (some (.ref f19))) (l19 : K.lookup f19 = some ⟨oc19, od19, .func (PySem.W.fnOf "_law_plan" "_law_plan" (defArgs s_l_plan) (defBody s_l_plan) (defScope s_l_plan) .none kV19 dc19 pm19 an19 cd19 ct19), sl19⟩) (c19 : PySem.W.codeIn K cd19 "_law_plan" = true) (k19 : PySem.W.keepIn K (.ref f19) = true)
    {od20 an20 : Option Addr} {sl20 : Array (Option Value)} {f20 : Addr} {oc20 kV20 dc20 pm20 cd20 ct20 : Value}
    (a20 : PySem.W.nsIn K mainGlobals "_law_things" = some (some (.ref f20))) (l20 : K.lookup f20 = some ⟨oc20, od20, .func (PySem.W.fnOf "_law_things" "_law_things" (defArgs s_l_things) (defBody s_l_things) (defScope s_l_things) .none kV20 dc20 pm20 an20 cd20 ct20), sl20⟩) (c20 : PySem.W.codeIn K cd20 "_law_things" = true) (k20 : PySem.W.keepIn K (.ref f20) = true)
    {od21 an21 : Option Addr} {sl21 : Array (Option Value)} {f21 : Addr} {oc21 kV21 dc21 pm21 cd21 ct21 : Value}
    (a21 : PySem.W.nsIn K mainGlobals "_law_drawn" = some (some (.ref f21))) (l21 : K.lookup f21 = some ⟨oc21, od21, .func (PySem.W.fnOf "_law_drawn" "_law_drawn" (defArgs s_l_drawn) (defBody s_l_drawn) (defScope s_l_drawn) .none kV21 dc21 pm21 an21 cd21 ct21), sl21⟩) (c21 : PySem.W.codeIn K cd21 "_law_drawn" = true) (k21 : PySem.W.keepIn K (.ref f21) = true)
    {od22 an22 : Option Addr} {sl22 : Array (Option Value)} {f22 : Addr} {oc22 kV22 dc22 pm22 cd22 ct22 : Value}
    (a22 : PySem.W.nsIn K mainGlobals "_law_row" = some (some (.ref f22))) (l22 : K.lookup f22 = some ⟨oc22, od22, .func (PySem.W.fnOf "_law_row" "_law_row" (defArgs s_l_row) (defBody s_l_row) (defScope s_l_row) .none kV22 dc22 pm22 an22 cd22 ct22), sl22⟩) (c22 : PySem.W.codeIn K cd22 "_law_row" = true) (k22 : PySem.W.keepIn K (.ref f22) = true)
    {od23 an23 : Option Addr} {sl23 : Array (Option Value)} {f23 : Addr} {oc23 kV23 dc23 pm23 cd23 ct23 : Value}
    (a23 : PySem.W.nsIn K mainGlobals "_law_least" = some (some (.ref f23))) (l23 : K.lookup f23 = some ⟨oc23, od23, .func (PySem.W.fnOf "_law_least" "_law_least" (defArgs s_l_least) (defBody s_l_least) (defScope s_l_least) .none kV23 dc23 pm23 an23 cd23 ct23), sl23⟩) (c23 : PySem.W.codeIn K cd23 "_law_least" = true) (k23 : PySem.W.keepIn K (.ref f23) = true)
    {od24 an24 : Option Addr} {sl24 : Array (Option Value)} {f24 : Addr} {oc24 kV24 dc24 pm24 cd24 ct24 : Value}
    (a24 : PySem.W.nsIn K mainGlobals "_law_exact" = some (some (.ref f24))) (l24 : K.lookup f24 = some ⟨oc24, od24, .func (PySem.W.fnOf "_law_exact" "_law_exact" (defArgs s_l_exact) (defBody s_l_exact) (defScope s_l_exact) .none kV24 dc24 pm24 an24 cd24 ct24), sl24⟩) (c24 : PySem.W.codeIn K cd24 "_law_exact" = true) (k24 : PySem.W.keepIn K (.ref f24) = true)
    {od25 an25 : Option Addr} {sl25 : Array (Option Value)} {f25 : Addr} {oc25 kV25 dc25 pm25 cd25 ct25 : Value}
    (a25 : PySem.W.nsIn K mainGlobals "_law_shares" = some (some (.ref f25))) (l25 : K.lookup f25 = some ⟨oc25, od25, .func (PySem.W.fnOf "_law_shares" "_law_shares" (defArgs s_l_shares) (defBody s_l_shares) (defScope s_l_shares) .none kV25 dc25 pm25 an25 cd25 ct25), sl25⟩) (c25 : PySem.W.codeIn K cd25 "_law_shares" = true) (k25 : PySem.W.keepIn K (.ref f25) = true)
    {od26 an26 : Option Addr} {sl26 : Array (Option Value)} {f26 : Addr} {oc26 kV26 dc26 pm26 cd26 ct26 : Value}
    (a26 : PySem.W.nsIn K mainGlobals "_law_form" = some (some (.ref f26))) (l26 : K.lookup f26 = some ⟨oc26, od26, .func (PySem.W.fnOf "_law_form" "_law_form" (defArgs s_l_form) (defBody s_l_form) (defScope s_l_form) .none kV26 dc26 pm26 an26 cd26 ct26), sl26⟩) (c26 : PySem.W.codeIn K cd26 "_law_form" = true) (k26 : PySem.W.keepIn K (.ref f26) = true)
    {od27 an27 : Option Addr} {sl27 : Array (Option Value)} {f27 : Addr} {oc27 kV27 dc27 pm27 cd27 ct27 : Value}
    (a27 : PySem.W.nsIn K mainGlobals "_law_other" = some (some (.ref f27))) (l27 : K.lookup f27 = some ⟨oc27, od27, .func (PySem.W.fnOf "_law_other" "_law_other" (defArgs s_l_other) (defBody s_l_other) (defScope s_l_other) .none kV27 dc27 pm27 an27 cd27 ct27), sl27⟩) (c27 : PySem.W.codeIn K cd27 "_law_other" = true) (k27 : PySem.W.keepIn K (.ref f27) = true)
    {od28 an28 : Option Addr} {sl28 : Array (Option Value)} {f28 : Addr} {oc28 kV28 dc28 pm28 cd28 ct28 : Value}
    (a28 : PySem.W.nsIn K mainGlobals "_law_is_right" = some (some (.ref f28))) (l28 : K.lookup f28 = some ⟨oc28, od28, .func (PySem.W.fnOf "_law_is_right" "_law_is_right" (defArgs s_l_is_right) (defBody s_l_is_right) (defScope s_l_is_right) .none kV28 dc28 pm28 an28 cd28 ct28), sl28⟩) (c28 : PySem.W.codeIn K cd28 "_law_is_right" = true) (k28 : PySem.W.keepIn K (.ref f28) = true)
    {od29 an29 : Option Addr} {sl29 : Array (Option Value)} {f29 : Addr} {oc29 kV29 dc29 pm29 cd29 ct29 : Value}
    (a29 : PySem.W.nsIn K mainGlobals "_law_seen" = some (some (.ref f29))) (l29 : K.lookup f29 = some ⟨oc29, od29, .func (PySem.W.fnOf "_law_seen" "_law_seen" (defArgs s_l_seen) (defBody s_l_seen) (defScope s_l_seen) .none kV29 dc29 pm29 an29 cd29 ct29), sl29⟩) (c29 : PySem.W.codeIn K cd29 "_law_seen" = true) (k29 : PySem.W.keepIn K (.ref f29) = true)
    {od30 an30 : Option Addr} {sl30 : Array (Option Value)} {f30 : Addr} {oc30 kV30 dc30 pm30 cd30 ct30 : Value}
    (a30 : PySem.W.nsIn K mainGlobals "_law_are_mingled" = some (some (.ref f30))) (l30 : K.lookup f30 = some ⟨oc30, od30, .func (PySem.W.fnOf "_law_are_mingled" "_law_are_mingled" (defArgs s_l_are_mingled) (defBody s_l_are_mingled) (defScope s_l_are_mingled) .none kV30 dc30 pm30 an30 cd30 ct30), sl30⟩) (c30 : PySem.W.codeIn K cd30 "_law_are_mingled" = true) (k30 : PySem.W.keepIn K (.ref f30) = true)
    {od31 an31 : Option Addr} {sl31 : Array (Option Value)} {f31 : Addr} {oc31 kV31 dc31 pm31 cd31 ct31 : Value}
    (a31 : PySem.W.nsIn K mainGlobals "law" = some (some (.ref f31))) (l31 : K.lookup f31 = some ⟨oc31, od31, .func (PySem.W.fnOf "law" "law" (defArgs s_law) (defBody s_law) (defScope s_law) .none kV31 dc31 pm31 an31 cd31 ct31), sl31⟩) (c31 : PySem.W.codeIn K cd31 "law" = true) (k31 : PySem.W.keepIn K (.ref f31) = true)
    (z_abs : PySem.W.nsIn K mainGlobals "abs" = some none)
    (z_enumerate : PySem.W.nsIn K mainGlobals "enumerate" = some none)
    (z_int : PySem.W.nsIn K mainGlobals "int" = some none)
    (z_isinstance : PySem.W.nsIn K mainGlobals "isinstance" = some none)
    (z_len : PySem.W.nsIn K mainGlobals "len" = some none)
    (z_list : PySem.W.nsIn K mainGlobals "list" = some none)
    (z_min : PySem.W.nsIn K mainGlobals "min" = some none)
    (z_range : PySem.W.nsIn K mainGlobals "range" = some none)
    (z_repr : PySem.W.nsIn K mainGlobals "repr" = some none)
    (z_sorted : PySem.W.nsIn K mainGlobals "sorted" = some none)
    (z_sum : PySem.W.nsIn K mainGlobals "sum" = some none)
    (z_tuple : PySem.W.nsIn K mainGlobals "tuple" = some none)
    (z_zip : PySem.W.nsIn K mainGlobals "zip" = some none)
    (v_gcd : PySem.W.nsIn K mainGlobals "gcd" = some (some (.builtin "math.gcd")))
    : LawAtG l w K 48 63 "script" mg fa h := by
  have e := hfa.symm.trans (PySem.W.mg_of X G.T.g a31)
  cases e
  have T : ∃ T : Tx K mg, T.f_law = fa ∧ T.fd_law = PySem.W.fnOf "law" "law" (defArgs s_law) (defBody s_law) (defScope s_law) .none kV31 dc31 pm31 an31 cd31 ct31 := ⟨{ f_is_stage := f0, fd_is_stage := _, F_is_stage := fun_mk (st := s_is_stage) l0 c0 k0, g_is_stage := PySem.W.mg_of X G.T.g a0, f_fraction_of := f1, fd_fraction_of := _, F_fraction_of := fun_mk (st := s_fraction_of) l1 c1 k1, g_fraction_of := PySem.W.mg_of X G.T.g a1, f_scaled := f2, fd_scaled := _, F_scaled := fun_mk (st := s_scaled) l2 c2 k2, g_scaled := PySem.W.mg_of X G.T.g a2, f_sum_of := f3, fd_sum_of := _, F_sum_of := fun_mk (st := s_sum_of) l3 c3 k3, g_sum_of := PySem.W.mg_of X G.T.g a3, f_things_with_shares := f4, fd_things_with_shares := _, F_things_with_shares := fun_mk (st := s_things_with_shares) l4 c4 k4, g_things_with_shares := PySem.W.mg_of X G.T.g a4, f_stages_with_shares := f5, fd_stages_with_shares := _, F_stages_with_shares := fun_mk (st := s_stages_with_shares) l5 c5 k5, g_stages_with_shares := PySem.W.mg_of X G.T.g a5, f_shares_of := f6, fd_shares_of := _, F_shares_of := fun_mk (st := s_shares_of) l6 c6 k6, g_shares_of := PySem.W.mg_of X G.T.g a6, f_form_of := f7, fd_form_of := _, F_form_of := fun_mk (st := s_form_of) l7 c7 k7, g_form_of := PySem.W.mg_of X G.T.g a7, f_exact_of_thing := f8, fd_exact_of_thing := _, F_exact_of_thing := fun_mk (st := s_exact_of_thing) l8 c8 k8, g_exact_of_thing := PySem.W.mg_of X G.T.g a8, f_exact_of := f9, fd_exact_of := _, F_exact_of := fun_mk (st := s_exact_of) l9 c9 k9, g_exact_of := PySem.W.mg_of X G.T.g a9, f_l_deck := f10, fd_l_deck := _, F_l_deck := fun_mk (st := s_l_deck) l10 c10 k10, g_l_deck := PySem.W.mg_of X G.T.g a10, f_l_draw := f11, fd_l_draw := _, F_l_draw := fun_mk (st := s_l_draw) l11 c11 k11, g_l_draw := PySem.W.mg_of X G.T.g a11, f_l_pick := f12, fd_l_pick := _, F_l_pick := fun_mk (st := s_l_pick) l12 c12 k12, g_l_pick := PySem.W.mg_of X G.T.g a12, f_l_mixed := f13, fd_l_mixed := _, F_l_mixed := fun_mk (st := s_l_mixed) l13 c13 k13, g_l_mixed := PySem.W.mg_of X G.T.g a13, f_l_shape := f14, fd_l_shape := _, F_l_shape := fun_mk (st := s_l_shape) l14 c14 k14, g_l_shape := PySem.W.mg_of X G.T.g a14, f_l_divisor_of := f15, fd_l_divisor_of := _, F_l_divisor_of := fun_mk (st := s_l_divisor_of) l15 c15 k15, g_l_divisor_of := PySem.W.mg_of X G.T.g a15, f_l_weights := f16, fd_l_weights := _, F_l_weights := fun_mk (st := s_l_weights) l16 c16 k16, g_l_weights := PySem.W.mg_of X G.T.g a16, f_l_stage := f17, fd_l_stage := _, F_l_stage := fun_mk (st := s_l_stage) l17 c17 k17, g_l_stage := PySem.W.mg_of X G.T.g a17, f_l_many_inputs := f18, fd_l_many_inputs := _, F_l_many_inputs := fun_mk (st := s_l_many_inputs) l18 c18 k18, g_l_many_inputs := PySem.W.mg_of X G.T.g a18, f_l_plan := f19, fd_l_plan := _, F_l_plan := fun_mk (st := s_l_plan) l19 c19 k19, g_l_plan := PySem.W.mg_of X G.T.g a19, f_l_things := f20, fd_l_things := _, F_l_things := fun_mk (st := s_l_things) l20 c20 k20, g_l_things := PySem.W.mg_of X G.T.g a20, f_l_drawn := f21, fd_l_drawn := _, F_l_drawn := fun_mk (st := s_l_drawn) l21 c21 k21, g_l_drawn := PySem.W.mg_of X G.T.g a21, f_l_row := f22, fd_l_row := _, F_l_row := fun_mk (st := s_l_row) l22 c22 k22, g_l_row := PySem.W.mg_of X G.T.g a22, f_l_least := f23, fd_l_least := _, F_l_least := fun_mk (st := s_l_least) l23 c23 k23, g_l_least := PySem.W.mg_of X G.T.g a23, f_l_exact := f24, fd_l_exact := _, F_l_exact := fun_mk (st := s_l_exact) l24 c24 k24, g_l_exact := PySem.W.mg_of X G.T.g a24, f_l_shares := f25, fd_l_shares := _, F_l_shares := fun_mk (st := s_l_shares) l25 c25 k25, g_l_shares := PySem.W.mg_of X G.T.g a25, f_l_form := f26, fd_l_form := _, F_l_form := fun_mk (st := s_l_form) l26 c26 k26, g_l_form := PySem.W.mg_of X G.T.g a26, f_l_other := f27, fd_l_other := _, F_l_other := fun_mk (st := s_l_other) l27 c27 k27, g_l_other := PySem.W.mg_of X G.T.g a27, f_l_is_right := f28, fd_l_is_right := _, F_l_is_right := fun_mk (st := s_l_is_right) l28 c28 k28, g_l_is_right := PySem.W.mg_of X G.T.g a28, f_l_seen := f29, fd_l_seen := _, F_l_seen := fun_mk (st := s_l_seen) l29 c29 k29, g_l_seen := PySem.W.mg_of X G.T.g a29, f_l_are_mingled := f30, fd_l_are_mingled := _, F_l_are_mingled := fun_mk (st := s_l_are_mingled) l30 c30 k30, g_l_are_mingled := PySem.W.mg_of X G.T.g a30, f_law := fa, fd_law := _, F_law := fun_mk (st := s_law) l31 c31 k31, g_law := PySem.W.mg_of X G.T.g a31, m_abs := PySem.W.mg_none_of X G.T.g z_abs, m_enumerate := PySem.W.mg_none_of X G.T.g z_enumerate, m_int := PySem.W.mg_none_of X G.T.g z_int, m_isinstance := PySem.W.mg_none_of X G.T.g z_isinstance, m_len := PySem.W.mg_none_of X G.T.g z_len, m_list := PySem.W.mg_none_of X G.T.g z_list, m_min := PySem.W.mg_none_of X G.T.g z_min, m_range := PySem.W.mg_none_of X G.T.g z_range, m_repr := PySem.W.mg_none_of X G.T.g z_repr, m_sorted := PySem.W.mg_none_of X G.T.g z_sorted, m_sum := PySem.W.mg_none_of X G.T.g z_sum, m_tuple := PySem.W.mg_none_of X G.T.g z_tuple, m_zip := PySem.W.mg_none_of X G.T.g z_zip, c_gcd := PySem.W.mg_of X G.T.g v_gcd }, rfl, rfl⟩
  obtain ⟨T, e1, e2⟩ := T
  refine ⟨T.fd_law, [], spLaw K, (fun p hp => nomatch hp), (fun p hp => nomatch hp), (fun p hp => nomatch hp), fun s u => by rw [e2]; exact .of_eq rfl, fun H a ns hl hz hH hS => ⟨a, ns, rfl, hS, hl, fun _ => rfl⟩, fun base _ _ hT nd => ?_⟩
  have := ok_law T (P := l.prog) (w := w) (base := base) 
  rw [e1] at this
  exact this
end SC
open PySem PySem.W PyProof.Rows
set_option maxHeartbeats 0 in
theorem PySem.Challenge.cw_stagecuts_k07_whole_shares_and_forms_holds : PySem.Challenge.rw_stagecuts_k07_whole_shares_and_forms.Holds := by
  w_on; o_law; k_head; (case hw => w_witness2)
  k_fill
  refine SC.walk_ofG (l := PySem.Challenge.rw_stagecuts_k07_whole_shares_and_forms) (n := 63) (k := 48) (x := "script") rfl (by decide) rfl ⟨rfl, by decide, by decide⟩ (fun w h Y => PySem.W.kIn_of Y) ?F
  case F =>
    intro w s₀ mg mb fa h G Y KX hmg
    refine' SC.all_mk G KX hmg ?a0 ?l0 ?c0 ?k0 ?a1 ?l1 ?c1 ?k1 ?a2 ?l2 ?c2 ?k2 ?a3 ?l3 ?c3 ?k3 ?a4 ?l4 ?c4 ?k4 ?a5 ?l5 ?c5 ?k5 ?a6 ?l6 ?c6 ?k6 ?a7 ?l7 ?c7 ?k7 ?a8 ?l8 ?c8 ?k8 ?a9 ?l9 ?c9 ?k9 ?a10 ?l10 ?c10 ?k10 ?a11 ?l11 ?c11 ?k11 ?a12 ?l12 ?c12 ?k12 ?a13 ?l13 ?c13 ?k13 ?a14 ?l14 ?c14 ?k14 ?a15 ?l15 ?c15 ?k15 ?a16 ?l16 ?c16 ?k16 ?a17 ?l17 ?c17 ?k17 ?a18 ?l18 ?c18 ?k18 ?a19 ?l19 ?c19 ?k19 ?a20 ?l20 ?c20 ?k20 ?a21 ?l21 ?c21 ?k21 ?a22 ?l22 ?c22 ?k22 ?a23 ?l23 ?c23 ?k23 ?a24 ?l24 ?c24 ?k24 ?a25 ?l25 ?c25 ?k25 ?a26 ?l26 ?c26 ?k26 ?a27 ?l27 ?c27 ?k27 ?a28 ?l28 ?c28 ?k28 ?a29 ?l29 ?c29 ?k29 ?a30 ?l30 ?c30 ?k30 ?a31 ?l31 ?c31 ?k31 ?z_abs ?z_enumerate ?z_int ?z_isinstance ?z_len ?z_list ?z_min ?z_range ?z_repr ?z_sorted ?z_sum ?z_tuple ?z_zip ?v_gcd
    (case a0 => k_is); (case l0 => k_is); (case c0 => k_is); (case k0 => k_is); (case a1 => k_is); (case l1 => k_is); (case c1 => k_is); (case k1 => k_is); (case a2 => k_is); (case l2 => k_is); (case c2 => k_is); (case k2 => k_is); (case a3 => k_is); (case l3 => k_is); (case c3 => k_is); (case k3 => k_is); (case a4 => k_is); (case l4 => k_is); (case c4 => k_is); (case k4 => k_is); (case a5 => k_is); (case l5 => k_is); (case c5 => k_is); (case k5 => k_is); (case a6 => k_is); (case l6 => k_is); (case c6 => k_is); (case k6 => k_is); (case a7 => k_is); (case l7 => k_is); (case c7 => k_is); (case k7 => k_is); (case a8 => k_is); (case l8 => k_is); (case c8 => k_is); (case k8 => k_is); (case a9 => k_is); (case l9 => k_is); (case c9 => k_is); (case k9 => k_is); (case a10 => k_is); (case l10 => k_is); (case c10 => k_is); (case k10 => k_is); (case a11 => k_is); (case l11 => k_is); (case c11 => k_is); (case k11 => k_is); (case a12 => k_is); (case l12 => k_is); (case c12 => k_is); (case k12 => k_is); (case a13 => k_is); (case l13 => k_is); (case c13 => k_is); (case k13 => k_is); (case a14 => k_is); (case l14 => k_is); (case c14 => k_is); (case k14 => k_is); (case a15 => k_is); (case l15 => k_is); (case c15 => k_is); (case k15 => k_is); (case a16 => k_is); (case l16 => k_is); (case c16 => k_is); (case k16 => k_is); (case a17 => k_is); (case l17 => k_is); (case c17 => k_is); (case k17 => k_is); (case a18 => k_is); (case l18 => k_is); (case c18 => k_is); (case k18 => k_is); (case a19 => k_is); (case l19 => k_is); (case c19 => k_is); (case k19 => k_is); (case a20 => k_is); (case l20 => k_is); (case c20 => k_is); (case k20 => k_is); (case a21 => k_is); (case l21 => k_is); (case c21 => k_is); (case k21 => k_is); (case a22 => k_is); (case l22 => k_is); (case c22 => k_is); (case k22 => k_is); (case a23 => k_is); (case l23 => k_is); (case c23 => k_is); (case k23 => k_is); (case a24 => k_is); (case l24 => k_is); (case c24 => k_is); (case k24 => k_is); (case a25 => k_is); (case l25 => k_is); (case c25 => k_is); (case k25 => k_is); (case a26 => k_is); (case l26 => k_is); (case c26 => k_is); (case k26 => k_is); (case a27 => k_is); (case l27 => k_is); (case c27 => k_is); (case k27 => k_is); (case a28 => k_is); (case l28 => k_is); (case c28 => k_is); (case k28 => k_is); (case a29 => k_is); (case l29 => k_is); (case c29 => k_is); (case k29 => k_is); (case a30 => k_is); (case l30 => k_is); (case c30 => k_is); (case k30 => k_is); (case a31 => k_is); (case l31 => k_is); (case c31 => k_is); (case k31 => k_is); (case z_abs => k_is); (case z_enumerate => k_is); (case z_int => k_is); (case z_isinstance => k_is); (case z_len => k_is); (case z_list => k_is); (case z_min => k_is); (case z_range => k_is); (case z_repr => k_is); (case z_sorted => k_is); (case z_sum => k_is); (case z_tuple => k_is); (case z_zip => k_is); (case v_gcd => k_is)
