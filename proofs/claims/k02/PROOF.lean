import PyProof.Rows.All
import Wide.All
import OpenK.AllK
import Wide.FinOn
import HandS.ForMost
import HandS.WideBits
import HandS.IsInst
import HandS.Strs
import HandS.SetFor
import HandS.Flow
import HandS.Style
import HandS.More
import HandS.Evl
import KE.SortData
import PyProof.ReprRoads
import HandS.Ends
import KE.KDictList
import PySem.Challenge.RW_eithersums_k02_whole_sums_put_together
set_option Elab.async false
set_option linter.all false
set_option maxRecDepth 100000
set_option maxHeartbeats 4000000
namespace Es
open PySem PySem.Spec PyProof.Rows L2
structure FnG (P : Program) (w : World) (K : PySem.W.Frag) (mg : Str → Option Value) (base : Heap)
    (k : Nat) (f : Addr) (fd : FuncData) (ps : List Str) (sp : Sp) : Prop where
  lenG : ∀ {vs H Q E}, sp vs H Q E → vs.length = ps.length
  runG : ∀ {B : Around} {out : List Env} {t : Shared} {G : Hp} {ar : Args} {xs : List Value} {ys : List V} {R : VK} {E : XK},
    Room k B → B.guards = some [] → Env0 P w K mg base B out t G → BindsTo t fd ar (ps.zip xs) → Vals ys xs → sp ys G R E →
    codeAny (model P w) B (.call (.ref f) ar) (CR CX0 out P w G t R E) t
section
variable {P : Program} {w : World} {K : PySem.W.Frag} {mg : Str → Option Value} {base : Heap}
theorem FnG.up {j k : Nat} {f : Addr} {fd : FuncData} {ps : List Str} {sp : Sp} (F : FnG P w K mg base j f fd ps sp) (h : j ≤ k) :
    FnG P w K mg base k f fd ps sp :=
  ⟨F.lenG, fun hr hg he hb hv hs => F.runG (hr.mono h) hg he hb hv hs⟩
theorem fng_of {k : Nat} {f : Addr} {nm ql : Str} {pr : Arguments} {bd : List Stmt} {sc : Scope} {dV kV doc pm cdv ct oc : Value}
    {an od : Option Addr} {osl : Array (Option Value)} {N ps : List Str} {sp : Sp}
    (look : K.lookup f = some ⟨oc, od, .func (PySem.W.fnOf nm ql pr bd sc dV kV doc pm an cdv ct), osl⟩)
    (cod : PySem.W.codeIn K cdv ql = true) (S : FnScope N ps sc)
    (ln : ∀ {vs H Q E}, sp vs H Q E → vs.length = ps.length)
    (body : ∀ (B : Around) (out : List Env) (t : Shared) (G : Hp) (ys : List V) (R : VK) (E : XK),
      Room k (B.deeper (envOfC ql sc t.heap.objs.size f cdv)) → B.guards = some [] → sp ys G R E →
      ∃ r, PSs (cxOf CX0 P w K mg base N ql sc f cdv B out t G E) bd r ∧ r { nx := fun _ G' => R .non G', rt := R } (start N ys) G) :
    FnG P w K mg base (k + 1) f (PySem.W.fnOf nm ql pr bd sc dV kV doc pm an cdv ct) ps sp := by
  refine ⟨ln, ?_⟩
  intro B out t G ar xs ys R E room gd env0 bind rel want
  have lens := ln want
  have keepB : ∀ b o, base.get? b = some o → t.heap.get? b = some o := fun b o e => (env0.bs b o e).1
  have inK : K.In t.heap := env0.mod.kin.keeps keepB
  have nolim : t.heap.NoLimit := env0.mod.nolimit.keeps keepB
  refine codeAny_call_function room.depth (inK _ _ look) rfl S.co S.gen rfl (PySem.W.codeRec_of inK cod) (bind _ _ _ _ ?_)
  refine wpAny_newFunctionEnv_cells S.kind (fun p hp => ?_) (fun ev hev t1 st => ?_)
  · obtain ⟨n, v⟩ := p
    cases S.par n (List.of_mem_zip hp).1 with
    | inl z => exact Or.inl z
    | inr z => exact Or.inr ⟨z, PySem.W.cellsFrom_some _ _ _ (Or.inl z)⟩
  · subst hev
    refine ⟨nolim.keeps st.toInCall.keep, codeAny_func ?_⟩
    obtain ⟨r, hr1, hr2⟩ := body B out t G ys R E (room.deeper _) gd want
    have J0 : Inv (cxOf CX0 P w K mg base N ql sc f cdv B out t G E) [] (start N ys) G t1 := inv_start S room.hd env0 lens rel st
    refine wpAny_mono (hr1.run [] t1 (start N ys) G _ J0 hr2) ?_ (fun e t2 h2 => h2)
    intro fl t2 h2
    have done : ∀ {σ2 : L2.St} {G2 : Hp} {v : V} {u : Value}, Inv (cxOf CX0 P w K mg base N ql sc f cdv B out t G E) [] σ2 G2 t2 → RelV v u → R v G2 → CE out P w G t R u t2 := by
      intro σ2 G2 v u J rv q
      exact ⟨v, G2, J.os, J.bare, J.base, J.hok, rv, q⟩
    cases fl with
    | next => obtain ⟨σ2, G2, J, q⟩ := h2; exact done (v := V.non) (u := Value.none) J rfl q
    | ret u => obtain ⟨v, σ2, G2, J, rv, q⟩ := h2; exact done J rv q
    | brk => obtain ⟨_, _, _, q⟩ := h2; exact q.elim
    | cont => obtain ⟨_, _, _, q⟩ := h2; exact q.elim
theorem okG {x qual : Str} {st : Stmt} {f : Addr} {fd : FuncData} {N ps : List Str} {k : Nat} {sp : Sp} (F : Fun K x qual st f fd) (S : FnScope N ps (defScope st))
    (ln : ∀ {vs H Q E}, sp vs H Q E → vs.length = ps.length)
    (body : ∀ (cdv : Value) (B : Around) (out : List Env) (t : Shared) (G : Hp) (ys : List V) (R : VK) (E : XK),
      Room k (B.deeper (envOfC qual (defScope st) t.heap.objs.size f cdv)) → (B.deeper (envOfC qual (defScope st) t.heap.objs.size f cdv)).guards = some [] → sp ys G R E →
      ∃ r, PSs (cxOf CX0 P w K mg base N qual (defScope st) f cdv B out t G E).nox (defBody st) r ∧ r { nx := fun _ G' => R .non G', rt := R } (start N ys) G) :
    FnG P w K mg base (k + 1) f fd ps sp := by
  obtain ⟨oc, od, kV, doc, pm, an, cdv, ct, osl, rfl, lk, hcd⟩ := F.ex
  refine fng_of lk hcd S ln ?_
  intro B out t G ys R E hr hg want
  obtain ⟨r, h1, h2⟩ := body cdv B out t G ys R E hr hg want
  exact ⟨r, h1.nox, h2⟩
end
section
variable {X : Cx} {k : Nat} {f : Addr} {fd : FuncData} {ps : List Str} {sp : Sp} {x : Str} {p pos : Pos} {e : Expr} {es : List Expr} {t : TA}
theorem runG_call {pins : List (Addr × Obj)} {σ : L2.St} {H : Hp} {s : Shared} {Q : VK} {us : List Value} {vs : List V} (F : FnG X.prog X.w X.K X.mg X.base k f fd ps sp)
    (hr : Room k X.A) (hg : X.A.guards = some []) (hb : Binds X.K fd ps []) (I : Inv X pins σ H s) (r : Vals vs us) (h : sp vs H Q E0) :
    wpAny (model X.prog X.w) X.A (call (.ref f) us) (EP X pins σ Q) X.xe s := by
  have l1 : (us ++ []).length = ps.length := by
    rw [List.append_nil, ← r.length]
    exact F.lenG h
  have b1 := hb s us I.kIn l1
  rw [List.append_nil] at b1
  refine wpAny_call (codeAny_mono (F.runG hr hg I.env0 b1 r h) ?_)
  intro z s' hz
  cases z with
  | error e => exact False.elim hz
  | ok fl =>
    cases fl with
    | ret u => exact I.after hz
    | next => exact False.elim hz
    | brk => exact False.elim hz
    | cont => exact False.elim hz
theorem pe_callG (F : FnG X.prog X.w X.K X.mg X.base k f fd ps sp) (hr : Room k X.A) (hg : X.A.guards = some []) (hgl : Gl X x) (hm : X.mg x = some (.ref f)) (hk : PySem.W.keepIn X.K (.ref f) = true)
    (hb : Binds X.K fd ps []) (ha : PA X (e :: es) t) (hd : (x == ("__debug__" : Str)) = false := by decide)
    (h1 : starEach (e :: es) X.env = (false, eval e X.env) :: starEach es X.env := by rfl) (h2 : (backTo pos (starEach es X.env)).any (·.1) = false := by rfl) :
    PE X (.Call (.Name x p) (e :: es) [] pos) (tCall sp [] E0 t) := by
  refine ⟨fun pins s σ H Q I h => ?_⟩
  refine wpAny_Call_Name_kw (ld_glob I hgl hm ?_ hd)
  refine PySem.W.callWith_K (h₀ := X.base) I.ok.mod.kin hk ?_ h1 h2
  refine thn (ha.run pos pins s σ H _ I h) ?_
  rintro us s1 ⟨vs, H1, I1, r, q⟩
  refine ⟨I1.kIn, ?_⟩
  have q : sp (vs ++ []) H1 Q E0 := q
  rw [List.append_nil] at q
  exact runG_call F hr hg hb I1 r q
end
end Es
set_option Elab.async false
set_option linter.all false
set_option maxRecDepth 100000
set_option maxHeartbeats 4000000
namespace Es
open PySem PySem.Spec PyProof.Rows L2
def Callee (X : Cx) (k : Nat) (x : Str) (ps : List Str) (sp : Sp) : Prop :=
  ∃ (f : Addr) (fd : FuncData), FnG X.prog X.w X.K X.mg X.base k f fd ps sp ∧ X.mg x = some (.ref f) ∧ PySem.W.keepIn X.K (.ref f) = true ∧ Binds X.K fd ps []
def CalleeOf (P : Program) (w : World) (K : PySem.W.Frag) (mg : Str → Option Value) (base : Heap) (k : Nat) (x : Str) (ps : List Str) (sp : Sp) : Prop :=
  ∃ (f : Addr) (fd : FuncData), FnG P w K mg base k f fd ps sp ∧ mg x = some (.ref f) ∧ PySem.W.keepIn K (.ref f) = true ∧ Binds K fd ps []
section
variable {X : Cx} {k : Nat} {ps : List Str} {sp : Sp} {x : Str} {p pos : Pos} {e : Expr} {es : List Expr} {t : TA}
theorem pe_callC (c : CalleeOf X.prog X.w X.K X.mg X.base k x ps sp) (hr : Room k X.A) (hg : X.A.guards = some []) (hgl : Gl X x) (ha : PA X (e :: es) t) (hd : (x == ("__debug__" : Str)) = false := by decide)
    (h1 : starEach (e :: es) X.env = (false, eval e X.env) :: starEach es X.env := by rfl) (h2 : (backTo pos (starEach es X.env)).any (·.1) = false := by rfl) :
    PE X (.Call (.Name x p) (e :: es) [] pos) (tCall sp [] E0 t) := by
  obtain ⟨f, fd, F, hm, hk, hb⟩ := c
  exact pe_callG F hr hg hgl hm hk hb ha hd h1 h2
end
mutual
def nice : PyData → Bool
  | .none => true
  | .bool _ => true
  | .int i => decide (i.natAbs < 10 ^ 12)
  | .str x => PyData.strOk x && x.cps.toList.all fun c => decide (c < 16 ^ 8)
  | .list xs => niceAll xs
  | .tuple xs => niceAll xs
  | .dict _ => false
def niceAll : List PyData → Bool
  | [] => true
  | x :: xs => nice x && niceAll xs
end
theorem niceAll_iff : ∀ {xs : List PyData}, niceAll xs = true ↔ ∀ x ∈ xs, nice x = true
  | [] => by simp [niceAll]
  | x :: xs => by simp [niceAll, niceAll_iff (xs := xs)]
theorem log_nice {i : Int} (h : i.natAbs < 10 ^ 12) : i.natAbs.log2 < 1920 := by
  by_cases h0 : i.natAbs = 0
  · rw [h0]
    decide
  · have : i.natAbs.log2 < 40 := (Nat.log2_lt h0).mpr (Nat.lt_of_lt_of_le h (by decide))
    omega
mutual
theorem nice_facts : ∀ d : PyData, nice d = true → d.canLay0 = true ∧ d.showable = true ∧ d.hasDict = false ∧ d.leavesShort 13 = true
  | .none, _ => by decide
  | .bool b, _ => by cases b <;> decide
  | .int i, h => by
    have h : i.natAbs < 10 ^ 12 := of_decide_eq_true h
    refine ⟨?_, decide_eq_true (log_nice h), rfl, decide_eq_true (PyData.shown_int_le h)⟩
    simp [PyData.canLay0]
  | .str x, h => by
    have h : (PyData.strOk x && x.cps.toList.all fun c => decide (c < 16 ^ 8)) = true := h
    rw [Bool.and_eq_true] at h
    exact ⟨by simpa [PyData.canLay0] using h.1, rfl, rfl, h.2⟩
  | .list xs, h => by
    obtain ⟨a, b, c, d⟩ := niceAll_facts xs h
    exact ⟨by simpa [PyData.canLay0] using a, b, c, d⟩
  | .tuple xs, h => by
    obtain ⟨a, b, c, d⟩ := niceAll_facts xs h
    exact ⟨by simpa [PyData.canLay0] using a, b, c, d⟩
  | .dict _, h => by cases h
theorem niceAll_facts : ∀ xs : List PyData, niceAll xs = true → PyData.canLayAll0 xs = true ∧ PyData.showableAll xs = true ∧ PyData.hasDictAll xs = false ∧ PyData.leavesShortAll 13 xs = true
  | [], _ => by decide
  | x :: xs, h => by
    have h : (nice x && niceAll xs) = true := h
    rw [Bool.and_eq_true] at h
    obtain ⟨a, b, c, d⟩ := nice_facts x h.1
    obtain ⟨a2, b2, c2, d2⟩ := niceAll_facts xs h.2
    refine ⟨by simp [PyData.canLayAll0, a, a2], by simp [PyData.showableAll, b, b2], by simp [PyData.hasDictAll, c, c2], by simp [PyData.leavesShortAll, d, d2]⟩
end
theorem nice_shaped {d : PyData} (h : nice d = true) (hd : d.depth ≤ 40) : SeqAt.shaped d = true := by
  unfold SeqAt.shaped
  rw [(nice_facts d h).1, Bool.true_and]
  exact decide_eq_true (by omega)
section
variable {X : Cx}
def rAtL (K : PySem.W.Frag) : V → V → Hp → VK → Prop := fun x y H Q => ∃ (p : Addr) (xs : List V) (i : Nat) (v : V), x = .ref p ∧ y = .int (i : Int) ∧ SqL K H p xs ∧ xs[i]? = some v ∧ Q v H
theorem get_list : PGet X (rAtL X.K) := by
  intro pins s σ H o i ov iv Q I ro ri h
  obtain ⟨p, xs, j, v, rfl, rfl, hs, ha, q⟩ := h
  cases ro
  obtain ⟨t, rfl⟩ := ri
  obtain ⟨its, r, pl, hz⟩ := I.list hs
  obtain ⟨u, hu, ru⟩ := r.get ha
  have hj : j < its.length := (List.getElem?_eq_some_iff.mp hu).1
  have hl := r.length
  have hn := line63
  refine wpAny_getItem_list (x := u) pl.isList (by omega) ?_ (by simpa using hu) ⟨v, H, I, ru, q⟩
  omega
def rReprN (K : PySem.W.Frag) : List V → Hp → VK → Prop := fun xs H Q =>
  ∃ v d, xs = [v] ∧ Dp K H v d ∧ nice d = true ∧ d.depth ≤ 40 ∧ d.weight ≤ 2 ^ 20 ∧ Q (.str d.shown) H
theorem cr_repr (hg : X.A.guards = some []) (hu : X.A.units + 64 < cLine) : CallR X (.builtin "repr") (rReprN X.K) := by
  intro pins s σ H xs us Q I r h
  obtain ⟨v, d, rfl, hd, ni, dp, wt, q⟩ := h
  obtain ⟨u, rfl, ru⟩ := vals1 r
  obtain ⟨c1, c2, c3, c4⟩ := nice_facts d ni
  have fit : d.shown.length ≤ sizeLine := PyData.shown_fits (B := 13) (by decide) (by decide) c4 wt
  obtain ⟨as, rd⟩ := Dp.reads I d v u hd ru
  have endIt : ∀ (h' : Heap) (w tk : Tok), (∀ b o, s.heap.get? b = some o → h'.get? b = some o) → EP X pins σ Q (.str d.shown w) { s with heap := h', toks := tk } :=
    fun h' w tk k => ⟨.str d.shown, H, I.kept k, ⟨w, rfl⟩, q⟩
  cases hd with
  | non =>
    cases ru
    refine PySem.P.repr_of_none ?_
    have := endIt s.heap s.toks (s.toks + 1) fun _ _ e => e
    rwa [PyData.shown_none] at this
  | bl b =>
    cases ru
    refine PySem.P.repr_of_bool ?_
    have := endIt s.heap s.toks (s.toks + 1) fun _ _ e => e
    rwa [PyData.shown_bool] at this
  | int i =>
    obtain ⟨t, rfl⟩ := ru
    refine PySem.P.repr_of_int (log_nice (of_decide_eq_true ni)) ?_
    have := endIt s.heap s.toks (s.toks + 1) fun _ _ e => e
    rwa [PyData.shown_int] at this
  | str x =>
    obtain ⟨t, rfl⟩ := ru
    refine PySem.P.repr_of_str ?_ (by rw [← PyData.shown_str]; exact fit)
    have := endIt s.heap s.toks (s.toks + 1) fun _ _ e => e
    rwa [PyData.shown_str] at this
  | lst h1 h2 =>
    cases ru
    exact repr_of_reads' rd c2 (PyData.noDict_hsm c3) hg (by omega) (fun _ _ e => e) endIt fit
  | tup h1 h2 =>
    cases ru
    exact repr_of_reads' rd c2 (PyData.noDict_hsm c3) hg (by omega) (fun _ _ e => e) endIt fit
def rSetI (K : PySem.W.Frag) (w : World) : List V → Hp → VK → Prop := fun xs H Q =>
  ∃ (a : Addr) (ns : List Int), xs = [.ref a] ∧ SqT K H a (ns.map V.int) ∧ ns.length ≤ 1000 ∧
    ∀ p c, H p = none → c ≤ ns.length → Q (.ref p) (upd H p (SetO w p (fun j => decide (j ∈ ns)) c))
theorem cr_setSeq (hc : X.calm = true) : CallR X (.type "set") (rSetI X.K X.w) := by
  intro pins s σ H xs us Q I r h
  obtain ⟨a, ns, rfl, ht, hl, q⟩ := h
  rw [Vals.ref1 r]
  obtain ⟨its, rv, pt, hz⟩ := I.tuple ht
  have hi : IntsAre its.toArray.toList ns := ints_of_vals rv
  refine call_set_tupI ns (I.ok.hd hc) (show s.heap.IsTuple a its.toArray from pt) hi (by unfold scanBound; omega) ?_
  intro h' tk c R1 hcn kp
  refine ⟨.ref s.heap.objs.size, upd H s.heap.objs.size (SetO X.w s.heap.objs.size (fun j => decide (j ∈ ns)) c), ?_, rfl, q _ c (I.hok.fresh (Nat.le_refl _)) hcn⟩
  exact I.laid (t' := tk) kp (Nat.le_refl _) (setO_new R1)
def rSortedData (K : PySem.W.Frag) : List V → Hp → VK → Prop := fun xs H Q =>
  ∃ (a : Addr) (bs : List (V × PyData)), xs = [.ref a] ∧ SqL K H a (bs.map (·.1)) ∧ (∀ b ∈ bs, Dp K H b.1 b.2) ∧ PySem.W.AllAlike (bs.map (·.2)) ∧ PySem.W.Sortable (bs.map (·.2)) ∧ (∀ b ∈ bs, b.2.depth ≤ 40) ∧
    ∀ p, H p = none → Q (.ref p) (upd H p (.lst ((bs.mergeSort (PySem.W.dataLe false (·.2))).map (·.1))))
theorem each_of {K : PySem.W.Frag} {H : Hp} {pins : List (Addr × Obj)} {σ : L2.St} {s : Shared} (I : Inv X pins σ H s) : ∀ (bs : List (V × PyData)) (its : List Value), Vals (bs.map (·.1)) its → (∀ b ∈ bs, Dp X.K H b.1 b.2) →
    PySem.W.EachIs (fun u (b : V × PyData) => RelV b.1 u) its bs ∧ PySem.W.EachIs (fun u (b : V × PyData) => ∃ as, Reads s.heap u b.2 as) its bs
  | [], _, r, _ => by
    cases r
    exact ⟨.nil, .nil⟩
  | b :: bs, _, r, h => by
    cases r with
    | cons r1 r2 =>
      obtain ⟨e1, e2⟩ := each_of (K := K) I bs _ r2 fun x hx => h x (List.mem_cons_of_mem _ hx)
      exact ⟨.cons r1 e1, .cons (Dp.reads I _ _ _ (h b List.mem_cons_self) r1) e2⟩
theorem vals_each : ∀ {out : List Value} {bs : List (V × PyData)}, PySem.W.EachIs (fun u (b : V × PyData) => RelV b.1 u) out bs → Vals (bs.map (·.1)) out
  | _, _, .nil => .nil
  | _, _, .cons r t => .cons r (vals_each t)
theorem cr_sortedData (hu : X.A.units + 64 < cLine) : CallR X (.builtin "sorted") (rSortedData X.K) := by
  intro pins s σ H xs us Q I r h
  obtain ⟨a, bs, rfl, hs, hd, al, so, dp, q⟩ := h
  rw [Vals.ref1 r]
  obtain ⟨its, rv, pl, hz⟩ := I.list hs
  obtain ⟨e1, e2⟩ := each_of (K := X.K) I bs its rv hd
  have hz2 : bs.length ≤ sizeLine := by
    rw [List.length_map] at hz
    exact hz
  refine PySem.W.sorted_data pl.isList e1 e2 al so hz2 (fun b hb => by have := dp b hb; omega) ?_
  intro out ho eo
  have ro := vals_each eo
  obtain ⟨c, hc⟩ := sortedAll_at s.heap its out.toArray
  refine ⟨.ref (s.heap.objs.size + 1), upd H (s.heap.objs.size + 1) (.lst ((bs.mergeSort (PySem.W.dataLe false (·.2))).map (·.1))), ?_, rfl, q _ (I.hok.fresh (Nat.le_succ _))⟩
  refine I.laid (t' := s.toks) (fun _ _ => sortedAll_old) (Nat.le_succ _) ⟨?_, out, c, ro, hc⟩
  rw [List.length_map, List.length_mergeSort]
  exact hz2
end
end Es
set_option Elab.async false
set_option linter.all false
set_option maxRecDepth 100000
set_option maxHeartbeats 4000000
namespace Es
open PySem PySem.Spec PyProof.Rows L2
theorem lawG_at {P : Program} {w : World} {K : PySem.W.Frag} {mg mb : Str → Option Value} {k : Nat} {fa a : Addr} {fd : FuncData} {x : Str} {sp : Sp} {t : Shared} {xs : List Value}
    (inK : K.In t.heap) (gns : t.heap.Ns mainGlobals mg) (bns : t.heap.Ns builtinsNs mb) (bst : ∀ x : Str, x ≠ "__name__" → mb x = bootBuiltins x) (lim : t.heap.NoLimit) (gen : t.gens = #[])
    (scr : t.heap.get? a = some { cls := .type "list", data := .seq xs.toArray }) (room : Room k callerA)
    (F : ∀ base : Heap, K.In base → base.Ns mainGlobals mg → FnG P w K mg base k fa fd [x] sp) (bind : ∀ (s : Shared) (u : Value), BindsTo s fd ⟨[u], []⟩ [(x, u)])
    (H : Hp) (only : Only H) (held : HOk P w H t.heap) (atA : ∀ b o, H b = some o → b = a) (notK : ∀ o, H a = some o → K.lookup a = none)
    (want : sp [.ref a] H (fun v _ => v = .bl true) E0) :
    codeAny (model P w) callerA (.call (.ref fa) ⟨[.ref a], []⟩) (fun r s' => r = .ok (.ret (.bool true)) ∧ PySem.OldK t.heap s'.heap ∧ s'.os = t.os ∧ AllBare s'.gens) t := by
  have seen : ∀ {b : Addr} {o : Obj}, t.heap.get? b = some o → (b = a → False) → (hidT t.heap H).get? b = some o := by
    intro b o e nb
    refine hidT_get e ?_
    cases hb : H b with
    | none => rfl
    | some u => exact (nb (atA b u hb)).elim
  have dictSeen : ∀ {b : Addr} {m : Str → Option Value}, t.heap.Ns b m → (hidT t.heap H).Ns b m := by
    rintro b m ⟨o, es, ep, e, d, more⟩
    refine ⟨o, es, ep, seen e ?_, d, more⟩
    rintro rfl
    rw [scr] at e
    cases e
    cases d
  have inB : K.In (hidT t.heap H) := by
    intro b o e
    cases hb : H b with
    | none => exact hidT_get (inK b o e) hb
    | some u =>
      have ab := atA b u hb
      subst ab
      rw [notK u hb] at e
      cases e
  obtain ⟨mc, lm1, lm2⟩ := lim
  have md : Mod K mg (hidT t.heap H) := ⟨inB, dictSeen gns, ⟨mb, dictSeen bns, bst⟩, ⟨mc, dictSeen lm1, lm2⟩⟩
  have env : Env0 P w K mg (hidT t.heap H) callerA [] t H :=
    ⟨rfl, md, fun _ _ e => of_hidT e, Nat.le_of_eq (hidT_size _ _), trivial, (fun b hb => by cases hb), held, .of_eq gen⟩
  have run := (F _ inB (dictSeen gns)).runG (out := []) (t := t) (G := H) (ar := ⟨[.ref a], []⟩) (xs := [.ref a]) (ys := [.ref a]) room rfl env (bind t (.ref a)) (.cons rfl .nil) want
  refine codeAny_mono run ?_
  intro r s' h
  cases r with
  | error e => exact False.elim h
  | ok fl =>
    cases fl with
    | next => exact False.elim h
    | brk => exact False.elim h
    | cont => exact False.elim h
    | ret u =>
      obtain ⟨v, H', os, bare, un, held', rel, q⟩ := h
      have q : v = .bl true := q
      subst q
      have rel : u = Value.bool true := rel
      subst rel
      refine ⟨rfl, PySem.OldK.of_keep ?_, os, bare⟩
      intro b o e
      cases hb : H b with
      | none => exact un.keep b o e hb (fun z => by cases z) (fun z => by cases z)
      | some y =>
        rcases only b with z | ⟨ob, ls, z⟩
        · rw [hb] at z
          cases z
        · obtain ⟨g1, _⟩ := held b _ z
          obtain ⟨g2, _⟩ := held' b _ (un.frzs b ob _ z)
          rw [e] at g1
          cases g1
          exact g2
theorem walkG {l : PySem.W.OpenLaw} {n k : Nat} {q : Program} {loose : List Str} {XP : (Str → Option Value) → Heap → Prop} {YP : World → Heap → Prop} {d : PySem.DefRec} {K : Params → PySem.W.Frag} {sp : PySem.W.Frag → Sp} {x : Str}
    (hn : l.most = some n) (hn2 : n ≤ sizeLine) (hdf : d.params.defaults = []) (hr : Room k callerA)
    (hY : ∀ (w : World) (h : Heap), YP w h → (K w.params).In h)
    (F : ∀ (w : World) (mg : Str → Option Value) (fa : Addr) (h : Heap), (K w.params).In h → h.Ns mainGlobals mg → mg d.name = some (.ref fa) →
      ∃ fd : FuncData, (∀ (s : Shared) (u : Value), BindsTo s fd ⟨[u], []⟩ [(x, u)]) ∧
        ∀ base : Heap, (K w.params).In base → base.Ns mainGlobals mg → FnG l.prog w (K w.params) mg base k fa fd [x] (sp (K w.params)))
    (hsp : ∀ (K : PySem.W.Frag) (H : Hp) (a : Addr) (ns : List Int), ns.length ≤ n → SqL K H a (ns.map V.int) → sp K [.ref a] H (fun v _ => v = .bl true) E0) :
    PySem.W.WalkO q loose XP YP l.row.toRowW d [] (fun f vs => PySem.call f vs) := by
  refine Att.attach_call hn hdf ?_
  intro w s₀ t mg mb fa o pm cd doc a xs ns G Y ho hd hcd hmg scr hints len gen
  have inK := hY w _ Y
  obtain ⟨fd, bind, FF⟩ := F w mg fa _ inK G.T.g hmg
  have vals := vals_ints hints
  have lens := hints.length
  have lenX : xs.length ≤ sizeLine := by omega
  cases hk : (K w.params).lookup a with
  | some ob =>
    have e := inK a ob hk
    rw [scr] at e
    cases e
    refine lawG_at inK G.T.g G.T.b G.T.builtins G.T.nolimit gen scr hr FF bind (fun _ => none) (fun _ => .inl rfl) (fun _ _ z => by cases z) (fun _ _ z => by cases z) (fun _ z => by cases z) ?_
    refine hsp _ _ a ns len (.inr ⟨_, xs.toArray, _, hk, rfl, rfl, rfl, ?_, ?_⟩)
    · rw [List.size_toArray]
      exact lenX
    · simpa using vals
  | none =>
    refine lawG_at inK G.T.g G.T.b G.T.builtins G.T.nolimit gen scr hr FF bind
      (fun b => if b = a then some (.frz { cls := .type "list", data := .seq xs.toArray } (.lst (ns.map V.int))) else none) ?_ ?_ ?_ (fun _ _ => hk) ?_
    · intro b
      by_cases hb : b = a
      · exact .inr ⟨_, _, if_pos hb⟩
      · exact .inl (if_neg hb)
    · intro b u z
      by_cases hb : b = a
      · have z2 := (if_pos hb).symm.trans z
        cases z2
        subst hb
        refine ⟨scr, ?_, xs, _, vals, scr⟩
        rw [List.length_map]
        omega
      · have z2 := (if_neg hb).symm.trans z
        cases z2
    · intro b u z
      by_cases hb : b = a
      · exact hb
      · have z2 := (if_neg hb).symm.trans z
        cases z2
    · exact hsp _ _ a ns len (.inl (.inr ⟨_, if_pos rfl⟩))
end Es
namespace Es
def bts (m : Nat) : List Nat := (List.range 63).filter fun u => m.testBit u
theorem mem_bts {m u : Nat} : u ∈ bts m ↔ u < 63 ∧ m.testBit u = true := by simp [bts]
theorem bts_lt (m : Nat) : (bts m).Pairwise (· < ·) := List.Pairwise.filter _ List.pairwise_lt_range
theorem bts_len (m : Nat) : (bts m).length ≤ 63 := by
  have := List.length_filter_le (fun u => m.testBit u) (List.range 63)
  simpa [bts] using this
theorem bts_zero : bts 0 = [] := by simp [bts]
theorem bit_ge {m u : Nat} (h : m < 2 ^ 63) (hu : 63 ≤ u) : m.testBit u = false :=
  Nat.testBit_lt_two_pow (Nat.lt_of_lt_of_le h (Nat.pow_le_pow_right (by decide) hu))
theorem mask_ext {a b : Nat} (ha : a < 2 ^ 63) (hb : b < 2 ^ 63) (h : ∀ u, u < 63 → a.testBit u = b.testBit u) : a = b := by
  refine Nat.eq_of_testBit_eq fun u => ?_
  by_cases hu : u < 63
  · exact h u hu
  · rw [bit_ge ha (by omega), bit_ge hb (by omega)]
theorem bts_inj {a b : Nat} (ha : a < 2 ^ 63) (hb : b < 2 ^ 63) (h : bts a = bts b) : a = b := by
  refine mask_ext ha hb fun u hu => ?_
  have h1 : u ∈ bts a ↔ u ∈ bts b := by rw [h]
  rw [mem_bts, mem_bts] at h1
  cases x : a.testBit u <;> cases y : b.testBit u <;> simp_all
theorem asc_unique : ∀ {a b : List Nat}, a.Pairwise (· < ·) → b.Pairwise (· < ·) → (∀ u, u ∈ a ↔ u ∈ b) → a = b
  | [], [], _, _, _ => rfl
  | [], y :: b, _, _, h => by have := (h y).mpr List.mem_cons_self; cases this
  | x :: a, [], _, _, h => by have := (h x).mp List.mem_cons_self; cases this
  | x :: a, y :: b, ha, hb, h => by
    obtain ⟨a1, a2⟩ := List.pairwise_cons.mp ha
    obtain ⟨b1, b2⟩ := List.pairwise_cons.mp hb
    have e : x = y := by
      rcases List.mem_cons.mp ((h x).mp List.mem_cons_self) with e | m
      · exact e
      · rcases List.mem_cons.mp ((h y).mpr List.mem_cons_self) with e | m2
        · exact e.symm
        · have := a1 _ m2; have := b1 _ m; omega
    subst e
    refine congrArg (x :: ·) (asc_unique a2 b2 fun u => ?_)
    constructor
    · intro m
      rcases List.mem_cons.mp ((h u).mp (List.mem_cons_of_mem _ m)) with e | m2
      · have := a1 _ m; omega
      · exact m2
    · intro m
      rcases List.mem_cons.mp ((h u).mpr (List.mem_cons_of_mem _ m)) with e | m2
      · have := b1 _ m; omega
      · exact m2
theorem bts_of {l : List Nat} {m : Nat} (hl : l.Pairwise (· < ·)) (h : ∀ u, u ∈ l ↔ u < 63 ∧ m.testBit u = true) : l = bts m :=
  asc_unique hl (bts_lt m) fun u => by rw [h, mem_bts]
theorem bts_nil {m : Nat} (hm : m < 2 ^ 63) (h : bts m = []) : m = 0 :=
  bts_inj hm (by decide) (by rw [h, bts_zero])
theorem xor_lt {a b : Nat} (ha : a < 2 ^ 63) (hb : b < 2 ^ 63) : a ^^^ b < 2 ^ 63 := Nat.xor_lt_two_pow ha hb
def low (m : Nat) : Option Nat := (bts m).head?
theorem low_iff {m h : Nat} : low m = some h ↔ h < 63 ∧ m.testBit h = true ∧ ∀ j, j < h → m.testBit j = false := by
  unfold low
  cases e : bts m with
  | nil =>
    constructor
    · intro q; cases q
    · rintro ⟨h1, h2, _⟩
      have : h ∈ bts m := mem_bts.mpr ⟨h1, h2⟩
      rw [e] at this; cases this
  | cons x r =>
    have hx : x ∈ bts m := by rw [e]; exact List.mem_cons_self
    have hp := bts_lt m
    rw [e] at hp
    obtain ⟨p1, _⟩ := List.pairwise_cons.mp hp
    obtain ⟨x1, x2⟩ := mem_bts.mp hx
    have least : ∀ j, j < x → m.testBit j = false := by
      intro j hj
      cases q : m.testBit j with
      | false => rfl
      | true =>
        have : j ∈ bts m := mem_bts.mpr ⟨by omega, q⟩
        rw [e] at this
        rcases List.mem_cons.mp this with z | z
        · omega
        · have := p1 _ z; omega
    constructor
    · intro q
      have q : x = h := Option.some.inj q
      subst q
      exact ⟨x1, x2, least⟩
    · rintro ⟨h1, h2, h3⟩
      show some x = some h
      have : ¬ x < h := fun z => by have := h3 x z; rw [x2] at this; cases this
      have : ¬ h < x := fun z => by have := least h z; rw [h2] at this; cases this
      congr 1; omega
theorem low_none {m : Nat} (hm : m < 2 ^ 63) : low m = none ↔ m = 0 := by
  constructor
  · intro h
    exact bts_nil hm (List.head?_eq_none_iff.mp h)
  · rintro rfl
    rfl
theorem low_some {m : Nat} (hm : m < 2 ^ 63) (h : m ≠ 0) : ∃ k, low m = some k := by
  cases e : low m with
  | none => exact absurd ((low_none hm).mp e) h
  | some k => exact ⟨k, rfl⟩
theorem low_xor {a b h k : Nat} (ha : low a = some h) (hb : low b = some k) (hk : h < k) : low (a ^^^ b) = some h := by
  obtain ⟨a1, a2, a3⟩ := low_iff.mp ha
  obtain ⟨b1, b2, b3⟩ := low_iff.mp hb
  refine low_iff.mpr ⟨a1, ?_, fun j hj => ?_⟩
  · rw [Nat.testBit_xor, a2, b3 h hk]; rfl
  · rw [Nat.testBit_xor, a3 j hj, b3 j (by omega)]; rfl
theorem low_xor_same {a b h k : Nat} (ha : low a = some h) (hb : low b = some h) (hk : low (a ^^^ b) = some k) : h < k := by
  obtain ⟨a1, a2, a3⟩ := low_iff.mp ha
  obtain ⟨b1, b2, b3⟩ := low_iff.mp hb
  obtain ⟨k1, k2, k3⟩ := low_iff.mp hk
  rw [Nat.testBit_xor] at k2
  by_cases e : k = h
  · subst e
    rw [a2, b2] at k2
    cases k2
  · have : ¬ k < h := fun z => by
      rw [a3 k z, b3 k z] at k2
      cases k2
    omega
def Spn : List Nat → Nat → Prop
  | [], x => x = 0
  | m :: ms, x => Spn ms x ∨ Spn ms (x ^^^ m)
theorem xx (a b : Nat) : a ^^^ b ^^^ b = a := by rw [Nat.xor_assoc, Nat.xor_self, Nat.xor_zero]
theorem Spn.zero : ∀ ms, Spn ms 0
  | [] => rfl
  | _ :: ms => .inl (Spn.zero ms)
theorem Spn.xor : ∀ {ms : List Nat} {x y : Nat}, Spn ms x → Spn ms y → Spn ms (x ^^^ y)
  | [], x, y, hx, hy => by
    have hx : x = 0 := hx
    have hy : y = 0 := hy
    subst hx; subst hy; rfl
  | m :: ms, x, y, hx, hy => by
    rcases hx with hx | hx <;> rcases hy with hy | hy
    · exact .inl (Spn.xor hx hy)
    · refine .inr ?_
      rw [Nat.xor_assoc]
      exact Spn.xor hx hy
    · refine .inr ?_
      rw [Nat.xor_assoc, Nat.xor_comm y m, ← Nat.xor_assoc]
      exact Spn.xor hx hy
    · refine .inl ?_
      have := Spn.xor hx hy
      rwa [Nat.xor_comm y m, ← Nat.xor_assoc, Nat.xor_assoc x m m, Nat.xor_self, Nat.xor_zero] at this
theorem Spn.mem : ∀ {ms : List Nat} {x : Nat}, x ∈ ms → Spn ms x
  | m :: ms, x, h => by
    rcases List.mem_cons.mp h with e | h
    · subst e
      exact .inr (by rw [Nat.xor_self]; exact Spn.zero ms)
    · exact .inl (Spn.mem h)
theorem Spn.sub : ∀ {as bs : List Nat} {x : Nat}, (∀ a ∈ as, Spn bs a) → Spn as x → Spn bs x
  | [], bs, x, _, h => by
    have h : x = 0 := h
    subst h
    exact Spn.zero bs
  | a :: as, bs, x, hs, h => by
    have ht : ∀ c ∈ as, Spn bs c := fun c hc => hs c (List.mem_cons_of_mem _ hc)
    rcases h with h | h
    · exact Spn.sub ht h
    · have h1 := Spn.sub ht h
      have h2 := Spn.xor h1 (hs a List.mem_cons_self)
      rwa [xx] at h2
theorem Spn.left {as bs : List Nat} {x : Nat} (h : Spn as x) : Spn (as ++ bs) x := Spn.sub (fun _ ha => Spn.mem (List.mem_append_left _ ha)) h
theorem Spn.bits0 {h : Nat} : ∀ {ms : List Nat} {x : Nat}, (∀ m ∈ ms, m.testBit h = false) → Spn ms x → x.testBit h = false
  | [], x, _, hx => by
    have hx : x = 0 := hx
    subst hx; simp
  | m :: ms, x, hm, hx => by
    have ht : ∀ c ∈ ms, c.testBit h = false := fun c hc => hm c (List.mem_cons_of_mem _ hc)
    rcases hx with hx | hx
    · exact Spn.bits0 ht hx
    · have := Spn.bits0 ht hx
      rw [Nat.testBit_xor, hm m List.mem_cons_self] at this
      simpa using this
theorem Spn.lt : ∀ {ms : List Nat} {x : Nat}, (∀ m ∈ ms, m < 2 ^ 63) → Spn ms x → x < 2 ^ 63
  | [], x, _, h => by
    have h : x = 0 := h
    subst h; decide
  | m :: ms, x, hm, h => by
    have ht : ∀ c ∈ ms, c < 2 ^ 63 := fun c hc => hm c (List.mem_cons_of_mem _ hc)
    rcases h with h | h
    · exact Spn.lt ht h
    · have := xor_lt (Spn.lt ht h) (hm m List.mem_cons_self)
      rwa [xx] at this
def xsum (f : Nat → Nat) : Nat → Nat
  | 0 => 0
  | n + 1 => xsum f n ^^^ f n
def pick (ms : List Nat) (u : Nat) : Nat := xsum (fun k => if u.testBit k then ms.getD k 0 else 0) 63
theorem xsum_xor (f g h : Nat → Nat) : ∀ n, (∀ k, k < n → h k = f k ^^^ g k) → xsum h n = xsum f n ^^^ xsum g n
  | 0, _ => by show (0 : Nat) = 0 ^^^ 0; simp
  | n + 1, e => by
    have ih := xsum_xor f g h n fun k hk => e k (by omega)
    show xsum h n ^^^ h n = (xsum f n ^^^ f n) ^^^ (xsum g n ^^^ g n)
    rw [ih, e n (by omega)]
    rw [Nat.xor_assoc, Nat.xor_assoc]
    congr 1
    rw [← Nat.xor_assoc, ← Nat.xor_assoc, Nat.xor_comm (xsum g n) (f n)]
theorem xsum_congr {f g : Nat → Nat} : ∀ n, (∀ k, k < n → f k = g k) → xsum f n = xsum g n
  | 0, _ => rfl
  | n + 1, e => by
    show xsum f n ^^^ f n = xsum g n ^^^ g n
    rw [xsum_congr n fun k hk => e k (by omega), e n (by omega)]
theorem pick_xor (ms : List Nat) (u v : Nat) : pick ms (u ^^^ v) = pick ms u ^^^ pick ms v := by
  refine xsum_xor _ _ _ 63 fun k _ => ?_
  rw [Nat.testBit_xor]
  cases u.testBit k <;> cases v.testBit k <;> simp
theorem pick_zero (ms : List Nat) : pick ms 0 = 0 := by
  have : ∀ n, xsum (fun k => if (0 : Nat).testBit k then ms.getD k 0 else 0) n = 0 := by
    intro n
    induction n with
    | zero => rfl
    | succ n ih => show _ ^^^ _ = 0; rw [ih]; simp
  exact this 63
theorem xsum_single {c : Nat} (f : Nat → Nat) (k : Nat) (h0 : ∀ j, j ≠ k → f j = 0) (hk : f k = c) : ∀ n, xsum f n = if k < n then c else 0
  | 0 => rfl
  | n + 1 => by
    show xsum f n ^^^ f n = _
    rw [xsum_single f k h0 hk n]
    by_cases e : n = k
    · subst e; simp [hk]
    · rw [h0 n e]
      by_cases h : k < n
      · rw [if_pos h, if_pos (by omega)]; simp
      · rw [if_neg h, if_neg (by omega)]; simp
theorem pick_one (ms : List Nat) {k : Nat} (hk : k < 63) : pick ms (2 ^ k) = ms.getD k 0 := by
  unfold pick
  have h0 : ∀ j, j ≠ k → (fun j => if (2 ^ k).testBit j then ms.getD j 0 else 0) j = 0 := by
    intro j hj
    show (if (2 ^ k).testBit j = true then ms.getD j 0 else 0) = 0
    rw [Nat.testBit_two_pow_of_ne (Ne.symm hj), if_neg Bool.false_ne_true]
  have h1 : (fun j => if (2 ^ k).testBit j then ms.getD j 0 else 0) k = ms.getD k 0 := by
    show (if (2 ^ k).testBit k = true then ms.getD k 0 else 0) = _
    rw [Nat.testBit_two_pow_self, if_pos rfl]
  rw [xsum_single _ k h0 h1 63, if_pos hk]
def Below (n u : Nat) : Prop := u < 2 ^ n
theorem pick_more {ms : List Nat} {m u : Nat} (hu : u < 2 ^ ms.length) : pick (ms ++ [m]) u = pick ms u := by
  refine xsum_congr 63 fun k _ => ?_
  by_cases h : u.testBit k = true
  · have hk : k < ms.length := by
      refine Nat.lt_of_not_le fun z => ?_
      rw [Nat.testBit_lt_two_pow (Nat.lt_of_lt_of_le hu (Nat.pow_le_pow_right (by decide) z))] at h
      cases h
    rw [if_pos h, if_pos h, List.getD_eq_getElem?_getD, List.getD_eq_getElem?_getD, List.getElem?_append_left hk]
  · rw [if_neg h, if_neg h]
theorem pick_span (ms : List Nat) (u : Nat) : Spn ms (pick ms u) := by
  have : ∀ n, Spn ms (xsum (fun k => if u.testBit k then ms.getD k 0 else 0) n) := by
    intro n
    induction n with
    | zero => exact Spn.zero ms
    | succ n ih =>
      refine Spn.xor ih ?_
      show Spn ms (if u.testBit n = true then ms.getD n 0 else 0)
      by_cases h : u.testBit n = true
      · rw [if_pos h]
        by_cases hn : n < ms.length
        · rw [List.getD_eq_getElem?_getD, List.getElem?_eq_getElem hn]
          exact Spn.mem (List.getElem_mem hn)
        · rw [List.getD_eq_getElem?_getD, List.getElem?_eq_none (by omega)]
          exact Spn.zero ms
      · rw [if_neg h]
        exact Spn.zero ms
  exact this 63
end Es
namespace Es
def look (bs : List (Nat × Nat × Nat)) (h : Nat) : Option (Nat × Nat) := (bs.find? fun b => decide (b.1 = h)).map (·.2)
theorem look_mem {bs : List (Nat × Nat × Nat)} {h : Nat} {p : Nat × Nat} (e : look bs h = some p) : (h, p) ∈ bs := by
  unfold look at e
  cases q : bs.find? fun b => decide (b.1 = h) with
  | none => rw [q] at e; cases e
  | some b =>
    rw [q] at e
    have e : b.2 = p := Option.some.inj e
    have h1 := List.find?_some q
    have h2 := List.mem_of_find?_eq_some q
    have h1 : b.1 = h := of_decide_eq_true h1
    obtain ⟨x, y⟩ := b
    simp only at e h1
    subst e; subst h1
    exact h2
theorem look_none {bs : List (Nat × Nat × Nat)} {h : Nat} : look bs h = none ↔ h ∉ bs.map (·.1) := by
  unfold look
  rw [Option.map_eq_none_iff, List.find?_eq_none]
  constructor
  · intro k m
    obtain ⟨b, hb, e⟩ := List.mem_map.mp m
    exact k b hb (decide_eq_true e)
  · intro k b hb e
    exact k (List.mem_map.mpr ⟨b, hb, of_decide_eq_true e⟩)
def rest : Nat → List (Nat × Nat × Nat) → Nat → Nat → Nat × Nat
  | 0, _, m, u => (m, u)
  | n + 1, bs, m, u =>
    match low m with
    | none => (m, u)
    | some h => match look bs h with
      | none => (m, u)
      | some p => rest n bs (m ^^^ p.1) (u ^^^ p.2)
structure BasOk (ms : List Nat) (bs : List (Nat × Nat × Nat)) : Prop where
  nd : (bs.map (·.1)).Nodup
  ok : ∀ b ∈ bs, low b.2.1 = some b.1 ∧ b.2.1 < 2 ^ 63 ∧ b.2.2 < 2 ^ ms.length ∧ pick ms b.2.2 = b.2.1
  all : ∀ m ∈ ms, Spn (bs.map (·.2.1)) m
theorem ech : ∀ {bs : List (Nat × Nat × Nat)}, (bs.map (·.1)).Nodup → (∀ b ∈ bs, low b.2.1 = some b.1) → ∀ {x : Nat}, Spn (bs.map (·.2.1)) x → x = 0 ∨ ∃ h, low x = some h ∧ h ∈ bs.map (·.1)
  | [], _, _, x, h => .inl h
  | b :: bs, nd, ok, x, h => by
    have nd : (b.1 :: bs.map (·.1)).Nodup := nd
    obtain ⟨n1, n2⟩ := List.nodup_cons.mp nd
    have ok2 : ∀ c ∈ bs, low c.2.1 = some c.1 := fun c hc => ok c (List.mem_cons_of_mem _ hc)
    have hb := ok b List.mem_cons_self
    have h : Spn (bs.map (·.2.1)) x ∨ Spn (bs.map (·.2.1)) (x ^^^ b.2.1) := h
    rcases h with h | h
    · rcases ech n2 ok2 h with e | ⟨k, e, m⟩
      · exact .inl e
      · exact .inr ⟨k, e, List.mem_cons_of_mem _ m⟩
    · have back : x = (x ^^^ b.2.1) ^^^ b.2.1 := (xx _ _).symm
      rcases ech n2 ok2 h with e | ⟨k, e, m⟩
      · rw [e, Nat.zero_xor] at back
        exact .inr ⟨b.1, by rw [back]; exact hb, List.mem_cons_self⟩
      · have ne : k ≠ b.1 := fun z => n1 (z ▸ m)
        by_cases lt : k < b.1
        · exact .inr ⟨k, by rw [back]; exact low_xor e hb lt, List.mem_cons_of_mem _ m⟩
        · refine .inr ⟨b.1, ?_, List.mem_cons_self⟩
          rw [back, Nat.xor_comm]
          exact low_xor hb e (by omega)
theorem rest_spec {ms : List Nat} {bs : List (Nat × Nat × Nat)} (B : BasOk ms bs) : ∀ (n m u : Nat), m < 2 ^ 63 → (∀ h, low m = some h → 63 ≤ h + n) →
    (rest n bs m u).1 < 2 ^ 63 ∧ (∃ c, c < 2 ^ ms.length ∧ (rest n bs m u).2 = u ^^^ c ∧ (rest n bs m u).1 = m ^^^ pick ms c) ∧
      ((rest n bs m u).1 = 0 ∨ ∃ h, low (rest n bs m u).1 = some h ∧ look bs h = none)
  | 0, m, u, hm, hn => by
    refine ⟨hm, ⟨0, Nat.two_pow_pos _, by simp [rest], by rw [pick_zero]; simp [rest]⟩, .inl ?_⟩
    refine (low_none hm).mp ?_
    cases e : low m with
    | none => rfl
    | some h =>
      have := hn h e
      have := (low_iff.mp e).1
      omega
  | n + 1, m, u, hm, hn => by
    cases e : low m with
    | none =>
      have r0 : rest (n + 1) bs m u = (m, u) := by simp [rest, e]
      rw [r0]
      exact ⟨hm, ⟨0, Nat.two_pow_pos _, by simp, by rw [pick_zero]; simp⟩, .inl ((low_none hm).mp e)⟩
    | some h =>
      cases q : look bs h with
      | none =>
        have r0 : rest (n + 1) bs m u = (m, u) := by simp [rest, e, q]
        rw [r0]
        exact ⟨hm, ⟨0, Nat.two_pow_pos _, by simp, by rw [pick_zero]; simp⟩, .inr ⟨h, e, q⟩⟩
      | some p =>
        have r0 : rest (n + 1) bs m u = rest n bs (m ^^^ p.1) (u ^^^ p.2) := by simp [rest, e, q]
        obtain ⟨o1, o2, o3, o4⟩ := B.ok _ (look_mem q)
        simp only at o1 o2 o3 o4
        obtain ⟨h1, ⟨c, c1, c2, c3⟩, h3⟩ := rest_spec B n (m ^^^ p.1) (u ^^^ p.2) (xor_lt hm o2) fun k hk => by
          have := low_xor_same e o1 hk
          have := hn h e
          omega
        rw [r0]
        refine ⟨h1, ⟨p.2 ^^^ c, Nat.xor_lt_two_pow o3 c1, ?_, ?_⟩, h3⟩
        · rw [c2, Nat.xor_assoc]
        · rw [c3, pick_xor, o4, Nat.xor_assoc]
theorem rest_none {ms : List Nat} {bs : List (Nat × Nat × Nat)} (B : BasOk ms bs) {m u : Nat} (hm : m < 2 ^ 63) : Spn ms m ↔ (rest 64 bs m u).1 = 0 := by
  obtain ⟨h1, ⟨c, c1, c2, c3⟩, h3⟩ := rest_spec B 64 m u hm fun h _ => by omega
  constructor
  · intro s
    have s2 : Spn ms (rest 64 bs m u).1 := by rw [c3]; exact Spn.xor s (pick_span ms c)
    have s3 : Spn (bs.map (·.2.1)) (rest 64 bs m u).1 := Spn.sub B.all s2
    rcases h3 with e | ⟨h, e, q⟩
    · exact e
    · rcases ech B.nd (fun b hb => (B.ok b hb).1) s3 with z | ⟨k, z, mem⟩
      · exact z
      · rw [e] at z
        have z : h = k := Option.some.inj z
        subst z
        exact absurd mem (look_none.mp q)
  · intro e
    rw [e] at c3
    have : m = pick ms c := by
      have := congrArg (· ^^^ pick ms c) c3
      simp only [Nat.zero_xor] at this
      rw [xx] at this
      exact this.symm
    rw [this]
    exact pick_span ms c
abbrev Est := List (Nat × Nat × Nat) × List (Nat × Nat) × Nat
def estep (s : Est) (m : Nat) : Est :=
  match low (rest 64 s.1 m (2 ^ s.2.2)).1 with
  | some h => (s.1 ++ [(h, rest 64 s.1 m (2 ^ s.2.2))], s.2.1, s.2.2 + 1)
  | none => (s.1, s.2.1 ++ [(s.2.2, (rest 64 s.1 m (2 ^ s.2.2)).2)], s.2.2 + 1)
def elim (ms : List Nat) : Est := ms.foldl estep ([], [], 0)
theorem elim_snoc (ms : List Nat) (m : Nat) : elim (ms ++ [m]) = estep (elim ms) m := by simp [elim]
theorem elim_take (ms : List Nat) {i : Nat} (h : i < ms.length) : elim (ms.take (i + 1)) = estep (elim (ms.take i)) ms[i] := by
  rw [List.take_succ_eq_append_getElem h, elim_snoc]
structure ElimOk (ms : List Nat) (s : Est) : Prop where
  n : s.2.2 = ms.length
  bas : BasOk ms s.1
  lots : ∀ l ∈ s.2.1, l.1 < ms.length ∧ l.2 ≠ 0 ∧ l.2 < 2 ^ ms.length ∧ pick ms l.2 = 0
  keys : (s.2.1.map (·.1)).Pairwise (· < ·)
  dep : ∀ k, k < ms.length → (k ∈ s.2.1.map (·.1) ↔ Spn (ms.take k) (ms.getD k 0))
  sum : s.1.length + s.2.1.length = ms.length
theorem elim_ok : ∀ (ms : List Nat), (∀ m ∈ ms, m < 2 ^ 63) → ms.length ≤ 62 → ElimOk ms (elim ms) := by
  intro ms
  suffices h : ∀ n, ∀ ms : List Nat, ms.length = n → (∀ m ∈ ms, m < 2 ^ 63) → ms.length ≤ 62 → ElimOk ms (elim ms) from h _ ms rfl
  intro n
  induction n with
  | zero =>
    intro ms hl _ _
    have : ms = [] := List.length_eq_zero_iff.mp hl
    subst this
    exact ⟨rfl, ⟨List.nodup_nil, (fun b hb => by cases hb), (fun b hb => by cases hb)⟩, (fun b hb => by cases hb), List.Pairwise.nil, (fun k hk => by cases hk), rfl⟩
  | succ n ih =>
    intro ms hl hm h62
    have hne : ms ≠ [] := by intro z; subst z; cases hl
    obtain ⟨pre, m, rfl⟩ : ∃ pre m, ms = pre ++ [m] := ⟨ms.dropLast, ms.getLast hne, (List.dropLast_concat_getLast hne).symm⟩
    have hpl : pre.length = n := by simpa using hl
    have O := ih pre hpl (fun x hx => hm x (List.mem_append_left _ hx)) (by simp at h62; omega)
    have hmm : m < 2 ^ 63 := hm m (List.mem_append_right _ List.mem_cons_self)
    rw [elim_snoc]
    obtain ⟨o1, B, o3, o4, o5, o6⟩ := O
    obtain ⟨h1, ⟨c, c1, c2, c3⟩, h3⟩ := rest_spec B 64 m (2 ^ (elim pre).2.2) hmm fun h _ => by omega
    have dn := rest_none B (u := 2 ^ (elim pre).2.2) hmm
    have len : (pre ++ [m]).length = pre.length + 1 := by simp
    have p2 : 2 ^ pre.length < 2 ^ (pre.length + 1) := Nat.pow_lt_pow_right (by decide) (by omega)
    have c2 : (rest 64 (elim pre).1 m (2 ^ (elim pre).2.2)).2 = 2 ^ pre.length ^^^ c := c2.trans (by rw [o1])
    have usedLt : (rest 64 (elim pre).1 m (2 ^ (elim pre).2.2)).2 < 2 ^ (pre.length + 1) := by
      rw [c2]
      exact Nat.xor_lt_two_pow p2 (Nat.lt_trans c1 p2)
    have usedNe : (rest 64 (elim pre).1 m (2 ^ (elim pre).2.2)).2 ≠ 0 := by
      rw [c2]
      intro z
      have : (2 ^ pre.length ^^^ c).testBit pre.length = true := by
        rw [Nat.testBit_xor, Nat.testBit_two_pow_self, Nat.testBit_lt_two_pow c1]; rfl
      rw [z] at this
      simp at this
    have usedPick : pick (pre ++ [m]) (rest 64 (elim pre).1 m (2 ^ (elim pre).2.2)).2 = (rest 64 (elim pre).1 m (2 ^ (elim pre).2.2)).1 := by
      rw [c2, pick_xor, pick_more c1, pick_one _ (by simp at h62; omega), c3]
      congr 1
      simp [List.getD_eq_getElem?_getD]
    have depOld : ∀ k, k < pre.length → ((pre ++ [m]).take k = pre.take k ∧ (pre ++ [m]).getD k 0 = pre.getD k 0) := by
      intro k hk
      refine ⟨List.take_append_of_le_length (by omega), ?_⟩
      rw [List.getD_eq_getElem?_getD, List.getD_eq_getElem?_getD, List.getElem?_append_left hk]
    have depNew : (pre ++ [m]).take pre.length = pre ∧ (pre ++ [m]).getD pre.length 0 = m := by
      refine ⟨by simp, by simp [List.getD_eq_getElem?_getD]⟩
    cases e : low (rest 64 (elim pre).1 m (2 ^ (elim pre).2.2)).1 with
    | some h =>
      have st : estep (elim pre) m = ((elim pre).1 ++ [(h, rest 64 (elim pre).1 m (2 ^ (elim pre).2.2))], (elim pre).2.1, (elim pre).2.2 + 1) := by
        simp [estep, e]
      have nz : (rest 64 (elim pre).1 m (2 ^ (elim pre).2.2)).1 ≠ 0 := fun z => by rw [z] at e; cases e
      have fresh : look (elim pre).1 h = none := by
        rcases h3 with z | ⟨k, z, q⟩
        · exact absurd z nz
        · rw [e] at z
          have z : h = k := Option.some.inj z
          rw [z]; exact q
      have hd := look_none.mp fresh
      rw [st]
      refine ⟨by show _ = _; rw [o1, len], ⟨?_, ?_, ?_⟩, ?_, o4, ?_, ?_⟩
      · rw [List.map_append]
        refine List.nodup_append.mpr ⟨B.nd, by simp, fun a ha b hb => ?_⟩
        have hb : b = h := by simpa using hb
        subst hb
        exact fun z => hd (z ▸ ha)
      · intro b hb
        rcases List.mem_append.mp hb with hb | hb
        · obtain ⟨b1, b2, b3, b4⟩ := B.ok b hb
          exact ⟨b1, b2, by rw [len]; exact Nat.lt_trans b3 p2, by rw [pick_more b3]; exact b4⟩
        · have hb : b = (h, rest 64 (elim pre).1 m (2 ^ (elim pre).2.2)) := by simpa using hb
          subst hb
          exact ⟨e, h1, by rw [len]; exact usedLt, usedPick⟩
      · intro x hx
        rw [List.map_append]
        rcases List.mem_append.mp hx with hx | hx
        · exact Spn.left (B.all x hx)
        · have hx : x = m := by simpa using hx
          subst hx
          have a1 : Spn ((elim pre).1.map (·.2.1)) (pick pre c) := Spn.sub B.all (pick_span pre c)
          have a2 : x = (rest 64 (elim pre).1 x (2 ^ (elim pre).2.2)).1 ^^^ pick pre c := by rw [c3, xx]
          have a3 : Spn ((elim pre).1.map (·.2.1) ++ [(h, rest 64 (elim pre).1 x (2 ^ (elim pre).2.2))].map (·.2.1)) (rest 64 (elim pre).1 x (2 ^ (elim pre).2.2)).1 :=
            Spn.mem (List.mem_append_right _ (by simp))
          have a4 := Spn.xor a3 (Spn.left (bs := [(h, rest 64 (elim pre).1 x (2 ^ (elim pre).2.2))].map (·.2.1)) a1)
          rw [← a2] at a4
          exact a4
      · intro l hl2
        obtain ⟨l1, l2, l3, l4⟩ := o3 l hl2
        exact ⟨by rw [len]; omega, l2, by rw [len]; exact Nat.lt_trans l3 p2, by rw [pick_more l3]; exact l4⟩
      · intro k hk
        rw [len] at hk
        by_cases hk2 : k < pre.length
        · rw [(depOld k hk2).1, (depOld k hk2).2]
          exact o5 k hk2
        · have : k = pre.length := by omega
          subst this
          rw [depNew.1, depNew.2]
          constructor
          · intro mem
            obtain ⟨l, l1, l2⟩ := List.mem_map.mp mem
            have := (o3 l l1).1
            omega
          · intro s
            exact absurd (dn.mp s) nz
      · show ((elim pre).1 ++ _).length + _ = _
        rw [List.length_append, len]
        simp
        omega
    | none =>
      have st : estep (elim pre) m = ((elim pre).1, (elim pre).2.1 ++ [((elim pre).2.2, (rest 64 (elim pre).1 m (2 ^ (elim pre).2.2)).2)], (elim pre).2.2 + 1) := by
        simp [estep, e]
      have z0 : (rest 64 (elim pre).1 m (2 ^ (elim pre).2.2)).1 = 0 := (low_none h1).mp e
      rw [st]
      refine ⟨by show _ = _; rw [o1, len], ⟨B.nd, ?_, ?_⟩, ?_, ?_, ?_, ?_⟩
      · intro b hb
        obtain ⟨b1, b2, b3, b4⟩ := B.ok b hb
        exact ⟨b1, b2, by rw [len]; exact Nat.lt_trans b3 p2, by rw [pick_more b3]; exact b4⟩
      · intro x hx
        rcases List.mem_append.mp hx with hx | hx
        · exact B.all x hx
        · have hx : x = m := by simpa using hx
          subst hx
          exact Spn.sub B.all (dn.mpr z0)
      · intro l hl2
        rcases List.mem_append.mp hl2 with hl2 | hl2
        · obtain ⟨l1, l2, l3, l4⟩ := o3 l hl2
          exact ⟨by rw [len]; omega, l2, by rw [len]; exact Nat.lt_trans l3 p2, by rw [pick_more l3]; exact l4⟩
        · have hl2 : l = ((elim pre).2.2, (rest 64 (elim pre).1 m (2 ^ (elim pre).2.2)).2) := by simpa using hl2
          subst hl2
          exact ⟨by rw [len, o1]; omega, usedNe, by rw [len]; exact usedLt, by rw [usedPick]; exact z0⟩
      · rw [List.map_append]
        refine List.pairwise_append.mpr ⟨o4, by simp, fun a ha b hb => ?_⟩
        have hb : b = (elim pre).2.2 := by simpa using hb
        obtain ⟨l, l1, l2⟩ := List.mem_map.mp ha
        have := (o3 l l1).1
        rw [hb, o1]
        omega
      · intro k hk
        rw [len] at hk
        rw [List.map_append, List.mem_append]
        by_cases hk2 : k < pre.length
        · rw [(depOld k hk2).1, (depOld k hk2).2, ← o5 k hk2]
          constructor
          · rintro (h | h)
            · exact h
            · have : k = (elim pre).2.2 := by simpa using h
              omega
          · exact .inl
        · have : k = pre.length := by omega
          subst this
          rw [depNew.1, depNew.2]
          exact ⟨fun _ => dn.mpr z0, fun _ => .inr (by simp [o1])⟩
      · show _ + ((elim pre).2.1 ++ _).length = _
        rw [List.length_append, len]
        simp
        omega
def indep (ms : List Nat) : List Nat := (List.range ms.length).filter fun k => decide (k ∉ (elim ms).2.1.map (·.1))
def srt (l : List Nat) : List Nat := (List.range 63).filter fun u => decide (u ∈ l)
theorem mem_srt {l : List Nat} {u : Nat} : u ∈ srt l ↔ u < 63 ∧ u ∈ l := by simp [srt]
theorem srt_lt (l : List Nat) : (srt l).Pairwise (· < ·) := List.Pairwise.filter _ List.pairwise_lt_range
def lred1 (hs : List (Nat × Nat × Nat)) (p : Nat × Nat) (h : Nat) : Nat × Nat :=
  if p.1.testBit h = true then match look hs h with
    | some q => (p.1 ^^^ q.1, p.2 ^^^ q.2)
    | none => p
  else p
def lred (hs : List (Nat × Nat × Nat)) (p : Nat × Nat) : Nat × Nat := (srt (hs.map (·.1))).foldl (lred1 hs) p
def lput (hs : List (Nat × Nat × Nat)) (at_ : Nat) (p : Nat × Nat) : List (Nat × Nat × Nat) :=
  (hs.map fun e => if e.2.1.testBit at_ = true then (e.1, e.2.1 ^^^ p.1, e.2.2 ^^^ p.2) else e) ++ [(at_, p.1, p.2)]
def lstep (hs : List (Nat × Nat × Nat)) (l : Nat × Nat) : Option (List (Nat × Nat × Nat)) :=
  match low (lred hs l).1 with
  | none => if (lred hs l).2 = 1 then none else some hs
  | some a => some (lput hs a (lred hs l))
structure RedOk (hs : List (Nat × Nat × Nat)) : Prop where
  nd : (hs.map (·.1)).Nodup
  own : ∀ e ∈ hs, e.1 < 63 ∧ e.2.1 < 2 ^ 63 ∧ e.2.1.testBit e.1 = true
  oth : ∀ e ∈ hs, ∀ h ∈ hs.map (·.1), h ≠ e.1 → e.2.1.testBit h = false
theorem red_zero : ∀ {hs : List (Nat × Nat × Nat)}, (hs.map (·.1)).Nodup → (∀ e ∈ hs, e.2.1.testBit e.1 = true) → (∀ e ∈ hs, ∀ h ∈ hs.map (·.1), h ≠ e.1 → e.2.1.testBit h = false) →
    ∀ {x : Nat}, Spn (hs.map (·.2.1)) x → (∀ h ∈ hs.map (·.1), x.testBit h = false) → x = 0
  | [], _, _, _, x, s, _ => s
  | e :: hs, nd, ow, ot, x, s, no => by
    have nd : (e.1 :: hs.map (·.1)).Nodup := nd
    obtain ⟨n1, n2⟩ := List.nodup_cons.mp nd
    have s : Spn (hs.map (·.2.1)) x ∨ Spn (hs.map (·.2.1)) (x ^^^ e.2.1) := s
    have rec_ := @red_zero hs n2 (fun c hc => ow c (List.mem_cons_of_mem _ hc)) (fun c hc h hh => ot c (List.mem_cons_of_mem _ hc) h (List.mem_cons_of_mem _ hh))
    rcases s with s | s
    · exact rec_ s fun h hh => no h (List.mem_cons_of_mem _ hh)
    · have b0 : (x ^^^ e.2.1).testBit e.1 = false := Spn.bits0 (fun m hm => by
        obtain ⟨c, hc, rfl⟩ := List.mem_map.mp hm
        refine ot c (List.mem_cons_of_mem _ hc) e.1 List.mem_cons_self fun z => ?_
        exact n1 (z ▸ List.mem_map.mpr ⟨c, hc, rfl⟩)) s
      rw [Nat.testBit_xor, ow e List.mem_cons_self, no e.1 List.mem_cons_self] at b0
      cases b0
theorem lred_fold {hs : List (Nat × Nat × Nat)} (R : RedOk hs) : ∀ (S : List Nat) (dn : List Nat) (p : Nat × Nat), (∀ h ∈ S, h ∈ hs.map (·.1)) → (∀ h ∈ dn, h ∈ hs.map (·.1)) → p.1 < 2 ^ 63 → (∀ h ∈ dn, p.1.testBit h = false) →
    (S.foldl (lred1 hs) p).1 < 2 ^ 63 ∧ (∃ y, Spn (hs.map (·.2.1)) y ∧ (S.foldl (lred1 hs) p).1 = p.1 ^^^ y) ∧ (∀ h, h ∈ dn ∨ h ∈ S → (S.foldl (lred1 hs) p).1.testBit h = false)
  | [], dn, p, _, _, hp, hd => ⟨hp, ⟨0, Spn.zero _, by simp⟩, fun h hh => by
      rcases hh with hh | hh
      · exact hd h hh
      · cases hh⟩
  | k :: S, dn, p, hS, hD, hp, hd => by
    have hk := hS k List.mem_cons_self
    obtain ⟨e, he, ek⟩ := List.mem_map.mp hk
    have step : ∃ y, Spn (hs.map (·.2.1)) y ∧ (lred1 hs p k).1 = p.1 ^^^ y ∧ (lred1 hs p k).1 < 2 ^ 63 ∧ (lred1 hs p k).1.testBit k = false ∧ ∀ h ∈ dn, (lred1 hs p k).1.testBit h = false := by
      unfold lred1
      by_cases hb : p.1.testBit k = true
      · rw [if_pos hb]
        cases q : look hs k with
        | none => exact absurd hk (look_none.mp q)
        | some r =>
          have mem := look_mem q
          obtain ⟨w1, w2, w3⟩ := R.own _ mem
          simp only at w1 w2 w3
          refine ⟨r.1, Spn.mem (List.mem_map.mpr ⟨_, mem, rfl⟩), rfl, xor_lt hp w2, ?_, fun h hh => ?_⟩
          · show (p.1 ^^^ r.1).testBit k = false
            rw [Nat.testBit_xor, hb, w3]; rfl
          · show (p.1 ^^^ r.1).testBit h = false
            rw [Nat.testBit_xor, hd h hh]
            by_cases z : h = k
            · subst z
              rw [hd h hh] at hb; cases hb
            · rw [R.oth _ mem h (hD h hh) z]; rfl
      · rw [if_neg hb]
        exact ⟨0, Spn.zero _, by simp, hp, by simpa using hb, hd⟩
    obtain ⟨y, y1, y2, y3, y4, y5⟩ := step
    obtain ⟨f1, ⟨z, z1, z2⟩, f3⟩ := lred_fold R S (k :: dn) (lred1 hs p k) (fun h hh => hS h (List.mem_cons_of_mem _ hh)) (fun h hh => by
      rcases List.mem_cons.mp hh with e | e
      · subst e; exact hk
      · exact hD h e) y3 (fun h hh => by
      rcases List.mem_cons.mp hh with e | e
      · subst e; exact y4
      · exact y5 h e)
    refine ⟨f1, ⟨y ^^^ z, Spn.xor y1 z1, ?_⟩, fun h hh => f3 h ?_⟩
    · show (S.foldl (lred1 hs) (lred1 hs p k)).1 = _
      rw [z2, y2, Nat.xor_assoc]
    · rcases hh with hh | hh
      · exact .inl (List.mem_cons_of_mem _ hh)
      · rcases List.mem_cons.mp hh with e | e
        · subst e; exact .inl List.mem_cons_self
        · exact .inr e
theorem lred_spec {hs : List (Nat × Nat × Nat)} (R : RedOk hs) {p : Nat × Nat} (hp : p.1 < 2 ^ 63) :
    (lred hs p).1 < 2 ^ 63 ∧ (∃ y, Spn (hs.map (·.2.1)) y ∧ (lred hs p).1 = p.1 ^^^ y) ∧ ∀ h ∈ hs.map (·.1), (lred hs p).1.testBit h = false := by
  obtain ⟨a, b, c⟩ := lred_fold R (srt (hs.map (·.1))) [] p (fun h hh => (mem_srt.mp hh).2) (fun h hh => by cases hh) hp (fun h hh => by cases hh)
  refine ⟨a, b, fun h hh => c h (.inr (mem_srt.mpr ⟨?_, hh⟩))⟩
  obtain ⟨e, he, z⟩ := List.mem_map.mp hh
  have := (R.own e he).1
  rw [← z]; exact this
theorem lput_ok {hs : List (Nat × Nat × Nat)} (R : RedOk hs) {p : Nat × Nat} {a : Nat} (hp : p.1 < 2 ^ 63) (hl : low p.1 = some a) (no : ∀ h ∈ hs.map (·.1), p.1.testBit h = false) :
    RedOk (lput hs a p) ∧ (lput hs a p).map (·.1) = hs.map (·.1) ++ [a] ∧ (∀ x, Spn ((lput hs a p).map (·.2.1)) x ↔ Spn (hs.map (·.2.1) ++ [p.1]) x) := by
  obtain ⟨a1, a2, a3⟩ := low_iff.mp hl
  have hm : (lput hs a p).map (·.1) = hs.map (·.1) ++ [a] := by
    unfold lput
    rw [List.map_append, List.map_map]
    congr 1
    refine List.map_congr_left fun e _ => ?_
    show (if _ then _ else _ : Nat × Nat × Nat).1 = e.1
    split <;> rfl
  have na : a ∉ hs.map (·.1) := fun z => by rw [no a z] at a2; cases a2
  have each : ∀ e ∈ lput hs a p, (e = (a, p.1, p.2)) ∨ ∃ e0 ∈ hs, e.1 = e0.1 ∧ ((e0.2.1.testBit a = true ∧ e.2.1 = e0.2.1 ^^^ p.1) ∨ (e0.2.1.testBit a = false ∧ e.2.1 = e0.2.1)) := by
    intro e he
    rcases List.mem_append.mp he with he | he
    · obtain ⟨e0, h0, rfl⟩ := List.mem_map.mp he
      refine .inr ⟨e0, h0, ?_⟩
      by_cases hb : e0.2.1.testBit a = true
      · rw [if_pos hb]; exact ⟨rfl, .inl ⟨hb, rfl⟩⟩
      · rw [if_neg hb]; exact ⟨rfl, .inr ⟨by simpa using hb, rfl⟩⟩
    · exact .inl (by simpa using he)
  refine ⟨⟨?_, ?_, ?_⟩, hm, ?_⟩
  · rw [hm]
    refine List.nodup_append.mpr ⟨R.nd, by simp, fun x hx y hy => ?_⟩
    have hy : y = a := by simpa using hy
    subst hy
    exact fun z => na (z ▸ hx)
  · intro e he
    rcases each e he with rfl | ⟨e0, h0, e1, e2⟩
    · exact ⟨a1, hp, a2⟩
    · obtain ⟨w1, w2, w3⟩ := R.own e0 h0
      have hh : e0.1 ∈ hs.map (·.1) := List.mem_map.mpr ⟨e0, h0, rfl⟩
      rcases e2 with ⟨_, e2⟩ | ⟨_, e2⟩
      · refine ⟨by rw [e1]; exact w1, by rw [e2]; exact xor_lt w2 hp, ?_⟩
        rw [e1, e2, Nat.testBit_xor, w3, no _ hh]; rfl
      · exact ⟨by rw [e1]; exact w1, by rw [e2]; exact w2, by rw [e1, e2]; exact w3⟩
  · intro e he h hh ne
    rw [hm] at hh
    rcases each e he with rfl | ⟨e0, h0, e1, e2⟩
    · rcases List.mem_append.mp hh with hh | hh
      · exact no h hh
      · exact absurd (by simpa using hh) ne
    · rcases List.mem_append.mp hh with hh | hh
      · have o := R.oth e0 h0 h hh (e1 ▸ ne)
        rcases e2 with ⟨_, e2⟩ | ⟨_, e2⟩
        · rw [e2, Nat.testBit_xor, o, no h hh]; rfl
        · rw [e2]; exact o
      · have hh : h = a := by simpa using hh
        subst hh
        rcases e2 with ⟨b, e2⟩ | ⟨b, e2⟩
        · rw [e2, Nat.testBit_xor, b, a2]; rfl
        · rw [e2]; exact b
  · intro x
    have pm : Spn ((lput hs a p).map (·.2.1)) p.1 := Spn.mem (List.mem_map.mpr ⟨(a, p.1, p.2), List.mem_append_right _ (by simp), rfl⟩)
    constructor
    · refine Spn.sub fun y hy => ?_
      obtain ⟨e, he, rfl⟩ := List.mem_map.mp hy
      have p2 : Spn (hs.map (·.2.1) ++ [p.1]) p.1 := Spn.mem (List.mem_append_right _ (by simp))
      rcases each e he with rfl | ⟨e0, h0, e1, e2⟩
      · exact p2
      · have o : Spn (hs.map (·.2.1) ++ [p.1]) e0.2.1 := Spn.mem (List.mem_append_left _ (List.mem_map.mpr ⟨e0, h0, rfl⟩))
        rcases e2 with ⟨_, e2⟩ | ⟨_, e2⟩
        · rw [e2]; exact Spn.xor o p2
        · rw [e2]; exact o
    · refine Spn.sub fun y hy => ?_
      rcases List.mem_append.mp hy with hy | hy
      · obtain ⟨e0, h0, rfl⟩ := List.mem_map.mp hy
        by_cases hb : e0.2.1.testBit a = true
        · have : Spn ((lput hs a p).map (·.2.1)) (e0.2.1 ^^^ p.1) := Spn.mem (List.mem_map.mpr ⟨(e0.1, e0.2.1 ^^^ p.1, e0.2.2 ^^^ p.2), List.mem_append_left _ (List.mem_map.mpr ⟨e0, h0, by rw [if_pos hb]⟩), rfl⟩)
          have := Spn.xor this pm
          rwa [xx] at this
        · exact Spn.mem (List.mem_map.mpr ⟨e0, List.mem_append_left _ (List.mem_map.mpr ⟨e0, h0, by rw [if_neg hb]⟩), rfl⟩)
      · have hy : y = p.1 := by simpa using hy
        rw [hy]; exact pm
def lflat (ls : List (Nat × Nat)) : Option (List (Nat × Nat × Nat)) := ls.foldl (fun o l => o.bind fun hs => lstep hs l) (some [])
theorem lflat_snoc (ls : List (Nat × Nat)) (l : Nat × Nat) : lflat (ls ++ [l]) = (lflat ls).bind fun hs => lstep hs l := by simp [lflat]
def zeroB (ms : List Nat) : List (Nat × Nat) := ms.map fun m => (m, 0)
theorem lred1_bit {hs : List (Nat × Nat × Nat)} (h0 : ∀ e ∈ hs, e.2.2 = 0) {p : Nat × Nat} (hp : p.2 = 0) (h : Nat) : (lred1 hs p h).2 = 0 := by
  unfold lred1
  split
  · split
    · next q e =>
      have := h0 _ (look_mem e)
      simp only at this
      show p.2 ^^^ q.2 = 0
      rw [hp, this]; rfl
    · exact hp
  · exact hp
theorem lred_bit {hs : List (Nat × Nat × Nat)} (h0 : ∀ e ∈ hs, e.2.2 = 0) {p : Nat × Nat} (hp : p.2 = 0) : (lred hs p).2 = 0 := by
  unfold lred
  generalize srt (hs.map (·.1)) = S
  induction S generalizing p with
  | nil => exact hp
  | cons k S ih => exact ih (lred1_bit h0 hp k)
theorem lflat_rows : ∀ (ms : List Nat), (∀ m ∈ ms, m < 2 ^ 63) → ∃ hs, lflat (zeroB ms) = some hs ∧ RedOk hs ∧ (∀ e ∈ hs, e.2.2 = 0) ∧ (∀ x, Spn (hs.map (·.2.1)) x ↔ Spn ms x) := by
  intro ms
  suffices h : ∀ n, ∀ ms : List Nat, ms.length = n → (∀ m ∈ ms, m < 2 ^ 63) → ∃ hs, lflat (zeroB ms) = some hs ∧ RedOk hs ∧ (∀ e ∈ hs, e.2.2 = 0) ∧ (∀ x, Spn (hs.map (·.2.1)) x ↔ Spn ms x) from h _ ms rfl
  intro n
  induction n with
  | zero =>
    intro ms hl _
    have : ms = [] := List.length_eq_zero_iff.mp hl
    subst this
    exact ⟨[], rfl, ⟨List.nodup_nil, (fun e he => by cases he), (fun e he => by cases he)⟩, (fun e he => by cases he), fun x => Iff.rfl⟩
  | succ n ih =>
    intro ms hl hm
    have hne : ms ≠ [] := by intro z; subst z; cases hl
    obtain ⟨pre, m, rfl⟩ : ∃ pre m, ms = pre ++ [m] := ⟨ms.dropLast, ms.getLast hne, (List.dropLast_concat_getLast hne).symm⟩
    obtain ⟨hs, f1, R, f3, f4⟩ := ih pre (by simpa using hl) fun x hx => hm x (List.mem_append_left _ hx)
    have hmm : m < 2 ^ 63 := hm m (List.mem_append_right _ List.mem_cons_self)
    have sn : lflat (zeroB (pre ++ [m])) = lstep hs (m, 0) := by
      unfold zeroB at f1 ⊢
      rw [List.map_append]
      show lflat (pre.map (fun m => (m, 0)) ++ [(m, 0)]) = _
      rw [lflat_snoc, f1]
      rfl
    have b0 : (lred hs (m, 0)).2 = 0 := lred_bit f3 rfl
    obtain ⟨l1, ⟨y, y1, y2⟩, l3⟩ := lred_spec R (p := (m, 0)) hmm
    have y2 : (lred hs (m, 0)).1 = m ^^^ y := y2
    rw [sn]
    unfold lstep
    cases e : low (lred hs (m, 0)).1 with
    | none =>
      have z0 := (low_none l1).mp e
      refine ⟨hs, by simp [b0], R, f3, fun x => ?_⟩
      rw [f4]
      constructor
      · exact Spn.left
      · refine Spn.sub fun a ha => ?_
        rcases List.mem_append.mp ha with ha | ha
        · exact Spn.mem ha
        · have ha : a = m := by simpa using ha
          subst ha
          have : a = y := by
            rw [z0] at y2
            have := congrArg (· ^^^ y) y2
            simp only [Nat.zero_xor] at this
            rw [xx] at this
            exact this.symm
          rw [this]
          exact (f4 y).mp y1
    | some a =>
      obtain ⟨g1, g2, g3⟩ := lput_ok R l1 e l3
      refine ⟨lput hs a (lred hs (m, 0)), rfl, g1, ?_, fun x => ?_⟩
      · intro e he
        rcases List.mem_append.mp he with he | he
        · obtain ⟨e0, h0, rfl⟩ := List.mem_map.mp he
          by_cases hb : e0.2.1.testBit a = true
          · rw [if_pos hb]
            show e0.2.2 ^^^ (lred hs (m, 0)).2 = 0
            rw [b0, f3 e0 h0]; rfl
          · rw [if_neg hb]; exact f3 e0 h0
        · have he : e = (a, (lred hs (m, 0)).1, (lred hs (m, 0)).2) := by simpa using he
          rw [he]; exact b0
      · rw [g3]
        have yp : Spn pre y := (f4 y).mp y1
        constructor
        · refine Spn.sub fun z hz => ?_
          rcases List.mem_append.mp hz with hz | hz
          · exact Spn.left ((f4 z).mp (Spn.mem hz))
          · have hz : z = (lred hs (m, 0)).1 := by simpa using hz
            rw [hz, y2]
            exact Spn.xor (Spn.mem (List.mem_append_right _ (by simp))) (Spn.left yp)
        · refine Spn.sub fun z hz => ?_
          rcases List.mem_append.mp hz with hz | hz
          · exact Spn.left ((f4 z).mpr (Spn.mem hz))
          · have hz : z = m := by simpa using hz
            have a1 : Spn (hs.map (·.2.1) ++ [(lred hs (m, 0)).1]) (lred hs (m, 0)).1 := Spn.mem (List.mem_append_right _ (by simp))
            have a2 := Spn.xor a1 (Spn.left (bs := [(lred hs (m, 0)).1]) y1)
            rw [y2, xx] at a2
            rw [hz, y2]; exact a2
def lrank (ms : List Nat) : Nat := ((lflat (zeroB ms)).getD []).length
theorem lrank_nil : lrank [] = 0 := rfl
theorem lrank_snoc {ms : List Nat} {m : Nat} (hm : ∀ x ∈ ms, x < 2 ^ 63) (hmm : m < 2 ^ 63) :
    (Spn ms m → lrank (ms ++ [m]) = lrank ms) ∧ (¬ Spn ms m → lrank (ms ++ [m]) = lrank ms + 1) := by
  obtain ⟨hs, f1, R, f3, f4⟩ := lflat_rows ms hm
  have sn : lflat (zeroB (ms ++ [m])) = lstep hs (m, 0) := by
    unfold zeroB at f1 ⊢
    rw [List.map_append]
    show lflat (ms.map (fun m => (m, 0)) ++ [(m, 0)]) = _
    rw [lflat_snoc, f1]
    rfl
  have b0 : (lred hs (m, 0)).2 = 0 := lred_bit f3 rfl
  obtain ⟨l1, ⟨y, y1, y2⟩, l3⟩ := lred_spec R (p := (m, 0)) hmm
  have y2 : (lred hs (m, 0)).1 = m ^^^ y := y2
  have l0 : lrank ms = hs.length := by unfold lrank; rw [f1]; rfl
  unfold lrank at l0 ⊢
  rw [sn]
  unfold lstep
  cases e : low (lred hs (m, 0)).1 with
  | none =>
    have z0 := (low_none l1).mp e
    have my : m = y := by
      rw [z0] at y2
      have := congrArg (· ^^^ y) y2
      simp only [Nat.zero_xor] at this
      rw [xx] at this
      exact this.symm
    refine ⟨fun _ => ?_, fun n => absurd ((f4 m).mp (my ▸ y1)) n⟩
    simp only [b0]
    rw [l0]; rfl
  | some a =>
    refine ⟨fun s => ?_, fun _ => ?_⟩
    · exfalso
      have : (lred hs (m, 0)).1 = 0 := red_zero R.nd (fun e he => (R.own e he).2.2) R.oth (by rw [y2]; exact Spn.xor ((f4 m).mpr s) y1) l3
      rw [this] at e
      cases e
    · show (lput hs a _).length = _
      unfold lput
      rw [List.length_append, List.length_map, l0]
      rfl
end Es
namespace Es
theorem lt_take {ms : List Nat} (h : ∀ x ∈ ms, x < 2 ^ 63) (k : Nat) : ∀ x ∈ ms.take k, x < 2 ^ 63 := fun x hx => h x (List.mem_of_mem_take hx)
theorem getD_lt {ms : List Nat} (h : ∀ x ∈ ms, x < 2 ^ 63) (k : Nat) : ms.getD k 0 < 2 ^ 63 := by
  rw [List.getD_eq_getElem?_getD]
  by_cases hk : k < ms.length
  · rw [List.getElem?_eq_getElem hk]; exact h _ (List.getElem_mem hk)
  · rw [List.getElem?_eq_none (by omega)]; decide
theorem take_snoc {ms : List Nat} {k : Nat} (hk : k < ms.length) : ms.take (k + 1) = ms.take k ++ [ms.getD k 0] := by
  rw [List.take_succ_eq_append_getElem hk, List.getD_eq_getElem?_getD, List.getElem?_eq_getElem hk]
  rfl
theorem rank_grows {ms : List Nat} (hm : ∀ x ∈ ms, x < 2 ^ 63) (hl : ms.length ≤ 62) {k : Nat} (hk : k < ms.length) :
    lrank (ms.take (k + 1)) = lrank (ms.take k) + (if k ∈ (elim ms).2.1.map (·.1) then 0 else 1) := by
  have O := elim_ok ms hm hl
  obtain ⟨a, b⟩ := lrank_snoc (lt_take hm k) (getD_lt hm k)
  rw [take_snoc hk]
  by_cases h : k ∈ (elim ms).2.1.map (·.1)
  · rw [if_pos h, a ((O.dep k hk).mp h), Nat.add_zero]
  · rw [if_neg h, b fun s => h ((O.dep k hk).mpr s)]
theorem lrank_count {ms : List Nat} (hm : ∀ x ∈ ms, x < 2 ^ 63) (hl : ms.length ≤ 62) : ∀ n, n ≤ ms.length →
    lrank (ms.take n) = ((List.range n).filter fun k => decide (k ∉ (elim ms).2.1.map (·.1))).length
  | 0, _ => by simp [lrank_nil]
  | n + 1, h => by
    rw [rank_grows hm hl (by omega), lrank_count hm hl n (by omega), List.range_succ, List.filter_append, List.length_append]
    congr 1
    by_cases q : n ∈ (elim ms).2.1.map (·.1)
    · rw [if_pos q, List.filter_cons, if_neg (by simp only [decide_eq_true_eq]; exact fun z => z q)]; rfl
    · rw [if_neg q, List.filter_cons, if_pos (by simp only [decide_eq_true_eq]; exact q)]; rfl
theorem lrank_indep {ms : List Nat} (hm : ∀ x ∈ ms, x < 2 ^ 63) (hl : ms.length ≤ 62) : lrank ms = (indep ms).length := by
  have := lrank_count hm hl ms.length (Nat.le_refl _)
  rwa [List.take_length] at this
theorem indep_all {ms : List Nat} (hm : ∀ x ∈ ms, x < 2 ^ 63) (hl : ms.length ≤ 62) (h : (elim ms).2.1 = []) : lrank ms = ms.length := by
  rw [lrank_indep hm hl]
  unfold indep
  rw [h, List.filter_eq_self.mpr fun a _ => by simp, List.length_range]
end Es
set_option Elab.async false
set_option linter.all false
set_option maxRecDepth 100000
set_option maxHeartbeats 4000000
namespace Es
open PySem PySem.Spec PyProof.Rows L2
def But (b : Addr) (H H' : Hp) : Prop := ∀ a o, a ≠ b → H a = some o → H' a = some o
theorem But.refl (b : Addr) (H : Hp) : But b H H := fun _ _ _ h => h
theorem But.trans {b : Addr} {H H1 H2 : Hp} (h : But b H H1) (k : But b H1 H2) : But b H H2 := fun a o n e => k a o n (h a o n e)
theorem But.same {b : Addr} {H H' : Hp} (h : Same H H') : But b H H' := fun a o _ e => h a o e
theorem same_new {H : Hp} {p : Addr} {o : HO} (h : H p = none) : Same H (upd H p o) := fun b x e => by
  rw [upd_ne (ne_of_none e h)]
  exact e
theorem But.new {b : Addr} {H : Hp} {p : Addr} {o : HO} (h : H p = none) : But b H (upd H p o) := But.same (same_new h)
theorem But.at_ {b : Addr} {H : Hp} {o : HO} : But b H (upd H b o) := fun a x n e => by
  rw [upd_ne n]
  exact e
theorem same_mut {H H' : Hp} {p : Addr} {o : HO} (s : Same H H') (h : H p = none) : Same H (upd H' p o) := fun b x e => by
  rw [upd_ne (ne_of_none e h)]
  exact s b x e
theorem sqT_same {K : PySem.W.Frag} {H H' : Hp} {a : Addr} {xs : List V} (s : Same H H') (h : SqT K H a xs) : SqT K H' a xs := by
  rcases h with (h | ⟨o, h⟩) | h
  · exact .inl (.inl (s _ _ h))
  · exact .inl (.inr ⟨o, s _ _ h⟩)
  · exact .inr h
theorem sqT_but {K : PySem.W.Frag} {H H' : Hp} {a b : Addr} {xs ys : List V} (hb : H b = some (.lst ys)) (s : But b H H') (h : SqT K H a xs) : SqT K H' a xs := by
  rcases h with (h | ⟨o, h⟩) | h
  · exact .inl (.inl (s _ _ (ne_of h hb (by intro z; cases z)) h))
  · exact .inl (.inr ⟨o, s _ _ (ne_of h hb (by intro z; cases z)) h⟩)
  · exact .inr h
def iv (l : List Nat) : List V := l.map fun (n : Nat) => V.int (n : Int)
theorem iv_len (l : List Nat) : (iv l).length = l.length := by simp [iv]
theorem iv_get {l : List Nat} {i : Nat} {x : V} (h : (iv l)[i]? = some x) : ∃ n, l[i]? = some n ∧ x = .int (n : Int) := by
  unfold iv at h
  rw [List.getElem?_map] at h
  cases e : l[i]? with
  | none => rw [e] at h; cases h
  | some n => rw [e] at h; exact ⟨n, rfl, (Option.some.inj h).symm⟩
def SumV (K : PySem.W.Frag) (H : Hp) (v : V) (m : Nat) : Prop := ∃ a, v = .ref a ∧ SqT K H a (iv (bts m))
theorem SumV.same {K : PySem.W.Frag} {H H' : Hp} {v : V} {m : Nat} (s : Same H H') (h : SumV K H v m) : SumV K H' v m := by
  obtain ⟨a, e, h⟩ := h
  exact ⟨a, e, sqT_same s h⟩
theorem SumV.but {K : PySem.W.Frag} {H H' : Hp} {v : V} {m : Nat} {b : Addr} {ys : List V} (hb : H b = some (.lst ys)) (s : But b H H') (h : SumV K H v m) : SumV K H' v m := by
  obtain ⟨a, e, h⟩ := h
  exact ⟨a, e, sqT_but hb s h⟩
theorem Paired.get {α β : Type} {R : α → β → Prop} : ∀ {xs : List α} {ys : List β} {i : Nat} {x : α}, Paired R xs ys → xs[i]? = some x → ∃ y, ys[i]? = some y ∧ R x y
  | _, _, i, x, .nil, h => by simp at h
  | _, _, 0, x, .cons r _, h => by
    have h := Option.some.inj h
    subst h
    exact ⟨_, rfl, r⟩
  | _, _, i + 1, x, .cons _ t, h => Paired.get (i := i) t (by simpa using h)
theorem Paired.mono2 {α β : Type} {R S : α → β → Prop} (f : ∀ a b, R a b → S a b) : ∀ {xs : List α} {ys : List β}, Paired R xs ys → Paired S xs ys
  | _, _, .nil => .nil
  | _, _, .cons r t => .cons (f _ _ r) (Paired.mono2 f t)
theorem Paired.len {α β : Type} {R : α → β → Prop} : ∀ {xs : List α} {ys : List β}, Paired R xs ys → xs.length = ys.length
  | _, _, .nil => rfl
  | _, _, .cons _ t => congrArg (· + 1) (Paired.len t)
theorem sums_same {K : PySem.W.Frag} {H H' : Hp} {us : List V} {ms : List Nat} (s : Same H H') (h : Paired (SumV K H) us ms) : Paired (SumV K H') us ms := Paired.mono2 (fun _ _ => SumV.same s) h
theorem sums_but {K : PySem.W.Frag} {H H' : Hp} {us : List V} {ms : List Nat} {b : Addr} {ys : List V} (hb : H b = some (.lst ys)) (s : But b H H') (h : Paired (SumV K H) us ms) : Paired (SumV K H') us ms := Paired.mono2 (fun _ _ => SumV.but hb s) h
def DictM (kvs : List (Key × V)) (m : Nat) : Prop := ∃ ks : List Nat, kvs = ks.map (fun (u : Nat) => ((Sum.inl (u : Int) : Key), V.bl true)) ∧ ks.Nodup ∧ ∀ u, u ∈ ks ↔ u < 63 ∧ m.testBit u = true
theorem dictM_nil : DictM [] 0 := ⟨[], rfl, List.nodup_nil, fun u => by simp⟩
theorem key_inj {a b : Nat} (h : (Sum.inl (a : Int) : Key) = Sum.inl (b : Int)) : a = b := by
  have h := Sum.inl.inj h
  omega
theorem dictM_val {kvs : List (Key × V)} {m u : Nat} (h : DictM kvs m) (hu : u < 63) : (valV kvs (Sum.inl (u : Int) : Key)).isSome = m.testBit u := by
  obtain ⟨ks, rfl, nd, hk⟩ := h
  rw [← valV_any]
  cases e : m.testBit u with
  | true =>
    refine List.any_eq_true.mpr ⟨(Sum.inl (u : Int), V.bl true), List.mem_map.mpr ⟨u, (hk u).mpr ⟨hu, e⟩, rfl⟩, by simp⟩
  | false =>
    rw [List.any_eq_false]
    intro x hx
    obtain ⟨v, hv, rfl⟩ := List.mem_map.mp hx
    simp only [decide_eq_true_eq]
    intro z
    have z := key_inj z
    subst z
    rw [((hk v).mp hv).2] at e
    cases e
theorem bit_toggle {m u v : Nat} : (m ^^^ 2 ^ u).testBit v = (if v = u then !m.testBit v else m.testBit v) := by
  rw [Nat.testBit_xor]
  by_cases e : v = u
  · subst e
    rw [if_pos rfl, Nat.testBit_two_pow_self]
    cases m.testBit v <;> rfl
  · rw [if_neg e, Nat.testBit_two_pow_of_ne (Ne.symm e)]
    cases m.testBit v <;> rfl
theorem dictM_drop {kvs : List (Key × V)} {m u : Nat} (h : DictM kvs m) (hb : m.testBit u = true) : DictM (dropK kvs (Sum.inl (u : Int) : Key)) (m ^^^ 2 ^ u) := by
  obtain ⟨ks, rfl, nd, hk⟩ := h
  refine ⟨ks.filter (fun v => decide (v ≠ u)), ?_, nd.filter _, fun v => ?_⟩
  · unfold dropK
    rw [List.filter_map]
    congr 1
    refine List.filter_congr fun v _ => ?_
    show decide ((Sum.inl (v : Int) : Key) ≠ Sum.inl (u : Int)) = decide (v ≠ u)
    by_cases e : v = u
    · subst e; simp
    · rw [decide_eq_true e]
      exact decide_eq_true fun z => e (key_inj z)
  · rw [List.mem_filter, hk, bit_toggle, decide_eq_true_eq]
    by_cases e : v = u
    · subst e
      rw [if_pos rfl, hb]
      simp
    · rw [if_neg e]
      exact ⟨fun x => x.1, fun x => ⟨x, e⟩⟩
theorem dictM_put {kvs : List (Key × V)} {m u : Nat} (h : DictM kvs m) (hu : u < 63) (hb : m.testBit u = false) : DictM (putK kvs (Sum.inl (u : Int) : Key) (.bl true)) (m ^^^ 2 ^ u) := by
  have hv := dictM_val h hu
  rw [hb] at hv
  have hn : valV kvs (Sum.inl (u : Int) : Key) = none := by
    cases e : valV kvs (Sum.inl (u : Int) : Key) with
    | none => rfl
    | some x => rw [e] at hv; cases hv
  rw [putK_new _ hn]
  obtain ⟨ks, rfl, nd, hk⟩ := h
  have nu : u ∉ ks := fun z => by rw [((hk u).mp z).2] at hb; cases hb
  refine ⟨ks ++ [u], by simp, ?_, fun v => ?_⟩
  · refine List.nodup_append.mpr ⟨nd, by simp, fun a ha b hb' => ?_⟩
    have hb' : b = u := by simpa using hb'
    subst hb'
    exact fun z => nu (z ▸ ha)
  · rw [List.mem_append, hk, bit_toggle]
    by_cases e : v = u
    · subst e
      rw [if_pos rfl, hb]
      simp [hu]
    · rw [if_neg e]
      simp [e]
theorem dictM_len {kvs : List (Key × V)} {m : Nat} (h : DictM kvs m) : kvs.length ≤ 63 := by
  obtain ⟨ks, rfl, nd, hk⟩ := h
  rw [List.length_map]
  have : ks.Perm (bts m) := (List.perm_ext_iff_of_nodup nd ((bts_lt m).imp fun h => Nat.ne_of_lt h)).mpr fun u => by rw [hk, mem_bts]
  rw [this.length_eq]
  exact bts_len m
theorem dictM_keys {kvs : List (Key × V)} {m : Nat} (h : DictM kvs m) : ∃ ks : List Int, kvs.map (·.1) = ks.map Sum.inl ∧ ks.length < 64 ∧ ∀ ys : List Int, ys.Perm ks → ys.Pairwise (· ≤ ·) → ys.map V.int = iv (bts m) := by
  have hl := dictM_len h
  obtain ⟨ks, rfl, nd, hk⟩ := h
  refine ⟨ks.map Int.ofNat, by simp [List.map_map, Function.comp_def], by simp at hl ⊢; omega, fun ys hp hs => ?_⟩
  have hy : ∀ y ∈ ys, ∃ u : Nat, y = Int.ofNat u := fun y m => by
    have := hp.mem_iff.mp m
    obtain ⟨u, _, e⟩ := List.mem_map.mp this
    exact ⟨u, e.symm⟩
  have ey : ys = (ys.map Int.toNat).map Int.ofNat := by
    rw [List.map_map]
    conv => lhs; rw [← List.map_id ys]
    refine List.map_congr_left fun y m => ?_
    obtain ⟨u, rfl⟩ := hy y m
    rfl
  have hnd : ys.Nodup := hp.nodup_iff.mpr (List.Pairwise.map _ (fun a b h e => h (Int.ofNat.inj e)) nd)
  have hlt : (ys.map Int.toNat).Pairwise (· < ·) := by
    rw [List.pairwise_map]
    refine (hs.and hnd).imp_of_mem ?_
    intro a b ha hb hab
    obtain ⟨u, rfl⟩ := hy a ha
    obtain ⟨v, rfl⟩ := hy b hb
    obtain ⟨h1, h2⟩ := hab
    have : u ≤ v := by simpa using h1
    have : u ≠ v := fun z => h2 (by rw [z])
    show u < v
    omega
  have hmem : ∀ u, u ∈ ys.map Int.toNat ↔ u < 63 ∧ m.testBit u = true := fun u => by
    rw [← hk]
    constructor
    · intro h
      obtain ⟨y, hy1, e⟩ := List.mem_map.mp h
      obtain ⟨v, hv, e2⟩ := List.mem_map.mp (hp.mem_iff.mp hy1)
      subst e2
      have e : v = u := e
      rw [← e]
      exact hv
    · intro h
      exact List.mem_map.mpr ⟨Int.ofNat u, hp.mem_iff.mpr (List.mem_map.mpr ⟨u, h, rfl⟩), rfl⟩
  have e := bts_of hlt hmem
  rw [ey, ← e]
  unfold iv
  rw [List.map_map]
  rfl
def xall (ms : List Nat) : Nat := ms.foldl (· ^^^ ·) 0
theorem xall_nil : xall [] = 0 := rfl
theorem xall_snoc (ms : List Nat) (m : Nat) : xall (ms ++ [m]) = xall ms ^^^ m := by simp [xall]
theorem xall_take {ms : List Nat} {i : Nat} {m : Nat} (h : ms[i]? = some m) : xall (ms.take (i + 1)) = xall (ms.take i) ^^^ m := by
  obtain ⟨hi, e⟩ := List.getElem?_eq_some_iff.mp h
  rw [List.take_succ_eq_append_getElem hi, e, xall_snoc]
theorem xall_lt {ms : List Nat} (h : ∀ m ∈ ms, m < 2 ^ 63) : xall ms < 2 ^ 63 := by
  have : ∀ (l : List Nat) (a : Nat), a < 2 ^ 63 → (∀ m ∈ l, m < 2 ^ 63) → l.foldl (· ^^^ ·) a < 2 ^ 63 := by
    intro l
    induction l with
    | nil => intro a ha _; exact ha
    | cons m l ih =>
      intro a ha hm
      exact ih _ (xor_lt ha (hm m List.mem_cons_self)) fun x hx => hm x (List.mem_cons_of_mem _ hx)
  exact this ms 0 (by decide) h
def msk (l : List Nat) : Nat := xall (l.map (2 ^ ·))
theorem msk_take {l : List Nat} {j u : Nat} (h : l[j]? = some u) : msk (l.take (j + 1)) = msk (l.take j) ^^^ 2 ^ u := by
  unfold msk
  rw [List.map_take, List.map_take]
  exact xall_take (by rw [List.getElem?_map, h]; rfl)
theorem msk_bit {l : List Nat} (nd : l.Nodup) (v : Nat) : (msk l).testBit v = decide (v ∈ l) := by
  suffices h : ∀ n, ∀ l : List Nat, l.length = n → l.Nodup → (msk l).testBit v = decide (v ∈ l) from h _ l rfl nd
  intro n
  induction n with
  | zero =>
    intro l hl _
    have : l = [] := List.length_eq_zero_iff.mp hl
    subst this
    simp [msk, xall]
  | succ n ih =>
    intro l hl nd
    have hne : l ≠ [] := by intro z; subst z; cases hl
    obtain ⟨pre, u, rfl⟩ : ∃ pre u, l = pre ++ [u] := ⟨l.dropLast, l.getLast hne, (List.dropLast_concat_getLast hne).symm⟩
    obtain ⟨n1, n2, n3⟩ := List.nodup_append.mp nd
    have e : msk (pre ++ [u]) = msk pre ^^^ 2 ^ u := by
      unfold msk
      rw [List.map_append]
      exact xall_snoc _ _
    rw [e, bit_toggle, ih pre (by simpa using hl) n1]
    by_cases z : v = u
    · subst z
      have : v ∉ pre := fun m => n3 v m v (by simp) rfl
      simp [this]
    · rw [if_neg z]
      simp [z]
theorem bts_nodup (m : Nat) : (bts m).Nodup := (bts_lt m).imp fun h => Nat.ne_of_lt h
theorem msk_bts {m : Nat} (h : m < 2 ^ 63) : msk (bts m) = m := by
  refine Nat.eq_of_testBit_eq fun u => ?_
  rw [msk_bit (bts_nodup m)]
  by_cases hu : u < 63
  · cases e : m.testBit u with
    | true => exact decide_eq_true (mem_bts.mpr ⟨hu, e⟩)
    | false => exact decide_eq_false fun z => by rw [(mem_bts.mp z).2] at e; cases e
  · rw [bit_ge h (by omega)]
    exact decide_eq_false fun z => hu (mem_bts.mp z).1
def lookB {β : Type} (bs : List (Nat × β)) (h : Nat) : Option β := (bs.find? fun b => decide (b.1 = h)).map (·.2)
def DictR {β : Type} (S : V → β → Prop) : List (Key × V) → List (Nat × β) → Prop := Paired fun kv b => kv.1 = Sum.inl (b.1 : Int) ∧ S kv.2 b.2
theorem DictR.imp {β : Type} {S S' : V → β → Prop} (f : ∀ v b, S v b → S' v b) {kvs : List (Key × V)} {bs : List (Nat × β)} (h : DictR S kvs bs) : DictR S' kvs bs :=
  Paired.mono2 (fun _ _ h => ⟨h.1, f _ _ h.2⟩) h
theorem DictR.val {β : Type} {S : V → β → Prop} {h : Nat} : ∀ {kvs : List (Key × V)} {bs : List (Nat × β)}, DictR S kvs bs →
    (lookB bs h = none → valV kvs (Sum.inl (h : Int) : Key) = none) ∧ (∀ b, lookB bs h = some b → ∃ v, valV kvs (Sum.inl (h : Int) : Key) = some v ∧ S v b)
  | _, _, .nil => ⟨fun _ => rfl, fun _ e => by cases e⟩
  | kv :: kvs, b :: bs, .cons ⟨r1, r2⟩ t => by
    obtain ⟨i1, i2⟩ := DictR.val (h := h) (show DictR S kvs bs from t)
    by_cases e : b.1 = h
    · have e1 : kv.1 = Sum.inl (h : Int) := by rw [r1, e]
      have l : lookB (b :: bs) h = some b.2 := by simp [lookB, List.find?_cons, e]
      rw [l, valV_pos e1]
      refine ⟨(fun z => by cases z), fun c z => ?_⟩
      have z := Option.some.inj z
      subst z
      exact ⟨_, rfl, r2⟩
    · have e1 : ¬ kv.1 = Sum.inl (h : Int) := fun z => e (key_inj (r1.symm.trans z))
      have l : lookB (b :: bs) h = lookB bs h := by simp [lookB, List.find?_cons, e]
      rw [l, valV_neg e1]
      exact ⟨i1, i2⟩
theorem DictR.put {β : Type} {S : V → β → Prop} {kvs : List (Key × V)} {bs : List (Nat × β)} {h : Nat} {v : V} {b : β} (d : DictR S kvs bs) (no : lookB bs h = none) (s : S v b) :
    DictR S (putK kvs (Sum.inl (h : Int) : Key) v) (bs ++ [(h, b)]) := by
  rw [putK_new _ (d.val.1 no)]
  exact PySem.Paired.snoc d ⟨rfl, s⟩
theorem low_cons {m h : Nat} (e : low m = some h) : ∃ t, bts m = h :: t := by
  unfold low at e
  cases q : bts m with
  | nil => rw [q] at e; cases e
  | cons x t =>
    rw [q] at e
    have e : x = h := Option.some.inj e
    subst e
    exact ⟨t, rfl⟩
theorem low_nil {m : Nat} (e : low m = none) : bts m = [] := List.head?_eq_none_iff.mp e
theorem emp_low {m : Nat} : (!(iv (bts m)).isEmpty) = (low m).isSome := by
  unfold low iv
  cases bts m <;> rfl
def PairV (K : PySem.W.Frag) (H : Hp) (v : V) (p : Nat × Nat) : Prop := ∃ t r u, v = .ref t ∧ SqT K H t [r, u] ∧ SumV K H r p.1 ∧ SumV K H u p.2
theorem PairV.same {K : PySem.W.Frag} {H H' : Hp} (s : Same H H') {v : V} {p : Nat × Nat} (h : PairV K H v p) : PairV K H' v p := by
  obtain ⟨t, r, u, e, h1, h2, h3⟩ := h
  exact ⟨t, r, u, e, sqT_same s h1, h2.same s, h3.same s⟩
def OptSum (K : PySem.W.Frag) (H : Hp) (v : V) : Option Nat → Prop
  | none => v = .non
  | some m => SumV K H v m
def sumBy (ms : List Nat) (m : Nat) : Option Nat := if (rest 64 (elim ms).1 m 0).1 = 0 then some (rest 64 (elim ms).1 m 0).2 else none
def lotOf (ms : List Nat) : Option Nat := ((elim ms).2.1.head?).map (·.2)
theorem sqT_updK {K : PySem.W.Frag} {H : Hp} {a b : Addr} {xs : List V} {kvs : List (Key × V)} {o : HO} (hb : H b = some (.dK kvs)) (h : SqT K H a xs) : SqT K (upd H b o) a xs := by
  rcases h with (h | ⟨u, h⟩) | h
  · exact .inl (.inl (by rw [upd_ne (ne_of h hb (by intro z; cases z))]; exact h))
  · exact .inl (.inr ⟨u, by rw [upd_ne (ne_of h hb (by intro z; cases z))]; exact h⟩)
  · exact .inr h
theorem SumV.updK {K : PySem.W.Frag} {H : Hp} {b : Addr} {kvs : List (Key × V)} {o : HO} {v : V} {m : Nat} (hb : H b = some (.dK kvs)) (h : SumV K H v m) : SumV K (upd H b o) v m := by
  obtain ⟨a, e, h⟩ := h
  exact ⟨a, e, sqT_updK hb h⟩
theorem PairV.updK {K : PySem.W.Frag} {H : Hp} {b : Addr} {kvs : List (Key × V)} {o : HO} {v : V} {p : Nat × Nat} (hb : H b = some (.dK kvs)) (h : PairV K H v p) : PairV K (upd H b o) v p := by
  obtain ⟨t, r, u, e, h1, h2, h3⟩ := h
  exact ⟨t, r, u, e, sqT_updK hb h1, h2.updK hb, h3.updK hb⟩
theorem bts_pow {i : Nat} (h : i < 63) : bts (2 ^ i) = [i] := by
  refine (bts_of (by simp) fun u => ?_).symm
  by_cases e : u = i
  · subst e
    simp [h]
  · rw [Nat.testBit_two_pow_of_ne (Ne.symm e)]
    simp [e]
theorem pow_lt63 {i : Nat} (h : i < 63) : 2 ^ i < 2 ^ 63 := Nat.pow_lt_pow_right (by decide) h
theorem for_enum {K : PySem.W.Frag} {a : Addr} {xs : List V} {g : TG} {tb : TS} {D : Ends} {σ : L2.St} {H : Hp} (Pv : Nat → L2.St → Hp → Prop) (h0 : Pv 0 σ H) (hl : ∀ i σ H, Pv i σ H → SqL K H a xs)
    (hs : ∀ i x T σ H, xs[i]? = some x → Pv i σ H → H T = none → g (.ref T) σ (upd H T (.tup [.int (i : Nat), x])) fun σ2 H2 => tb { D with nx := Pv (i + 1), ct := Pv (i + 1), bk := D.nx } σ2 H2)
    (hd : ∀ σ H, Pv xs.length σ H → D.nx σ H) :
    ∃ W : Nat → Nat → L2.St → Hp → Prop, (∃ m, W 0 m σ H) ∧ ∀ i m σ H, W i m σ H →
      ((Ite K a).stop i H ∧ D.nx σ H) ∨ ((Ite K a).go i H ∧ ∃ N : L2.St → Hp → Prop, (∀ σ' H', N σ' H' → ∃ m', m' < m ∧ W (i + 1) m' σ' H') ∧ ∀ x H', (Ite K a).yld i H x H' → g x σ H' fun σ2 H2 => tb { D with nx := N, ct := N, bk := D.nx } σ2 H2) := by
  refine ⟨fun i m σ H => i + m = xs.length ∧ Pv i σ H, ⟨xs.length, Nat.zero_add _, h0⟩, ?_⟩
  intro i m σ H hw
  obtain ⟨hm, p⟩ := hw
  have q := hl i σ H p
  by_cases lt : i < xs.length
  · refine .inr ⟨⟨xs, xs[i], q, List.getElem?_eq_getElem lt⟩, Pv (i + 1), fun σ' H' p' => ⟨m - 1, by omega, by omega, p'⟩, ?_⟩
    rintro x H' ⟨T, y, rfl, nT, rfl, f⟩
    have ey := (f xs q).symm.trans (List.getElem?_eq_getElem lt)
    have ey := Option.some.inj ey
    subst ey
    exact hs i _ T σ H (List.getElem?_eq_getElem lt) p nT
  · have e : i = xs.length := by omega
    subst e
    exact .inl ⟨⟨xs, q, Nat.le_refl _⟩, hd σ H p⟩
theorem cut_ints (cs : List Int) (lo hi : Option Int) (h : ∀ n ∈ cs, 0 ≤ n) : ∃ ds : List Int, cutV (cs.map V.int) lo hi = ds.map V.int ∧ (∀ n ∈ ds, 0 ≤ n) ∧ ds.length ≤ cs.length := by
  have hl := cutV_length (cs.map V.int) lo hi
  unfold cutV at hl ⊢
  rw [← List.map_drop, ← List.map_take] at hl ⊢
  refine ⟨_, rfl, fun n hn => h n (List.mem_of_mem_drop (List.mem_of_mem_take hn)), ?_⟩
  simpa using hl
end Es
set_option Elab.async false
set_option linter.all false
set_option maxRecDepth 100000
set_option maxHeartbeats 4000000
namespace Es
open PySem PySem.Spec PyProof.Rows L2
theorem and_one (n : Nat) : Builtin.bitAnd (n : Int) 1 = ((n % 2 : Nat) : Int) := by
  rw [bitAnd_pp (Int.natCast_nonneg _) (by decide)]
  show ((n &&& 1 : Nat) : Int) = _
  rw [Nat.and_one_is_mod]
theorem shr_nat (m u : Nat) : (m : Int) / 2 ^ ((u : Int).toNat) = ((m / 2 ^ u : Nat) : Int) := by
  rw [Int.toNat_natCast]
  norm_cast
theorem shr_and (m u : Nat) : Builtin.bitAnd ((m : Int) / 2 ^ ((u : Int).toNat)) 1 = if m.testBit u = true then 1 else 0 := by
  rw [shr_nat, and_one]
  have e : m.testBit u = decide (m / 2 ^ u % 2 = 1) := Nat.testBit_eq_decide_div_mod_eq
  rw [e]
  by_cases h : m / 2 ^ u % 2 = 1
  · rw [if_pos (decide_eq_true h), h]; rfl
  · rw [if_neg (by simp [h])]
    have : m / 2 ^ u % 2 = 0 := by omega
    rw [this]; rfl
theorem xor_nat (a b : Nat) : Builtin.bitXor (a : Int) (b : Int) = ((a ^^^ b : Nat) : Int) := by
  rw [Bits.bitXor_pp (Int.natCast_nonneg _) (Int.natCast_nonneg _), Int.toNat_natCast, Int.toNat_natCast]
theorem or_nat (a b : Nat) : Builtin.bitOr (a : Int) (b : Int) = ((a ||| b : Nat) : Int) := by
  rw [Bits.bitOr_pp (Int.natCast_nonneg _) (Int.natCast_nonneg _), Int.toNat_natCast, Int.toNat_natCast]
theorem shl_one (u : Nat) : (1 : Int) * 2 ^ ((u : Int).toNat) = ((2 ^ u : Nat) : Int) := by
  rw [Int.toNat_natCast]
  norm_cast
  rw [Nat.one_mul]
theorem and_negG {m l : Nat} (h2 : m.testBit l = true) (h3 : ∀ j, j < l → m.testBit j = false) : Builtin.bitAnd (m : Int) (-(m : Int)) = ((2 ^ l : Nat) : Int) := by
  have z : m % 2 ^ l = 0 := by
    refine Nat.eq_of_testBit_eq fun j => ?_
    rw [Nat.testBit_mod_two_pow, Nat.zero_testBit]
    by_cases hj : j < l
    · rw [h3 j hj, Bool.and_false]
    · rw [decide_eq_false hj, Bool.false_and]
  have o : m / 2 ^ l % 2 = 1 := by
    have := h2
    rw [Nat.testBit_eq_decide_div_mod_eq] at this
    exact of_decide_eq_true this
  have p0 : 0 < 2 ^ l := Nat.two_pow_pos l
  obtain ⟨q, hq⟩ : ∃ q, m / 2 ^ l = 2 * q + 1 := ⟨m / 2 ^ l / 2, by omega⟩
  have p1 : 2 ^ (l + 1) = 2 * 2 ^ l := by rw [Nat.pow_succ]; omega
  have em : m = 2 ^ (l + 1) * q + 2 ^ l := by
    have d := Nat.div_add_mod m (2 ^ l)
    rw [z, hq] at d
    have e2 : 2 ^ l * (2 * q + 1) = 2 * (2 ^ l * q) + 2 ^ l := by rw [Nat.mul_add, Nat.mul_one, Nat.mul_left_comm]
    have e3 : 2 ^ (l + 1) * q = 2 * (2 ^ l * q) := by rw [p1, Nat.mul_assoc]
    omega
  have mpos : 0 < m := by omega
  have em1 : m - 1 = 2 ^ (l + 1) * q + (2 ^ l - 1) := by omega
  have ea : m &&& (m - 1) = 2 ^ (l + 1) * q := by
    refine Nat.eq_of_testBit_eq fun j => ?_
    rw [Nat.testBit_and]
    have a1 : m.testBit j = if j < l + 1 then (2 ^ l).testBit j else q.testBit (j - (l + 1)) := by
      conv => lhs; rw [em]
      exact Nat.testBit_two_pow_mul_add q (by omega) j
    have a2 : (m - 1).testBit j = if j < l + 1 then (2 ^ l - 1).testBit j else q.testBit (j - (l + 1)) := by
      rw [em1]
      exact Nat.testBit_two_pow_mul_add q (by omega) j
    have a3 : (2 ^ (l + 1) * q).testBit j = if j < l + 1 then (0 : Nat).testBit j else q.testBit (j - (l + 1)) := by
      have := Nat.testBit_two_pow_mul_add q (b := 0) (i := l + 1) (Nat.two_pow_pos _) j
      rw [Nat.add_zero] at this
      exact this
    rw [a1, a2, a3]
    by_cases hj : j < l + 1
    · rw [if_pos hj, if_pos hj, if_pos hj, Nat.zero_testBit]
      by_cases e : j = l
      · subst e
        rw [Nat.testBit_two_pow_sub_one, decide_eq_false (Nat.lt_irrefl _), Bool.and_false]
      · rw [Nat.testBit_two_pow_of_ne (Ne.symm e), Bool.false_and]
    · rw [if_neg hj, if_neg hj, if_neg hj, Bool.and_self]
  rw [bitAnd_pn (Int.natCast_nonneg _) (by omega), Int.toNat_natCast]
  have eb : (Builtin.bitNot (-(m : Int))).toNat = m - 1 := by
    unfold Builtin.bitNot
    omega
  rw [eb, ea]
  omega
theorem and_neg {m l : Nat} (h : low m = some l) : Builtin.bitAnd (m : Int) (-(m : Int)) = ((2 ^ l : Nat) : Int) := and_negG (low_iff.mp h).2.1 (low_iff.mp h).2.2
theorem bits_pow (l : Nat) : Builtin.Int.intBits ((2 ^ l : Nat) : Int) = l + 1 := by
  unfold Builtin.Int.intBits
  have p : 0 < 2 ^ l := Nat.two_pow_pos l
  have h : ((((2 ^ l : Nat) : Int)) == 0) = false := by
    rw [beq_eq_false_iff_ne]
    omega
  rw [h]
  show (((2 ^ l : Nat) : Int)).natAbs.log2 + 1 = l + 1
  rw [Int.natAbs_natCast, Nat.log2_two_pow]
theorem lt_bits (m : Nat) : m < 2 ^ Builtin.Int.intBits (m : Int) := by
  unfold Builtin.Int.intBits
  by_cases h : m = 0
  · subst h
    decide
  · have e : (((m : Int)) == 0) = false := by
      rw [beq_eq_false_iff_ne]
      omega
    rw [e]
    show m < 2 ^ ((m : Int).natAbs.log2 + 1)
    rw [Int.natAbs_natCast]
    exact Nat.lt_log2_self
end Es
set_option Elab.async false
set_option linter.all false
set_option maxRecDepth 100000
set_option maxHeartbeats 4000000
namespace Es
open PySem PySem.Spec PyProof.Rows L2
def sp_together (K : PySem.W.Frag) : Sp := fun vs H Q _ => ∃ (a : Addr) (us : List V) (ms : List Nat), vs = [.ref a] ∧ SqL K H a us ∧ Paired (SumV K H) us ms ∧ (∀ m ∈ ms, m < 2 ^ 63) ∧
  ∀ H' p, Same H H' → H p = none → H' p = some (.tup (iv (bts (xall ms)))) → Q (.ref p) H'
def sp_rest (K : PySem.W.Frag) : Sp := fun vs H Q _ => ∃ (d : Addr) (kvs : List (Key × V)) (bs : List (Nat × Nat × Nat)) (vr vu : V) (m u : Nat), vs = [.ref d, vr, vu] ∧ H d = some (.dK kvs) ∧ DictR (PairV K H) kvs bs ∧
  (∀ b ∈ bs, low b.2.1 = some b.1 ∧ b.2.1 < 2 ^ 63 ∧ b.2.2 < 2 ^ 63) ∧ SumV K H vr m ∧ SumV K H vu u ∧ m < 2 ^ 63 ∧ u < 2 ^ 63 ∧
  ∀ H' p r v, Same H H' → H p = none → H' p = some (.tup [r, v]) → SumV K H' r (rest 64 bs m u).1 → SumV K H' v (rest 64 bs m u).2 → Q (.ref p) H'
def Sums (K : PySem.W.Frag) (H : Hp) (a : Addr) (us : List V) (ms : List Nat) : Prop := SqL K H a us ∧ Paired (SumV K H) us ms ∧ (∀ m ∈ ms, m < 2 ^ 63) ∧ ms.length ≤ 62
def sp_eliminated (K : PySem.W.Frag) : Sp := fun vs H Q _ => ∃ (a : Addr) (us : List V) (ms : List Nat), vs = [.ref a] ∧ Sums K H a us ms ∧
  ∀ H' p d1 d2 k1 k2, Same H H' → H p = none → H' p = some (.tup [.ref d1, .ref d2]) → H d1 = none → H d2 = none → H' d1 = some (.dK k1) → H' d2 = some (.dK k2) →
    DictR (PairV K H') k1 (elim ms).1 → DictR (SumV K H') k2 (elim ms).2.1 → Q (.ref p) H'
def sp_sum_by (K : PySem.W.Frag) : Sp := fun vs H Q _ => ∃ (a : Addr) (us : List V) (ms : List Nat) (vr : V) (m : Nat), vs = [.ref a, vr] ∧ Sums K H a us ms ∧ SumV K H vr m ∧ m < 2 ^ 63 ∧
  ∀ H' v, Same H H' → OptSum K H' v (sumBy ms m) → Q v H'
def sp_dependent_lot (K : PySem.W.Frag) : Sp := fun vs H Q _ => ∃ (a : Addr) (us : List V) (ms : List Nat), vs = [.ref a] ∧ Sums K H a us ms ∧
  ∀ H' v, Same H H' → OptSum K H' v (lotOf ms) → Q v H'
def sp_independent_among (K : PySem.W.Frag) : Sp := fun vs H Q _ => ∃ (a : Addr) (us : List V) (ms : List Nat), vs = [.ref a] ∧ Sums K H a us ms ∧
  ∀ H' p, Same H H' → H p = none → H' p = some (.lst (iv (indep ms))) → Q (.ref p) H'
def sp_rank_of (K : PySem.W.Frag) : Sp := fun vs H Q _ => ∃ (a : Addr) (us : List V) (ms : List Nat), vs = [.ref a] ∧ Sums K H a us ms ∧
  ∀ H', Same H H' → Q (.int ((indep ms).length : Nat)) H'
def BagAt (K : PySem.W.Frag) (H : Hp) (b c : Addr) : Prop := ∃ (x y z : Int) (cs : List Int), H b = some (.lst [.int x, .int y, .int z, .ref c]) ∧ SqL K H c (cs.map V.int) ∧ b ≠ c ∧ 0 ≤ x ∧ 0 ≤ y ∧ y < 2147483647 ∧ 0 ≤ z ∧ (∀ n ∈ cs, 0 ≤ n) ∧ cs.length ≤ 63
theorem sqL_but {K : PySem.W.Frag} {H H' : Hp} {a b : Addr} {xs : List V} (n : a ≠ b) (s : But b H H') (h : SqL K H a xs) : SqL K H' a xs := by
  rcases h with (h | ⟨o, h⟩) | h
  · exact .inl (.inl (s _ _ n h))
  · exact .inl (.inr ⟨o, s _ _ n h⟩)
  · exact .inr h
theorem BagAt.same {K : PySem.W.Frag} {H H' : Hp} {b c : Addr} (s : Same H H') (h : BagAt K H b c) : BagAt K H' b c := by
  obtain ⟨x, y, z, cs, h1, h2, h3⟩ := h
  exact ⟨x, y, z, cs, s _ _ h1, s.seq h2, h3⟩
theorem BagAt.lst {K : PySem.W.Frag} {H : Hp} {b c : Addr} (h : BagAt K H b c) : ∃ ys, H b = some (.lst ys) := by
  obtain ⟨x, y, z, cs, h1, _⟩ := h
  exact ⟨_, h1⟩
theorem SumV.bag {K : PySem.W.Frag} {H H' : Hp} {b c : Addr} {v : V} {m : Nat} (B : BagAt K H b c) (s : But b H H') (h : SumV K H v m) : SumV K H' v m := by
  obtain ⟨ys, e⟩ := B.lst
  exact h.but e s
theorem sums_bag {K : PySem.W.Frag} {H H' : Hp} {b c : Addr} {us : List V} {ms : List Nat} (B : BagAt K H b c) (s : But b H H') (h : Paired (SumV K H) us ms) : Paired (SumV K H') us ms := by
  obtain ⟨ys, e⟩ := B.lst
  exact sums_but e s h
theorem sqT_bag {K : PySem.W.Frag} {H H' : Hp} {a b c : Addr} {xs : List V} (B : BagAt K H b c) (s : But b H H') (h : SqT K H a xs) : SqT K H' a xs := by
  obtain ⟨ys, e⟩ := B.lst
  exact sqT_but e s h
theorem But.free {b : Addr} {H H' : Hp} (s : But b H H') {a : Addr} (n : a ≠ b) (h : H' a = none) : H a = none := by
  cases e : H a with
  | none => rfl
  | some o =>
    rw [s a o n e] at h
    cases h
def sp_law_take (K : PySem.W.Frag) : Sp := fun vs H Q _ => ∃ (b c : Addr) (n : Nat), vs = [.ref b, .int (n : Int)] ∧ BagAt K H b c ∧ 0 < n ∧ n < 1073741824 ∧
  ∀ H' (r : Nat), But b H H' → BagAt K H' b c → r < n → Q (.int (r : Int)) H'
def Sq (K : PySem.W.Frag) (H : Hp) (a : Addr) (xs : List V) : Prop := SqL K H a xs ∨ SqT K H a xs
def sp_law_some (K : PySem.W.Frag) : Sp := fun vs H Q _ => ∃ (b c l : Addr) (xs : List V), vs = [.ref b, .ref l] ∧ BagAt K H b c ∧ l ≠ b ∧ Sq K H l xs ∧ 0 < xs.length ∧ xs.length < 1073741824 ∧
  ∀ (H' : Hp) (r : Nat) (v : V), But b H H' → BagAt K H' b c → xs[r]? = some v → Q v H'
def sp_law_bag (K : PySem.W.Frag) : Sp := fun vs H Q _ => ∃ (a : Addr) (ns : List Int), vs = [.ref a] ∧ SqL K H a (ns.map V.int) ∧ ns.length ≤ 63 ∧
  ∀ H' b c, Same H H' → H b = none → H c = none → BagAt K H' b c → Q (.ref b) H'
def sp_law_alike (K : PySem.W.Frag) : Sp := fun vs H Q _ => ∃ (x y : V) (d : PyData), vs = [x, y] ∧ Dp K H x d ∧ Dp K H y d ∧ nice d = true ∧ d.depth ≤ 40 ∧ d.weight ≤ 2 ^ 20 ∧ Q (.bl true) H
def sp_law_mask (K : PySem.W.Frag) : Sp := fun vs H Q _ => ∃ (v : V) (m : Nat), vs = [v] ∧ SumV K H v m ∧ m < 2 ^ 63 ∧ Q (.int (m : Int)) H
def sp_law_row (K : PySem.W.Frag) : Sp := fun vs H Q _ => ∃ (m : Nat), vs = [.int (m : Int)] ∧ m < 2 ^ 63 ∧ ∀ H' p, Same H H' → H p = none → H' p = some (.tup (iv (bts m))) → Q (.ref p) H'
def wsum (m : Nat) (bs : List Nat) : Nat := ((bts m).map fun u => bs.getD u 0).sum
def sp_worth_of (K : PySem.W.Frag) : Sp := fun vs H Q _ => ∃ (v : V) (b : Addr) (m : Nat) (bs : List Nat), vs = [v, .ref b] ∧ SumV K H v m ∧ SqT K H b (iv bs) ∧ (∀ u ∈ bts m, u < bs.length) ∧
  ∀ H', Same H H' → Q (.int ((wsum m bs % 2 : Nat) : Int)) H'
def sp_law_worth (K : PySem.W.Frag) : Sp := sp_worth_of K
theorem iv_ints (l : List Nat) : iv l = (l.map Int.ofNat).map V.int := by
  unfold iv
  rw [List.map_map]
  rfl
theorem sum_nat : ∀ l : List Nat, (l.map Int.ofNat).sum = ((l.sum : Nat) : Int)
  | [] => rfl
  | x :: l => by
    rw [List.map_cons, List.sum_cons, List.sum_cons, sum_nat l]
    simp
def LineV (K : PySem.W.Frag) (H : Hp) (v : V) (l : Nat × Nat) : Prop := ∃ t r, v = .ref t ∧ SqT K H t [r, .int (l.2 : Int)] ∧ SumV K H r l.1
theorem LineV.same {K : PySem.W.Frag} {H H' : Hp} (s : Same H H') {v : V} {l : Nat × Nat} (h : LineV K H v l) : LineV K H' v l := by
  obtain ⟨t, r, e, h1, h2⟩ := h
  exact ⟨t, r, e, sqT_same s h1, h2.same s⟩
def sp_law_flat_of (K : PySem.W.Frag) : Sp := fun vs H Q _ => ∃ (a : Addr) (us : List V) (ls : List (Nat × Nat)), vs = [.ref a] ∧ SqL K H a us ∧ Paired (LineV K H) us ls ∧ (∀ l ∈ ls, l.1 < 2 ^ 63) ∧
  (lflat ls = none → ∀ H', Same H H' → Q .non H') ∧
  (∀ hs, lflat ls = some hs → ∀ H' p ys, Same H H' → H p = none → H' p = some (.tup ys) → ys.length = hs.length → Q (.ref p) H')
def sp_law_rank (K : PySem.W.Frag) : Sp := fun vs H Q _ => ∃ (a : Addr) (us : List V) (ms : List Nat), vs = [.ref a] ∧ SqL K H a us ∧ Paired (SumV K H) us ms ∧ (∀ m ∈ ms, m < 2 ^ 63) ∧ ms.length ≤ 100 ∧
  ∀ H', Same H H' → Q (.int ((lrank ms : Nat) : Int)) H'
def PairI (K : PySem.W.Frag) (H : Hp) (v : V) (p : Nat × Nat) : Prop := ∃ t, v = .ref t ∧ SqT K H t [.int (p.1 : Int), .int (p.2 : Int)]
theorem PairI.same {K : PySem.W.Frag} {H H' : Hp} (s : Same H H') {v : V} {p : Nat × Nat} (h : PairI K H v p) : PairI K H' v p := by
  obtain ⟨t, e, h⟩ := h
  exact ⟨t, e, sqT_same s h⟩
theorem PairI.updK {K : PySem.W.Frag} {H : Hp} {b : Addr} {kvs : List (Key × V)} {o : HO} {v : V} {p : Nat × Nat} (hb : H b = some (.dK kvs)) (h : PairI K H v p) : PairI K (upd H b o) v p := by
  obtain ⟨t, e, h⟩ := h
  exact ⟨t, e, sqT_updK hb h⟩
theorem DictR.keys {β : Type} {S : V → β → Prop} : ∀ {kvs : List (Key × V)} {bs : List (Nat × β)}, DictR S kvs bs → kvs.map (·.1) = (bs.map fun b => Int.ofNat b.1).map Sum.inl
  | _, _, .nil => rfl
  | kv :: kvs, b :: bs, .cons ⟨r1, _⟩ t => by
    have ih := DictR.keys (show DictR S kvs bs from t)
    rw [List.map_cons, List.map_cons, List.map_cons, ih, r1]
    rfl
theorem DictR.sorted {β : Type} {S : V → β → Prop} {kvs : List (Key × V)} {bs : List (Nat × β)} (d : DictR S kvs bs) (nd : (bs.map (·.1)).Nodup) (h63 : ∀ b ∈ bs, b.1 < 63) :
    (bs.map fun b => Int.ofNat b.1).length < 64 ∧ ∀ ys : List Int, ys.Perm (bs.map fun b => Int.ofNat b.1) → ys.Pairwise (· ≤ ·) → ys.map V.int = iv (srt (bs.map (·.1))) := by
  have hm : ∀ u, u ∈ bs.map (·.1) ↔ u < 63 ∧ (msk (bs.map (·.1))).testBit u = true := fun u => by
    rw [msk_bit nd, decide_eq_true_eq]
    constructor
    · intro h
      obtain ⟨b, hb, e⟩ := List.mem_map.mp h
      exact ⟨e ▸ h63 b hb, h⟩
    · exact fun h => h.2
  obtain ⟨ks, k1, k2, k3⟩ := dictM_keys (kvs := (bs.map (·.1)).map fun (u : Nat) => ((Sum.inl (u : Int) : Key), V.bl true)) ⟨bs.map (·.1), rfl, nd, hm⟩
  have ek : ks = bs.map fun b => Int.ofNat b.1 := by
    have e1 : ks.map (Sum.inl : Int → Key) = (bs.map fun b => Int.ofNat b.1).map Sum.inl := by
      rw [← k1, List.map_map, List.map_map, List.map_map]
      rfl
    exact (List.map_inj_right (fun a b h => Sum.inl.inj h)).mp e1
  subst ek
  refine ⟨k2, fun ys hp hs => ?_⟩
  rw [k3 ys hp hs]
  congr 1
  refine (bts_of (srt_lt _) fun u => ?_).symm
  rw [mem_srt, hm]
  exact ⟨fun h => h.2, fun h => ⟨h.1, h⟩⟩
theorem DictR.set {β : Type} {S : V → β → Prop} {h : Nat} {v : V} {b : β} (s : S v b) {kvs : List (Key × V)} {bs : List (Nat × β)} (d : DictR S kvs bs) (hh : h ∈ bs.map (·.1)) :
    DictR S (putK kvs (Sum.inl (h : Int) : Key) v) (bs.map fun e => if e.1 = h then (h, b) else e) := by
  have go : ∀ {kvs : List (Key × V)} {bs : List (Nat × β)}, DictR S kvs bs → DictR S (kvs.map fun kv => if kv.1 = (Sum.inl (h : Int) : Key) then (kv.1, v) else kv) (bs.map fun e => if e.1 = h then (h, b) else e) := by
    intro kvs bs d
    induction d with
    | nil => exact .nil
    | @cons kv e l1 l2 r t ih =>
      rw [List.map_cons, List.map_cons]
      refine .cons ?_ ih
      by_cases q : e.1 = h
      · have q2 : kv.1 = (Sum.inl (h : Int) : Key) := by rw [r.1, q]
        rw [if_pos q, if_pos q2]
        exact ⟨q2, s⟩
      · have q2 : ¬ kv.1 = (Sum.inl (h : Int) : Key) := fun z => q (key_inj (r.1.symm.trans z))
        rw [if_neg q, if_neg q2]
        exact r
  unfold putK
  have e : (kvs.any fun kv => decide (kv.1 = (Sum.inl (h : Int) : Key))) = true := by
    rw [valV_any]
    obtain ⟨v1, v2⟩ := d.val (h := h)
    cases q : lookB bs h with
    | none =>
      unfold lookB at q
      rw [Option.map_eq_none_iff, List.find?_eq_none] at q
      obtain ⟨x, hx, ex⟩ := List.mem_map.mp hh
      exact absurd (decide_eq_true ex) (q x hx)
    | some b' =>
      obtain ⟨w, ew, _⟩ := v2 b' q
      rw [ew]
      rfl
  rw [if_pos e]
  exact go d
def lputTo (hs : List (Nat × Nat × Nat)) (S : List Nat) (a : Nat) (p : Nat × Nat) : List (Nat × Nat × Nat) :=
  hs.map fun e => if e.1 ∈ S ∧ e.2.1.testBit a = true then (e.1, e.2.1 ^^^ p.1, e.2.2 ^^^ p.2) else e
theorem lputTo_keys (hs : List (Nat × Nat × Nat)) (S : List Nat) (a : Nat) (p : Nat × Nat) : (lputTo hs S a p).map (·.1) = hs.map (·.1) := by
  unfold lputTo
  rw [List.map_map]
  refine List.map_congr_left fun e _ => ?_
  show (if _ then _ else _ : Nat × Nat × Nat).1 = e.1
  split <;> rfl
theorem lputTo_nil (hs : List (Nat × Nat × Nat)) (a : Nat) (p : Nat × Nat) : lputTo hs [] a p = hs := by
  unfold lputTo
  conv => rhs; rw [← List.map_id hs]
  refine List.map_congr_left fun e _ => ?_
  rw [if_neg (by simp)]
  rfl
theorem lputTo_all (hs : List (Nat × Nat × Nat)) (h63 : ∀ e ∈ hs, e.1 < 63) (a : Nat) (p : Nat × Nat) : lputTo hs (srt (hs.map (·.1))) a p ++ [(a, p.1, p.2)] = lput hs a p := by
  unfold lputTo lput
  congr 1
  refine List.map_congr_left fun e he => ?_
  have hm : e.1 ∈ srt (hs.map (·.1)) := mem_srt.mpr ⟨h63 e he, List.mem_map.mpr ⟨e, he, rfl⟩⟩
  by_cases hb : e.2.1.testBit a = true
  · rw [if_pos ⟨hm, hb⟩, if_pos hb]
  · rw [if_neg fun z => hb z.2, if_neg hb]
theorem look_nd : ∀ {hs : List (Nat × Nat × Nat)}, (hs.map (·.1)).Nodup → ∀ {e : Nat × Nat × Nat}, e ∈ hs → look hs e.1 = some e.2
  | [], _, e, h => by cases h
  | x :: hs, nd, e, h => by
    have nd : (x.1 :: hs.map (·.1)).Nodup := nd
    obtain ⟨n1, n2⟩ := List.nodup_cons.mp nd
    rcases List.mem_cons.mp h with rfl | h
    · simp [look, List.find?_cons]
    · have ne : x.1 ≠ e.1 := fun z => n1 (z ▸ List.mem_map.mpr ⟨e, h, rfl⟩)
      have ih := look_nd n2 h
      unfold look at ih ⊢
      rw [List.find?_cons, decide_eq_false ne]
      exact ih
theorem lputTo_step {hs : List (Nat × Nat × Nat)} (nd : (hs.map (·.1)).Nodup) {S : List Nat} {h a : Nat} {p q : Nat × Nat} (hn : h ∉ S) (hq : look hs h = some q) :
    look (lputTo hs S a p) h = some q ∧
    (q.1.testBit a = true → (lputTo hs S a p).map (fun e => if e.1 = h then (h, q.1 ^^^ p.1, q.2 ^^^ p.2) else e) = lputTo hs (S ++ [h]) a p) ∧
    (q.1.testBit a = false → lputTo hs S a p = lputTo hs (S ++ [h]) a p) := by
  have mem := look_mem hq
  have uniq : ∀ e ∈ hs, e.1 = h → e = (h, q) := fun e he z => by
    have := look_nd nd he
    rw [z, hq] at this
    have := Option.some.inj this
    obtain ⟨x, y⟩ := e
    simp only at z this
    rw [z, this]
  refine ⟨?_, fun hb => ?_, fun hb => ?_⟩
  · have m2 : (h, q) ∈ lputTo hs S a p := List.mem_map.mpr ⟨(h, q), mem, if_neg fun z => hn z.1⟩
    exact look_nd (by rw [lputTo_keys]; exact nd) m2
  · unfold lputTo
    rw [List.map_map]
    refine List.map_congr_left fun e he => ?_
    show (if (if e.1 ∈ S ∧ e.2.1.testBit a = true then (e.1, e.2.1 ^^^ p.1, e.2.2 ^^^ p.2) else e).1 = h then (h, q.1 ^^^ p.1, q.2 ^^^ p.2) else (if e.1 ∈ S ∧ e.2.1.testBit a = true then (e.1, e.2.1 ^^^ p.1, e.2.2 ^^^ p.2) else e)) = _
    by_cases z : e.1 = h
    · have e0 := uniq e he z
      subst e0
      have n1 : ¬ ((h, q).1 ∈ S ∧ ((h, q) : Nat × Nat × Nat).2.1.testBit a = true) := fun y => hn y.1
      rw [if_neg n1, if_pos z, if_pos ⟨List.mem_append_right _ (by simp), hb⟩]
    · have k1 : (if e.1 ∈ S ∧ e.2.1.testBit a = true then (e.1, e.2.1 ^^^ p.1, e.2.2 ^^^ p.2) else e).1 = e.1 := by split <;> rfl
      rw [k1, if_neg z]
      by_cases c : e.1 ∈ S ∧ e.2.1.testBit a = true
      · rw [if_pos c, if_pos ⟨List.mem_append_left _ c.1, c.2⟩]
      · rw [if_neg c, if_neg fun y => c ⟨(List.mem_append.mp y.1).resolve_right (by simpa using z), y.2⟩]
  · unfold lputTo
    refine List.map_congr_left fun e he => ?_
    by_cases z : e.1 = h
    · have e0 := uniq e he z
      subst e0
      rw [if_neg fun z => hn z.1, if_neg fun y => by rw [show ((h, q).2.1).testBit a = false from hb] at y; exact absurd y.2 Bool.false_ne_true]
    · by_cases c : e.1 ∈ S ∧ e.2.1.testBit a = true
      · rw [if_pos c, if_pos ⟨List.mem_append_left _ c.1, c.2⟩]
      · rw [if_neg c, if_neg fun y => c ⟨(List.mem_append.mp y.1).resolve_right (by simpa using z), y.2⟩]
theorem lflat_red : ∀ (ls : List (Nat × Nat)), (∀ l ∈ ls, l.1 < 2 ^ 63) → ∀ hs, lflat ls = some hs → RedOk hs := by
  intro ls
  suffices h : ∀ n, ∀ ls : List (Nat × Nat), ls.length = n → (∀ l ∈ ls, l.1 < 2 ^ 63) → ∀ hs, lflat ls = some hs → RedOk hs from h _ ls rfl
  intro n
  induction n with
  | zero =>
    intro ls hl _ hs e
    have : ls = [] := List.length_eq_zero_iff.mp hl
    subst this
    have e : some [] = some hs := e
    have e := Option.some.inj e
    subst e
    exact ⟨List.nodup_nil, (fun e he => by cases he), (fun e he => by cases he)⟩
  | succ n ih =>
    intro ls hl hm hs e
    have hne : ls ≠ [] := by intro z; subst z; cases hl
    obtain ⟨pre, l, rfl⟩ : ∃ pre l, ls = pre ++ [l] := ⟨ls.dropLast, ls.getLast hne, (List.dropLast_concat_getLast hne).symm⟩
    rw [lflat_snoc] at e
    obtain ⟨hs0, e0, e1⟩ := Option.bind_eq_some_iff.mp e
    have R := ih pre (by simpa using hl) (fun x hx => hm x (List.mem_append_left _ hx)) hs0 e0
    obtain ⟨l1, _, l3⟩ := lred_spec R (p := l) (hm l (List.mem_append_right _ List.mem_cons_self))
    unfold lstep at e1
    cases q : low (lred hs0 l).1 with
    | none =>
      rw [q] at e1
      simp only at e1
      split at e1
      · cases e1
      · have e1 := Option.some.inj e1
        subst e1
        exact R
    | some a =>
      rw [q] at e1
      have e1 := Option.some.inj e1
      subst e1
      exact (lput_ok R l1 q l3).1
theorem lflat_take {ls : List (Nat × Nat)} {i : Nat} {l : Nat × Nat} (h : ls[i]? = some l) : lflat (ls.take (i + 1)) = (lflat (ls.take i)).bind fun hs => lstep hs l := by
  obtain ⟨hi, e⟩ := List.getElem?_eq_some_iff.mp h
  rw [List.take_succ_eq_append_getElem hi, e, lflat_snoc]
theorem lflat_none_take {ls : List (Nat × Nat)} {i : Nat} (h : lflat (ls.take i) = none) : lflat ls = none := by
  have : lflat ls = (ls.drop i).foldl (fun o l => o.bind fun hs => lstep hs l) (lflat (ls.take i)) := by
    unfold lflat
    rw [← List.foldl_append, List.take_append_drop]
  rw [this, h]
  generalize ls.drop i = r
  induction r with
  | nil => rfl
  | cons x r ih => exact ih
def sumD (m : Nat) : PyData := .tuple (((bts m).map Int.ofNat).map .int)
def lineD (l : Nat × Nat) : PyData := .tuple [sumD l.1, .int (l.2 : Int)]
theorem dp_ints {K : PySem.W.Frag} {H : Hp} : ∀ ns : List Int, DpAll K H (ns.map V.int) (ns.map .int)
  | [] => .nil
  | n :: ns => .cons (.int n) (dp_ints ns)
theorem dp_sum {K : PySem.W.Frag} {H : Hp} {v : V} {m : Nat} (h : SumV K H v m) : Dp K H v (sumD m) := by
  obtain ⟨a, rfl, h⟩ := h
  rw [iv_ints] at h
  exact .tup h (dp_ints _)
theorem dp_line {K : PySem.W.Frag} {H : Hp} {v : V} {l : Nat × Nat} (h : LineV K H v l) : Dp K H v (lineD l) := by
  obtain ⟨t, r, rfl, h1, h2⟩ := h
  exact .tup h1 (.cons (dp_sum h2) (.cons (.int _) .nil))
theorem depth_ints : ∀ ns : List Int, PyData.depthAll (ns.map .int) = 0
  | [] => rfl
  | n :: ns => by
    show max (PyData.depth (.int n)) (PyData.depthAll (ns.map .int)) = 0
    rw [depth_ints ns]
    rfl
theorem depth_sumD (m : Nat) : (sumD m).depth = 1 := by
  show PyData.depthAll _ + 1 = 1
  rw [depth_ints]
theorem depth_lineD (l : Nat × Nat) : (lineD l).depth = 2 := by
  show max (sumD l.1).depth (max (PyData.depth (.int (l.2 : Int))) 0) + 1 = 2
  rw [depth_sumD]
  rfl
theorem alike_lineD (l k : Nat × Nat) : PySem.W.alike (lineD l) (lineD k) = true := by
  show PySem.W.alikeAll [sumD l.1, .int (l.2 : Int)] [sumD k.1, .int (k.2 : Int)] = true
  have e : PySem.W.alike (sumD l.1) (sumD k.1) = true := PySem.W.alike_ints _ _
  simp [PySem.W.alikeAll, e, PySem.W.alike]
theorem LineV.but {K : PySem.W.Frag} {H H' : Hp} {b : Addr} {ys : List V} (hb : H b = some (.lst ys)) (s : But b H H') {v : V} {l : Nat × Nat} (h : LineV K H v l) : LineV K H' v l := by
  obtain ⟨t, r, e, h1, h2⟩ := h
  exact ⟨t, r, e, sqT_but hb s h1, h2.but hb s⟩
theorem tyT {K : PySem.W.Frag} {H : Hp} {a : Addr} {xs : List V} (h : SqT K H a xs) : TyX K H (.ref a) (.type "tuple") := by
  rcases h with (h | ⟨o, h⟩) | ⟨o, its, n, h, c, _⟩
  · exact .base (.tup h)
  · exact .fTuple h
  · exact .kTuple h c
def rLenK (K : PySem.W.Frag) : List V → Hp → VK → Prop := fun xs H Q => ∃ p ys, xs = [.ref p] ∧ (SqL K H p ys ∨ SqT K H p ys) ∧ Q (.int ys.length) H
def sp_law_any_row (K : PySem.W.Frag) : Sp := fun vs H Q _ => ∃ (b c : Addr) (n : Nat), vs = [.ref b, .int (n : Int)] ∧ BagAt K H b c ∧ 0 < n ∧ n ≤ 62 ∧
  ∀ H' v m, But b H H' → BagAt K H' b c → SumV K H' v m → m < 2 ^ n → m ≠ 0 → Q v H'
def sp_law_is_whole (K : PySem.W.Frag) : Sp := fun vs H Q _ => ∃ (i : Int), vs = [.int i] ∧ Q (.bl true) H
def sp_law_is_in (K : PySem.W.Frag) : Sp := fun vs H Q _ => ∃ (i n : Int), vs = [.int i, .int n] ∧ Q (.bl (decide (0 ≤ i) && decide (i < n))) H
def sp_law_is_sum (K : PySem.W.Frag) : Sp := fun vs H Q _ => ∃ (n m : Nat) (v : V), vs = [.int (n : Int), v] ∧ SumV K H v m ∧ m < 2 ^ n ∧ n ≤ 63 ∧ ∀ H', Same H H' → Q (.bl true) H'
def sp_law_are_some (K : PySem.W.Frag) : Sp := sp_law_is_sum K
def sp_law_all_of (K : PySem.W.Frag) : Sp := fun vs H Q _ => ∃ (a : Addr) (us : List V) (ms : List Nat), vs = [.ref a] ∧ SqL K H a us ∧ Paired (SumV K H) us ms ∧ (∀ m ∈ ms, m < 2 ^ 63) ∧ ms.length ≤ 1000 ∧
  ∀ H' v, Same H H' → SumV K H' v (xall ms) → Q v H'
def sp_law_is_sum_right (K : PySem.W.Frag) : Sp := fun vs H Q _ => ∃ (a : Addr) (us : List V) (ms : List Nat) (v : V) (m : Nat), vs = [.ref a, v] ∧ Sums K H a us ms ∧ SumV K H v m ∧ m < 2 ^ 63 ∧
  ∀ H', Same H H' → Q (.bl true) H'
def sp_law_are_told (K : PySem.W.Frag) : Sp := fun vs H Q _ => ∃ (b c a : Addr) (us : List V) (ms : List Nat) (n : Nat), vs = [.ref b, .int (n : Int), .ref a] ∧ BagAt K H b c ∧ a ≠ b ∧ H a = some (.lst us) ∧ Sums K H a us ms ∧ (∀ m ∈ ms, m < 2 ^ n) ∧ n ≤ 62 ∧
  ∀ H', But b H H' → BagAt K H' b c → Q (.bl true) H'
theorem bits_below {m n u : Nat} (h : m < 2 ^ n) (hu : u ∈ bts m) : u < n := by
  refine Nat.lt_of_not_le fun z => ?_
  have b := (mem_bts.mp hu).2
  rw [Nat.testBit_lt_two_pow (Nat.lt_of_lt_of_le h (Nat.pow_le_pow_right (by decide) z))] at b
  cases b
theorem dp_nil {K : PySem.W.Frag} {H : Hp} {a : Addr} (h : SqL K H a []) : Dp K H (.ref a) (.list []) := .lst h .nil
theorem dp_list {K : PySem.W.Frag} {H : Hp} {a : Addr} {ns : List Int} (h : SqL K H a (ns.map V.int)) : Dp K H (.ref a) (.list (ns.map .int)) := .lst h (dp_ints ns)
theorem eqv_ints : ∀ ns : List Int, PyData.eqvAll (ns.map .int) (ns.map .int) = true
  | [] => rfl
  | n :: ns => by
    show (PyData.eqv (.int n) (.int n) && PyData.eqvAll (ns.map .int) (ns.map .int)) = true
    rw [eqv_ints ns, Bool.and_true]
    exact beq_self_eq_true n
theorem lay_ints : ∀ ns : List Int, PyData.canLayAll0 (ns.map .int) = true
  | [] => rfl
  | n :: ns => by
    show (PyData.canLay0 (.int n) && PyData.canLayAll0 (ns.map .int)) = true
    rw [lay_ints ns]
    rfl
theorem shaped_ints (ns : List Int) : SeqAt.shaped (.list (ns.map .int)) = true := by
  unfold SeqAt.shaped
  rw [Bool.and_eq_true]
  refine ⟨by simpa [PyData.canLay0] using lay_ints ns, decide_eq_true ?_⟩
  show PyData.depthAll (ns.map .int) + 1 ≤ 64
  rw [depth_ints]
  decide
abbrev NumV : V → Nat → Prop := fun v n => v = .int (n : Int)
structure Cnt (bs : List (Nat × Nat)) (m : Nat) : Prop where
  nd : (bs.map (·.1)).Nodup
  lt : ∀ e ∈ bs, e.1 < 63
  bit : ∀ u, u < 63 → m.testBit u = decide (((lookB bs u).getD 0) % 2 = 1)
theorem cnt_nil : Cnt [] 0 := ⟨List.nodup_nil, (fun e he => by cases he), fun u _ => by simp [lookB]⟩
theorem lookB_mem {β : Type} {bs : List (Nat × β)} {h : Nat} {b : β} (e : lookB bs h = some b) : (h, b) ∈ bs := by
  unfold lookB at e
  obtain ⟨x, hx, ex⟩ := Option.map_eq_some_iff.mp e
  have h1 := List.find?_some hx
  have h1 : x.1 = h := of_decide_eq_true h1
  have h2 := List.mem_of_find?_eq_some hx
  obtain ⟨y, z⟩ := x
  simp only at ex h1
  subst ex; subst h1
  exact h2
theorem lookB_none {β : Type} {bs : List (Nat × β)} {h : Nat} : lookB bs h = none ↔ h ∉ bs.map (·.1) := by
  unfold lookB
  rw [Option.map_eq_none_iff, List.find?_eq_none]
  constructor
  · intro k m
    obtain ⟨b, hb, e⟩ := List.mem_map.mp m
    exact k b hb (decide_eq_true e)
  · intro k b hb e
    exact k (List.mem_map.mpr ⟨b, hb, of_decide_eq_true e⟩)
theorem lookB_snoc {β : Type} {bs : List (Nat × β)} {h u : Nat} {b : β} (no : lookB bs h = none) : lookB (bs ++ [(h, b)]) u = if u = h then some b else lookB bs u := by
  unfold lookB at no ⊢
  rw [List.find?_append]
  by_cases e : u = h
  · subst e
    rw [Option.map_eq_none_iff] at no
    rw [no, if_pos rfl]
    simp
  · rw [if_neg e]
    have : ([(h, b)] : List (Nat × β)).find? (fun b => decide (b.1 = u)) = none := by
      simp [Ne.symm e]
    rw [this, Option.or_none]
theorem lookB_set {β : Type} {h u : Nat} {b : β} : ∀ {bs : List (Nat × β)}, h ∈ bs.map (·.1) → lookB (bs.map fun e => if e.1 = h then (h, b) else e) u = if u = h then some b else lookB bs u
  | [], m => by cases m
  | e :: bs, m => by
    by_cases q : e.1 = h
    · by_cases z : u = h
      · subst z
        simp [lookB, List.find?_cons, q]
      · have ih : lookB (bs.map fun e => if e.1 = h then (h, b) else e) u = lookB bs u := by
          by_cases m2 : h ∈ bs.map (·.1)
          · rw [lookB_set m2, if_neg z]
          · congr 1
            conv => rhs; rw [← List.map_id bs]
            refine List.map_congr_left fun x hx => ?_
            rw [if_neg fun w => m2 (List.mem_map.mpr ⟨x, hx, w⟩)]
            rfl
        unfold lookB at ih ⊢
        rw [List.map_cons, if_pos q, List.find?_cons, List.find?_cons]
        have d1 : decide (h = u) = false := decide_eq_false (Ne.symm z)
        have d2 : decide (e.1 = u) = false := decide_eq_false (by rw [q]; exact Ne.symm z)
        simp only [d1, d2, if_neg z]
        exact ih
    · have m2 : h ∈ bs.map (·.1) := by
        rcases List.mem_cons.mp m with w | w
        · exact absurd w.symm q
        · exact w
      have ih := lookB_set (u := u) (b := b) m2
      unfold lookB at ih ⊢
      rw [List.map_cons, if_neg q, List.find?_cons, List.find?_cons]
      by_cases z : e.1 = u
      · have : u ≠ h := fun w => q (z.trans w)
        simp [z, this]
      · have d2 : decide (e.1 = u) = false := decide_eq_false z
        simp only [d2]
        exact ih
theorem cnt_inc {bs : List (Nat × Nat)} {m u : Nat} (C : Cnt bs m) (hu : u < 63) {bs' : List (Nat × Nat)} (hk : bs'.map (·.1) = bs.map (·.1) ∨ (bs'.map (·.1) = bs.map (·.1) ++ [u] ∧ u ∉ bs.map (·.1)))
    (hl : ∀ v, lookB bs' v = if v = u then some ((lookB bs u).getD 0 + 1) else lookB bs v) : Cnt bs' (m ^^^ 2 ^ u) := by
  refine ⟨?_, ?_, fun v hv => ?_⟩
  · rcases hk with hk | ⟨hk, hn⟩
    · rw [hk]; exact C.nd
    · rw [hk]
      refine List.nodup_append.mpr ⟨C.nd, by simp, fun a ha b hb => ?_⟩
      have hb : b = u := by simpa using hb
      subst hb
      exact fun z => hn (z ▸ ha)
  · intro e he
    have he2 : e.1 ∈ bs'.map (·.1) := List.mem_map.mpr ⟨e, he, rfl⟩
    have old : ∀ x, x ∈ bs.map (·.1) → x < 63 := fun x hx => by
      obtain ⟨b, hb, z⟩ := List.mem_map.mp hx
      exact z ▸ C.lt b hb
    rcases hk with hk | ⟨hk, _⟩
    · rw [hk] at he2
      exact old _ he2
    · rw [hk] at he2
      rcases List.mem_append.mp he2 with h | h
      · exact old _ h
      · have h : e.1 = u := by simpa using h
        rw [h]; exact hu
  · rw [bit_toggle, hl v, C.bit v hv]
    by_cases e : v = u
    · subst e
      rw [if_pos rfl, if_pos rfl]
      show (!decide (((lookB bs v).getD 0) % 2 = 1)) = decide (((lookB bs v).getD 0 + 1) % 2 = 1)
      by_cases z : ((lookB bs v).getD 0) % 2 = 1
      · rw [decide_eq_true z, decide_eq_false (by omega)]; rfl
      · rw [decide_eq_false z, decide_eq_true (by omega)]; rfl
    · rw [if_neg e, if_neg e]
theorem cnt_len {bs : List (Nat × Nat)} {m : Nat} (C : Cnt bs m) : bs.length ≤ 63 := by
  have := dictM_len (kvs := (bs.map (·.1)).map fun (u : Nat) => ((Sum.inl (u : Int) : Key), V.bl true)) (m := msk (bs.map (·.1))) ⟨bs.map (·.1), rfl, C.nd, fun u => by
    rw [msk_bit C.nd, decide_eq_true_eq]
    constructor
    · intro h
      obtain ⟨e, he, z⟩ := List.mem_map.mp h
      exact ⟨z ▸ C.lt e he, h⟩
    · exact fun h => h.2⟩
  simpa using this
theorem lc_keys {d : Addr} {od : Obj} {kvs : List (Key × V)} {g : TG} {tt : TT} {te : TE} {vs : List Nat} {D : Addr} {σ : L2.St} {H : Hp} {Qd : Hp → Prop} (Pv : Nat → Hp → Prop) (h0 : Pv 0 (upd H D (.lst [])))
    (hf : ∀ i H, Pv i H → H d = some (.frz od (.dK kvs)))
    (hs : ∀ i k v H, kvs[i]? = some (k, v) → Pv i H → g (kV k) (wipe σ vs) H fun σ2 H2 => wipe σ2 vs = wipe σ vs ∧ tt σ2 H2 fun b H3 =>
      if b = true then te σ2 H3 fun y H4 => ∃ acc, H4 D = some (.lst acc) ∧ acc.length < sizeLine ∧ Pv (i + 1) (upd H4 D (.lst (acc ++ [y]))) else Pv (i + 1) H3)
    (hd : ∀ H, Pv kvs.length H → Qd H) :
    ∃ W : Nat → Nat → Hp → Prop, (∃ m, W 0 m (upd H D (.lst []))) ∧ ∀ i m H, W i m H →
      ((Itk d od kvs).stop i H ∧ Qd H) ∨ ((Itk d od kvs).go i H ∧ ∃ Nx : Hp → Prop, (∀ H', Nx H' → ∃ m', m' < m ∧ W (i + 1) m' H') ∧ ∀ x H', (Itk d od kvs).yld i H x H' → g x (wipe σ vs) H' fun σ2 H2 => wipe σ2 vs = wipe σ vs ∧ tt σ2 H2 fun b H3 =>
        if b = true then te σ2 H3 fun y H4 => ∃ acc, H4 D = some (.lst acc) ∧ acc.length < sizeLine ∧ Nx (upd H4 D (.lst (acc ++ [y]))) else Nx H3) := by
  refine ⟨fun i m H => i + m = kvs.length ∧ Pv i H, ⟨kvs.length, Nat.zero_add _, h0⟩, ?_⟩
  intro i m H hw
  obtain ⟨hm, p⟩ := hw
  by_cases lt : i < kvs.length
  · refine .inr ⟨⟨hf i H p, lt⟩, Pv (i + 1), fun H' p' => ⟨m - 1, by omega, by omega, p'⟩, ?_⟩
    rintro x H' ⟨rfl, k, v, hk, rfl⟩
    exact hs i k v H' hk p
  · have e : i = kvs.length := by omega
    subst e
    exact .inl ⟨⟨hf _ H p, Nat.le_refl _⟩, hd H p⟩
def sumsD (ms : List Nat) : PyData := .list (ms.map sumD)
def optD : Option Nat → PyData
  | none => .none
  | some u => sumD u
theorem dp_sumsAll {K : PySem.W.Frag} {H : Hp} : ∀ {us : List V} {ms : List Nat}, Paired (SumV K H) us ms → DpAll K H us (ms.map sumD)
  | _, _, .nil => .nil
  | _, _, .cons r t => .cons (dp_sum r) (dp_sumsAll t)
theorem dp_sums {K : PySem.W.Frag} {H : Hp} {a : Addr} {us : List V} {ms : List Nat} (h : SqL K H a us) (p : Paired (SumV K H) us ms) : Dp K H (.ref a) (sumsD ms) := .lst h (dp_sumsAll p)
theorem dp_opt {K : PySem.W.Frag} {H : Hp} {v : V} {o : Option Nat} (h : OptSum K H v o) : Dp K H v (optD o) := by
  cases o with
  | none =>
    have h : v = .non := h
    subst h
    exact .non
  | some u => exact dp_sum h
theorem nice_ints {ns : List Int} (h : ∀ n ∈ ns, n.natAbs < 10 ^ 12) : niceAll (ns.map .int) = true := by
  rw [niceAll_iff]
  intro x hx
  obtain ⟨n, hn, rfl⟩ := List.mem_map.mp hx
  exact decide_eq_true (h n hn)
theorem nice_sumD (m : Nat) : nice (sumD m) = true := by
  refine nice_ints fun n hn => ?_
  obtain ⟨u, hu, rfl⟩ := List.mem_map.mp hn
  have := (mem_bts.mp hu).1
  show u < 10 ^ 12
  exact Nat.lt_trans this (by decide)
theorem nice_sumsD (ms : List Nat) : nice (sumsD ms) = true := by
  show niceAll (ms.map sumD) = true
  rw [niceAll_iff]
  intro x hx
  obtain ⟨m, _, rfl⟩ := List.mem_map.mp hx
  exact nice_sumD m
theorem nice_optD (o : Option Nat) : nice (optD o) = true := by
  cases o with
  | none => rfl
  | some u => exact nice_sumD u
theorem depth_sumsAll : ∀ ms : List Nat, PyData.depthAll (ms.map sumD) ≤ 1
  | [] => Nat.zero_le _
  | m :: ms => by
    show max (sumD m).depth (PyData.depthAll (ms.map sumD)) ≤ 1
    rw [depth_sumD]
    exact Nat.max_le.mpr ⟨Nat.le_refl _, depth_sumsAll ms⟩
theorem depth_sumsD (ms : List Nat) : (sumsD ms).depth ≤ 2 := by
  show PyData.depthAll (ms.map sumD) + 1 ≤ 2
  have := depth_sumsAll ms
  omega
theorem depth_optD (o : Option Nat) : (optD o).depth ≤ 1 := by
  cases o with
  | none => exact Nat.zero_le _
  | some u =>
    show (sumD u).depth ≤ 1
    rw [depth_sumD]
    exact Nat.le_refl _
theorem weight_int {i : Int} {k : Nat} (h : i.natAbs < 2 ^ k) : PyData.weight (.int i) ≤ k := by
  show (if i == 0 then 0 else i.natAbs.log2 + 1) ≤ k
  by_cases z : i = 0
  · subst z
    exact Nat.zero_le _
  · have e : (i == 0) = false := by
      rw [beq_eq_false_iff_ne]
      exact z
    rw [e]
    show i.natAbs.log2 + 1 ≤ k
    have : i.natAbs ≠ 0 := by omega
    exact (Nat.log2_lt this).mpr h
theorem weight_ints {k : Nat} : ∀ {ns : List Int}, (∀ n ∈ ns, n.natAbs < 2 ^ k) → PyData.weightAll (ns.map .int) ≤ (k + 1) * ns.length
  | [], _ => Nat.zero_le _
  | n :: ns, h => by
    have ih := weight_ints fun x hx => h x (List.mem_cons_of_mem _ hx)
    have w := weight_int (h n List.mem_cons_self)
    show PyData.weight (.int n) + 1 + PyData.weightAll (ns.map .int) ≤ _
    rw [List.length_cons, Nat.mul_add, Nat.mul_one]
    omega
theorem weight_sumD (m : Nat) : (sumD m).weight ≤ 441 := by
  have h := weight_ints (k := 6) (ns := (bts m).map Int.ofNat) fun n hn => by
    obtain ⟨u, hu, rfl⟩ := List.mem_map.mp hn
    have := (mem_bts.mp hu).1
    show u < 2 ^ 6
    omega
  have l := bts_len m
  rw [List.length_map] at h
  show PyData.weightAll _ ≤ 441
  omega
theorem weight_sumsAll : ∀ ms : List Nat, PyData.weightAll (ms.map sumD) ≤ 442 * ms.length
  | [] => Nat.zero_le _
  | m :: ms => by
    have ih := weight_sumsAll ms
    have w := weight_sumD m
    show (sumD m).weight + 1 + PyData.weightAll (ms.map sumD) ≤ _
    rw [List.length_cons]
    omega
theorem weight_sumsD {ms : List Nat} (h : ms.length ≤ 1000) : (sumsD ms).weight ≤ 2 ^ 20 := by
  have := weight_sumsAll ms
  show PyData.weightAll (ms.map sumD) ≤ _
  omega
theorem weight_optD (o : Option Nat) : (optD o).weight ≤ 2 ^ 20 := by
  cases o with
  | none => exact Nat.zero_le _
  | some u => exact Nat.le_trans (weight_sumD u) (by decide)
theorem shaped_sumD (m : Nat) : SeqAt.shaped (sumD m) = true := nice_shaped (nice_sumD m) (by rw [depth_sumD]; decide)
theorem eqv_sumD (m : Nat) : PyData.eqv (sumD m) (sumD m) = true := eqv_ints _
theorem sumD_zero : sumD 0 = .tuple [] := by
  unfold sumD
  rw [bts_zero]
  rfl
theorem dp_zero {K : PySem.W.Frag} {H : Hp} {a : Addr} (h : SqT K H a []) : Dp K H (.ref a) (sumD 0) := by
  rw [sumD_zero]
  exact .tup h .nil
theorem eqv_ints_iff : ∀ {xs ys : List Int}, PyData.eqvAll (xs.map .int) (ys.map .int) = true → xs = ys
  | [], [], _ => rfl
  | [], y :: ys, h => by cases h
  | x :: xs, [], h => by cases h
  | x :: xs, y :: ys, h => by
    have h : (PyData.eqv (.int x) (.int y) && PyData.eqvAll (xs.map .int) (ys.map .int)) = true := h
    rw [Bool.and_eq_true] at h
    have h1 : x = y := beq_iff_eq.mp h.1
    rw [h1, eqv_ints_iff h.2]
theorem eqv_sumD_iff {a b : Nat} (ha : a < 2 ^ 63) (hb : b < 2 ^ 63) (h : PyData.eqv (sumD a) (sumD b) = true) : a = b := by
  have h := eqv_ints_iff (show PyData.eqvAll _ _ = true from h)
  refine bts_inj ha hb ?_
  exact (List.map_inj_right (fun a b h => Int.ofNat.inj h)).mp h
theorem xall_pick (ms : List Nat) (u : Nat) : xall ((bts u).map fun k => ms.getD k 0) = pick ms u := by
  have go : ∀ n, xall (((List.range n).filter fun k => u.testBit k).map fun k => ms.getD k 0) = xsum (fun k => if u.testBit k then ms.getD k 0 else 0) n := by
    intro n
    induction n with
    | zero => rfl
    | succ n ih =>
      rw [List.range_succ, List.filter_append, List.map_append]
      show xall _ = xsum _ n ^^^ (if u.testBit n = true then ms.getD n 0 else 0)
      rw [← ih]
      cases q : u.testBit n with
      | true => simp [q, xall]
      | false => simp [q, xall]
  exact go 63
theorem pick_lt {ms : List Nat} (h : ∀ m ∈ ms, m < 2 ^ 63) (u : Nat) : pick ms u < 2 ^ 63 := Spn.lt h (pick_span ms u)
theorem wsum_range (m : Nat) (bs : List Nat) : wsum m bs = ((List.range 63).map fun u => if m.testBit u = true then bs.getD u 0 else 0).sum := by
  unfold wsum bts
  generalize List.range 63 = l
  induction l with
  | nil => rfl
  | cons u l ih =>
    rw [List.filter_cons, List.map_cons, List.sum_cons, ← ih]
    cases q : m.testBit u with
    | true => simp
    | false => simp
theorem wsum_xor (a b : Nat) (bs : List Nat) : wsum (a ^^^ b) bs % 2 = (wsum a bs + wsum b bs) % 2 := by
  rw [wsum_range, wsum_range, wsum_range]
  generalize List.range 63 = l
  induction l with
  | nil => rfl
  | cons u l ih =>
    simp only [List.map_cons, List.sum_cons]
    generalize (List.map (fun u => if (a ^^^ b).testBit u = true then bs.getD u 0 else 0) l).sum = x at ih ⊢
    generalize (List.map (fun u => if a.testBit u = true then bs.getD u 0 else 0) l).sum = y at ih ⊢
    generalize (List.map (fun u => if b.testBit u = true then bs.getD u 0 else 0) l).sum = z at ih ⊢
    generalize bs.getD u 0 = w
    rw [Nat.testBit_xor]
    cases a.testBit u <;> cases b.testBit u <;> simp <;> omega
theorem wsum_zero (bs : List Nat) : wsum 0 bs = 0 := by
  unfold wsum
  rw [bts_zero]
  rfl
theorem wsum_all (bs : List Nat) (ms : List Nat) : ((ms.map fun m => wsum m bs % 2).sum) % 2 = wsum (xall ms) bs % 2 := by
  suffices h : ∀ n, ∀ ms : List Nat, ms.length = n → ((ms.map fun m => wsum m bs % 2).sum) % 2 = wsum (xall ms) bs % 2 from h _ ms rfl
  intro n
  induction n with
  | zero =>
    intro ms hl
    have : ms = [] := List.length_eq_zero_iff.mp hl
    subst this
    show 0 % 2 = wsum 0 bs % 2
    rw [wsum_zero]
  | succ n ih =>
    intro ms hl
    have hne : ms ≠ [] := by intro z; subst z; cases hl
    obtain ⟨pre, m, rfl⟩ : ∃ pre m, ms = pre ++ [m] := ⟨ms.dropLast, ms.getLast hne, (List.dropLast_concat_getLast hne).symm⟩
    have h := ih pre (by simpa using hl)
    rw [xall_snoc, wsum_xor, List.map_append, List.sum_append]
    simp only [List.map_cons, List.map_nil, List.sum_cons, List.sum_nil]
    omega
theorem cut_take (xs : List V) (j : Nat) : cutV xs none (some (j : Int)) = xs.take j := by
  unfold cutV
  have e1 : HT.sIx xs.length 0 none = 0 := HT.sIx_none _ _
  have e2 : HT.sIx xs.length xs.length (some (j : Int)) = min j xs.length := HT.sIx_nat _ _ _
  rw [e1, e2, Nat.sub_zero, List.drop_zero]
  by_cases h : j ≤ xs.length
  · rw [Nat.min_eq_left h]
  · rw [Nat.min_eq_right (by omega), List.take_length, List.take_of_length_le (by omega)]
theorem BagAt.mut {K : PySem.W.Frag} {H0 H : Hp} {b c D : Addr} {o : HO} (B0 : BagAt K H0 b c) (n : H0 D = none) (B : BagAt K H b c) : BagAt K (upd H D o) b c := by
  obtain ⟨x0, y0, z0, cs0, h01, h02, h03, _, _, _, _, p1, p2⟩ := B0
  obtain ⟨x, y, z, cs, h1, h2, h3, q1, q2, q3, q4, q5, q6⟩ := B
  have nb : b ≠ D := ne_of_none h01 n
  have hb : (upd H D o) b = some (.lst [.int x, .int y, .int z, .ref c]) := by rw [upd_ne nb]; exact h1
  rcases h02 with h02 | h02
  · have nc : c ≠ D := by
      rcases h02 with h | ⟨u, h⟩
      · exact ne_of_none h n
      · exact ne_of_none h n
    refine ⟨x, y, z, cs, hb, ?_, h3, q1, q2, q3, q4, q5, q6⟩
    rcases h2 with (h | ⟨u, h⟩) | h
    · exact .inl (.inl (by rw [upd_ne nc]; exact h))
    · exact .inl (.inr ⟨u, by rw [upd_ne nc]; exact h⟩)
    · exact .inr h
  · exact ⟨x, y, z, cs0, hb, .inr h02, h3, q1, q2, q3, q4, p1, p2⟩
theorem but_mut {b : Addr} {H0 H : Hp} {D : Addr} {o : HO} (s : But b H0 H) (n : H0 D = none) : But b H0 (upd H D o) := fun a x na e => by
  rw [upd_ne (ne_of_none e n)]
  exact s a x na e
theorem indep_eq (ms : List Nat) : indep ms = (List.range ms.length).filter fun k => decide (k ∉ (elim ms).2.1.map (·.1)) := rfl
theorem lot_facts {ms : List Nat} (hm : ∀ x ∈ ms, x < 2 ^ 63) (hl : ms.length ≤ 62) : (lotOf ms = none → lrank ms = ms.length) ∧ (∀ u, lotOf ms = some u → u ≠ 0 ∧ u < 2 ^ ms.length ∧ pick ms u = 0) := by
  have O := elim_ok ms hm hl
  unfold lotOf
  cases e : (elim ms).2.1 with
  | nil => exact ⟨fun _ => indep_all hm hl e, fun u h => by cases h⟩
  | cons l ls =>
    refine ⟨(fun h => by cases h), fun u h => ?_⟩
    have h : l.2 = u := Option.some.inj h
    subst h
    obtain ⟨_, h2, h3, h4⟩ := O.lots l (by rw [e]; exact List.mem_cons_self)
    exact ⟨h2, h3, h4⟩
theorem iv_take {l : List Nat} (i : Nat) : (iv l).take i = iv (l.take i) := by
  unfold iv
  rw [List.map_take]
theorem dp_iv {K : PySem.W.Frag} {H : Hp} {a : Addr} {l : List Nat} (h : SqL K H a (iv l)) : Dp K H (.ref a) (.list ((l.map Int.ofNat).map .int)) := by
  rw [iv_ints] at h
  exact dp_list h
theorem nice_iv {l : List Nat} (h : ∀ n ∈ l, n < 10 ^ 12) : nice (.list ((l.map Int.ofNat).map .int)) = true := nice_ints fun n hn => by
  obtain ⟨u, hu, rfl⟩ := List.mem_map.mp hn
  exact h u hu
theorem depth_iv (l : List Nat) : (PyData.list ((l.map Int.ofNat).map .int)).depth ≤ 40 := by
  show PyData.depthAll _ + 1 ≤ 40
  rw [depth_ints]
  decide
theorem weight_iv {l : List Nat} (h : ∀ n ∈ l, n < 2 ^ 40) (hl : l.length ≤ 1000) : (PyData.list ((l.map Int.ofNat).map .int)).weight ≤ 2 ^ 20 := by
  have w := weight_ints (k := 40) (ns := l.map Int.ofNat) fun n hn => by
    obtain ⟨u, hu, rfl⟩ := List.mem_map.mp hn
    exact h u hu
  rw [List.length_map] at w
  show PyData.weightAll _ ≤ _
  omega
theorem paired_take {α β : Type} {R : α → β → Prop} : ∀ {xs : List α} {ys : List β} (n : Nat), PySem.Paired R xs ys → PySem.Paired R (xs.take n) (ys.take n)
  | _, _, 0, _ => .nil
  | _, _, n + 1, .nil => .nil
  | _, _, n + 1, .cons h t => .cons h (paired_take n t)
theorem pairD_facts (m r : Nat) (hr : r ≤ 1000) : nice (.list [sumD m, .int (r : Int)]) = true ∧ (PyData.list [sumD m, .int (r : Int)]).depth ≤ 40 ∧ (PyData.list [sumD m, .int (r : Int)]).weight ≤ 2 ^ 20 := by
  refine ⟨?_, ?_, ?_⟩
  · refine niceAll_iff.mpr fun x hx => ?_
    rcases List.mem_cons.mp hx with rfl | hx
    · exact nice_sumD m
    · rcases List.mem_cons.mp hx with rfl | hx
      · refine decide_eq_true ?_
        show r < 10 ^ 12
        exact Nat.lt_of_le_of_lt hr (by decide)
      · cases hx
  · show max (sumD m).depth (max 0 0) + 1 ≤ 40
    rw [depth_sumD]
    decide
  · have w := weight_sumD m
    have w2 : PyData.weight (.int (r : Int)) ≤ 10 := weight_int (show r < 2 ^ 10 by omega)
    show (sumD m).weight + 1 + (PyData.weight (.int (r : Int)) + 1 + 0) ≤ 2 ^ 20
    omega
theorem ivD_facts {l : List Nat} (h : ∀ n ∈ l, n < 10 ^ 9) (hl : l.length ≤ 1000) : nice (.list ((l.map Int.ofNat).map .int)) = true ∧ (PyData.list ((l.map Int.ofNat).map .int)).depth ≤ 40 ∧ (PyData.list ((l.map Int.ofNat).map .int)).weight ≤ 2 ^ 20 :=
  ⟨nice_iv fun n hn => Nat.lt_trans (h n hn) (by decide), depth_iv l, weight_iv (fun n hn => Nat.lt_trans (h n hn) (by decide)) hl⟩
def tVia (t : TE) : TE := fun σ H Q => ∃ Mid : V → Hp → Prop, t σ H Mid ∧ ∀ v H', Mid v H' → Q v H'
theorem pe_via {X : Cx} {e : Expr} {t : TE} (he : PE X e t) : PE X e (tVia t) :=
  ⟨fun pins s σ H Q I ⟨Mid, h, k⟩ => thn (he.run pins s σ H Mid I h) fun v s1 ⟨x, H1, I1, r1, q1⟩ => ⟨x, H1, I1, r1, k _ _ q1⟩⟩
def sp_law (K : PySem.W.Frag) : Sp := fun vs H Q _ => ∃ (a : Addr) (ns : List Int), vs = [.ref a] ∧ SqL K H a (ns.map V.int) ∧ ns.length ≤ 63 ∧ ∀ H', Q (.bl true) H'
structure SumsAt (K : PySem.W.Frag) (H : Hp) (b c a : Addr) (n : Nat) (us : List V) (ms : List Nat) : Prop where
  bag : BagAt K H b c
  ne : a ≠ b
  at_ : H a = some (.lst us)
  sums : Paired (SumV K H) us ms
  lt : ∀ m ∈ ms, m < 2 ^ n
theorem SumsAt.but {K : PySem.W.Frag} {H H' : Hp} {b c a : Addr} {n : Nat} {us : List V} {ms : List Nat} (S : SumsAt K H b c a n us ms) (s : But b H H') (B : BagAt K H' b c) : SumsAt K H' b c a n us ms :=
  ⟨B, S.ne, s _ _ S.ne S.at_, sums_bag S.bag s S.sums, S.lt⟩
theorem SumsAt.same {K : PySem.W.Frag} {H H' : Hp} {b c a : Addr} {n : Nat} {us : List V} {ms : List Nat} (S : SumsAt K H b c a n us ms) (s : Same H H') : SumsAt K H' b c a n us ms := S.but (But.same s) (S.bag.same s)
theorem SumsAt.mut {K : PySem.W.Frag} {H0 H : Hp} {b c a D : Addr} {n : Nat} {us ys : List V} {ms : List Nat} {o : HO} (B0 : BagAt K H0 b c) (nD : H0 D = none) (na : a ≠ D) (eD : H D = some (.lst ys)) (S : SumsAt K H b c a n us ms) : SumsAt K (upd H D o) b c a n us ms :=
  ⟨BagAt.mut B0 nD S.bag, S.ne, by rw [upd_ne na]; exact S.at_, sums_but eD But.at_ S.sums, S.lt⟩
theorem SumsAt.push {K : PySem.W.Frag} {H0 H : Hp} {b c a : Addr} {n m : Nat} {us : List V} {ms : List Nat} {v : V} (B0 : BagAt K H0 b c) (na : H0 a = none) (S : SumsAt K H b c a n us ms) (hv : SumV K H v m) (hm : m < 2 ^ n) : SumsAt K (upd H a (.lst (us ++ [v]))) b c a n (us ++ [v]) (ms ++ [m]) :=
  ⟨BagAt.mut B0 na S.bag, S.ne, upd_same, PySem.Paired.snoc (sums_but S.at_ But.at_ S.sums) (hv.but S.at_ But.at_), fun x hx => by
    rcases List.mem_append.mp hx with hx | hx
    · exact S.lt x hx
    · have hx : x = m := by simpa using hx
      rw [hx]; exact hm⟩
theorem SumsAt.few {K : PySem.W.Frag} {H : Hp} {b c a : Addr} {n : Nat} {us : List V} {ms : List Nat} (S : SumsAt K H b c a n us ms) (hn : n ≤ 62) (hl : us.length ≤ 62) : Sums K H a us ms :=
  ⟨.inl (.inl S.at_), S.sums, fun m hm => Nat.lt_of_lt_of_le (S.lt m hm) (Nat.pow_le_pow_right (by decide) (by omega)), by rw [← Paired.len S.sums]; exact hl⟩
theorem xall_below {n : Nat} {ms : List Nat} (hn : ∀ m ∈ ms, m < 2 ^ n) : xall ms < 2 ^ n := by
  have go : ∀ (l : List Nat) (x : Nat), x < 2 ^ n → (∀ m ∈ l, m < 2 ^ n) → l.foldl (· ^^^ ·) x < 2 ^ n := by
    intro l
    induction l with
    | nil => intro x hx _; exact hx
    | cons m l ih =>
      intro x hx hl
      exact ih _ (Nat.xor_lt_two_pow hx (hl m List.mem_cons_self)) fun y hy => hl y (List.mem_cons_of_mem _ hy)
  exact go ms 0 (Nat.two_pow_pos n) hn
end Es
set_option Elab.async false
set_option linter.all false
set_option maxRecDepth 100000
set_option maxHeartbeats 4000000
namespace Es
open PySem PySem.Spec PyProof.Rows L2
def tListVals (te : TE) : TE := fun σ H Q => te σ H fun x H1 => ∃ (d : Addr) (kvs : List (Key × V)), x = .ref d ∧ H1 d = some (.dK kvs) ∧ ∀ p, H1 p = none → Q (.ref p) (upd H1 p (.lst (kvs.map (·.2))))
section
variable {X : Cx} {e : Expr} {te : TE} {p apos cpos pos : Pos}
theorem vals_items {kvs : List (Key × V)} {vs : List (Key × Value)} (kv : KV kvs vs) {acc : Array Value} (hacc : ItemsOf (fun i v => ∃ k, vs[i]? = some (k, v)) acc vs.length) : Vals (kvs.map (·.2)) acc.toList := by
  have hl : acc.toList.length = vs.length := by rw [Array.length_toList]; exact hacc.1
  have he : acc.toList = vs.map (·.2) := by
    refine List.ext_getElem? fun i => ?_
    rw [List.getElem?_map]
    by_cases h : i < vs.length
    · have hi : i < acc.toList.length := by omega
      rw [List.getElem?_eq_getElem hi]
      obtain ⟨k, hk⟩ := hacc.2 i acc.toList[i] (by rw [← Array.getElem?_toList, List.getElem?_eq_getElem hi])
      rw [hk]
      rfl
    · rw [List.getElem?_eq_none (by omega), List.getElem?_eq_none (by omega)]
      rfl
  rw [he]
  clear he hl hacc
  unfold KV at kv
  induction kv with
  | nil => exact .nil
  | cons h _ ih => exact .cons h.2 ih
theorem pe_listVals (hc : X.calm = true) (he : PE X e te) (hg : Gl X "list") (hm : X.mg "list" = none) (hv : bootBuiltins "list" = some (.type "list")) (hbase : attributeBase e "values" X.env (eval e X.env) = eval e X.env := by rfl) (hline : (apos.endLine == cpos.line) = true := by rfl)
    (hs : starEach [.Call (.Attribute e "values" apos) [] [] cpos] X.env = (false, eval (.Call (.Attribute e "values" apos) [] [] cpos) X.env) :: starEach [] X.env := by rfl) :
    PE X (.Call (.Name "list" p) [.Call (.Attribute e "values" apos) [] [] cpos] [] pos) (tListVals te) := by
  refine ⟨fun pins s σ H Q I hq => ?_⟩
  refine wpAny_Call_Name_kw (ld_blt I hg hm hv ?_)
  refine PyProof.Rows.callWith_type1 ?_ hs rfl
  rw [hs]
  show wpAny _ _ (spliced ((false, eval (.Call (.Attribute e "values" apos) [] [] cpos) X.env) :: backTo pos (starEach [] X.env))) _ _ s
  refine Calls.spliced_cons ?_
  refine wpAny_Call_method (T := "dict") (id := "dict.values") hbase rfl hline F.plainAttrs_dict F.slot_dict_values F.type_dict_values (thn (he.run pins s σ H _ I hq) fun u s1 ⟨x, H1, I1, rx, d, kvs, ex, hd, q⟩ => ?_)
  subst ex
  obtain rfl : u = Value.ref d := rx
  obtain ⟨hz, hs0, vs, kv, hdo⟩ := I1.hok d _ hd
  obtain ⟨ep, hat⟩ := hdo.dictAt
  have lk : kvs.length = vs.length := Paired.length kv
  have I2 : Inv X pins σ H1 { s1 with heap := s1.heap.push { cls := .type "dict_values", data := .fields #[.ref d] } } := I1.kept (t' := s1.toks) fun b ob q => Heap.get?_push_of_some _ q
  refine ⟨hdo.typeIs, hdo.mapOf.noDict, ?_⟩
  show wpAny _ _ (callWith cpos (.builtin "dict.values") [.ref d] [] []) _ X.xe s1
  refine method_meetsIn F.slot_dict_values F.entry_dict_values rfl (PySem.evalArgs_none ⟨rfl, hdo.typeIs, F.args_dict_values_1 _, _, meets_dict_values (mixKind X.prog X.w) d hs0, ⟨vs, hdo⟩, ?_⟩)
  refine Calls.spliced_nil ?_
  refine PySem.W.kdl_call (PySem.W.kdl_values (knd := mixKind X.prog X.w) (kvs := vs) (ep := ep)) (I1.ok.hd hc) ⟨⟨_, Heap.get?_push_size _ rfl, rfl, rfl⟩, hat.push _⟩ (by omega) fun h' tk acc c hk hS hacc => ?_
  refine ⟨.ref _, upd H1 _ (.lst (kvs.map (·.2))), I2.laid (t' := tk) hk (Nat.le_refl _) ⟨?_, acc.toList, c, vals_items kv hacc, ?_⟩, rfl, q _ (I2.hok.fresh (Nat.le_refl _))⟩
  · rw [List.length_map]
    omega
  · rw [Array.toArray_toList]
    exact hS
end
end Es
set_option Elab.async false
set_option linter.all false
set_option maxRecDepth 100000
set_option maxHeartbeats 4000000
namespace Es
open PySem PySem.Spec PyProof.Rows L2
def sp_basis_of (K : PySem.W.Frag) : Sp := fun vs H Q _ => ∃ (a : Addr) (us : List V) (ms : List Nat), vs = [.ref a] ∧ Sums K H a us ms ∧
  ∀ H' d k1, Same H H' → H d = none → H' d = some (.dK k1) → DictR (PairV K H') k1 (elim ms).1 → Q (.ref d) H'
def sp_used_by (K : PySem.W.Frag) : Sp := fun vs H Q _ => ∃ (d : Addr) (k1 : List (Key × V)) (ms : List Nat) (vr : V) (m : Nat), vs = [.ref d, vr] ∧ H d = some (.dK k1) ∧ DictR (PairV K H) k1 (elim ms).1 ∧ (∀ m ∈ ms, m < 2 ^ 63) ∧ ms.length ≤ 62 ∧ SumV K H vr m ∧ m < 2 ^ 63 ∧
  ∀ H' v, Same H H' → OptSum K H' v (sumBy ms m) → Q v H'
def sp_dependent_lots (K : PySem.W.Frag) : Sp := fun vs H Q _ => ∃ (a : Addr) (us : List V) (ms : List Nat), vs = [.ref a] ∧ Sums K H a us ms ∧
  ∀ H' p us', Same H H' → H' p = some (.lst us') → Paired (SumV K H') us' ((elim ms).2.1.map (·.2)) → Q (.ref p) H'
theorem dict_vals {β : Type} {S : V → β → Prop} : ∀ {kvs : List (Key × V)} {bs : List (Nat × β)}, DictR S kvs bs → Paired S (kvs.map (·.2)) (bs.map (·.2))
  | _, _, .nil => .nil
  | _, _, .cons h t => .cons h.2 (dict_vals t)
end Es
set_option Elab.async false
set_option linter.all false
set_option maxRecDepth 100000
set_option maxHeartbeats 4000000
namespace Es
open PySem PySem.Spec PyProof.Rows L2
def topS (i : Nat) : Stmt := PySem.Challenge.pw_eithersums_k02_whole_sums_put_together.main.body.getD i (.Pass ⟨0, 0, 0, 0⟩)
abbrev s_together : Stmt := topS 1
theorem sc_together : FnScope ["sums", "odd", "row", "unknown"] ["sums"] (defScope s_together) := ⟨rfl, rfl, rfl, by decide +kernel, rfl, by decide +kernel, by decide +kernel⟩
abbrev s_worth_of : Stmt := topS 2
theorem sc_worth_of : FnScope ["row", "bits", "unknown"] ["row", "bits"] (defScope s_worth_of) := ⟨rfl, rfl, rfl, by decide +kernel, rfl, by decide +kernel, by decide +kernel⟩
abbrev s_rank_of : Stmt := topS 3
theorem sc_rank_of : FnScope ["sums"] ["sums"] (defScope s_rank_of) := ⟨rfl, rfl, rfl, by decide +kernel, rfl, by decide +kernel, by decide +kernel⟩
abbrev s_sum_by : Stmt := topS 4
theorem sc_sum_by : FnScope ["sums", "row"] ["sums", "row"] (defScope s_sum_by) := ⟨rfl, rfl, rfl, by decide +kernel, rfl, by decide +kernel, by decide +kernel⟩
abbrev s_dependent_lot : Stmt := topS 5
theorem sc_dependent_lot : FnScope ["sums", "lots"] ["sums"] (defScope s_dependent_lot) := ⟨rfl, rfl, rfl, by decide +kernel, rfl, by decide +kernel, by decide +kernel⟩
abbrev s_independent_among : Stmt := topS 6
theorem sc_independent_among : FnScope ["sums", "_", "lots", "index"] ["sums"] (defScope s_independent_among) := ⟨rfl, rfl, rfl, by decide +kernel, rfl, by decide +kernel, by decide +kernel⟩
abbrev s_dependent_lots : Stmt := topS 7
theorem sc_dependent_lots : FnScope ["sums", "_", "lots"] ["sums"] (defScope s_dependent_lots) := ⟨rfl, rfl, rfl, by decide +kernel, rfl, by decide +kernel, by decide +kernel⟩
abbrev s_basis_of : Stmt := topS 8
theorem sc_basis_of : FnScope ["sums", "basis", "_"] ["sums"] (defScope s_basis_of) := ⟨rfl, rfl, rfl, by decide +kernel, rfl, by decide +kernel, by decide +kernel⟩
abbrev s_used_by : Stmt := topS 9
theorem sc_used_by : FnScope ["basis", "row", "rest", "used"] ["basis", "row"] (defScope s_used_by) := ⟨rfl, rfl, rfl, by decide +kernel, rfl, by decide +kernel, by decide +kernel⟩
abbrev s_eliminated : Stmt := topS 10
theorem sc_eliminated : FnScope ["sums", "basis", "lots", "index", "row", "rest", "used"] ["sums"] (defScope s_eliminated) := ⟨rfl, rfl, rfl, by decide +kernel, rfl, by decide +kernel, by decide +kernel⟩
abbrev s_rest : Stmt := topS 11
theorem sc_rest : FnScope ["basis", "row", "used", "other", "others_used"] ["basis", "row", "used"] (defScope s_rest) := ⟨rfl, rfl, rfl, by decide +kernel, rfl, by decide +kernel, by decide +kernel⟩
abbrev s_law_bag : Stmt := topS 13
theorem sc_law_bag : FnScope ["script", "cell"] ["script"] (defScope s_law_bag) := ⟨rfl, rfl, rfl, by decide +kernel, rfl, by decide +kernel, by decide +kernel⟩
abbrev s_law_take : Stmt := topS 14
theorem sc_law_take : FnScope ["bag", "many", "cell", "stirred", "value", "begin", "second"] ["bag", "many"] (defScope s_law_take) := ⟨rfl, rfl, rfl, by decide +kernel, rfl, by decide +kernel, by decide +kernel⟩
abbrev s_law_some : Stmt := topS 15
theorem sc_law_some : FnScope ["bag", "things"] ["bag", "things"] (defScope s_law_some) := ⟨rfl, rfl, rfl, by decide +kernel, rfl, by decide +kernel, by decide +kernel⟩
abbrev s_law_alike : Stmt := topS 16
theorem sc_law_alike : FnScope ["found", "due"] ["found", "due"] (defScope s_law_alike) := ⟨rfl, rfl, rfl, by decide +kernel, rfl, by decide +kernel, by decide +kernel⟩
abbrev s_law_mask : Stmt := topS 17
theorem sc_law_mask : FnScope ["row", "found", "unknown"] ["row"] (defScope s_law_mask) := ⟨rfl, rfl, rfl, by decide +kernel, rfl, by decide +kernel, by decide +kernel⟩
abbrev s_law_row : Stmt := topS 18
theorem sc_law_row : FnScope ["mask", "unknown"] ["mask"] (defScope s_law_row) := ⟨rfl, rfl, rfl, by decide +kernel, rfl, by decide +kernel, by decide +kernel⟩
abbrev s_law_worth : Stmt := topS 19
theorem sc_law_worth : FnScope ["row", "bits", "unknown"] ["row", "bits"] (defScope s_law_worth) := ⟨rfl, rfl, rfl, by decide +kernel, rfl, by decide +kernel, by decide +kernel⟩
abbrev s_law_flat_of : Stmt := topS 20
theorem sc_law_flat_of : FnScope ["lines", "heads", "row", "bit", "mask", "head", "at"] ["lines"] (defScope s_law_flat_of) := ⟨rfl, rfl, rfl, by decide +kernel, rfl, by decide +kernel, by decide +kernel⟩
abbrev s_law_rank : Stmt := topS 21
theorem sc_law_rank : FnScope ["rows", "row"] ["rows"] (defScope s_law_rank) := ⟨rfl, rfl, rfl, by decide +kernel, rfl, by decide +kernel, by decide +kernel⟩
abbrev s_law_any_row : Stmt := topS 22
theorem sc_law_any_row : FnScope ["bag", "many", "mask", "turn"] ["bag", "many"] (defScope s_law_any_row) := ⟨rfl, rfl, rfl, by decide +kernel, rfl, by decide +kernel, by decide +kernel⟩
abbrev s_law_is_whole : Stmt := topS 23
theorem sc_law_is_whole : FnScope ["thing"] ["thing"] (defScope s_law_is_whole) := ⟨rfl, rfl, rfl, by decide +kernel, rfl, by decide +kernel, by decide +kernel⟩
abbrev s_law_is_in : Stmt := topS 24
theorem sc_law_is_in : FnScope ["thing", "many"] ["thing", "many"] (defScope s_law_is_in) := ⟨rfl, rfl, rfl, by decide +kernel, rfl, by decide +kernel, by decide +kernel⟩
abbrev s_law_is_sum : Stmt := topS 25
theorem sc_law_is_sum : FnScope ["many", "thing", "one"] ["many", "thing"] (defScope s_law_is_sum) := ⟨rfl, rfl, rfl, by decide +kernel, rfl, by decide +kernel, by decide +kernel⟩
abbrev s_law_all_of : Stmt := topS 26
theorem sc_law_all_of : FnScope ["sums", "found", "row", "unknown"] ["sums"] (defScope s_law_all_of) := ⟨rfl, rfl, rfl, by decide +kernel, rfl, by decide +kernel, by decide +kernel⟩
abbrev s_law_are_some : Stmt := topS 27
theorem sc_law_are_some : FnScope ["many", "thing"] ["many", "thing"] (defScope s_law_are_some) := ⟨rfl, rfl, rfl, by decide +kernel, rfl, by decide +kernel, by decide +kernel⟩
abbrev s_law_is_sum_right : Stmt := topS 28
theorem sc_law_is_sum_right : FnScope ["sums", "row", "kept", "told", "rank", "k"] ["sums", "row"] (defScope s_law_is_sum_right) := ⟨rfl, rfl, rfl, by decide +kernel, rfl, by decide +kernel, by decide +kernel⟩
abbrev s_law_are_told : Stmt := topS 29
theorem sc_law_are_told : FnScope ["bag", "many", "sums", "bits", "kept", "rank", "unknown", "whole", "due", "k", "worths", "row", "lot", "again", "told"] ["bag", "many", "sums"] (defScope s_law_are_told) := ⟨rfl, rfl, rfl, by decide +kernel, rfl, by decide +kernel, by decide +kernel⟩
abbrev s_law : Stmt := topS 30
theorem sc_law : FnScope ["script", "bag", "turn", "many", "sums", "k", "way", "row", "one", "rows"] ["script"] (defScope s_law) := ⟨rfl, rfl, rfl, by decide +kernel, rfl, by decide +kernel, by decide +kernel⟩
structure Txt (mg : Str → Option Value) : Prop where
  z_tuple : mg "tuple" = none
  z_sorted : mg "sorted" = none
  z_sum : mg "sum" = none
  z_len : mg "len" = none
  z_range : mg "range" = none
  z_list : mg "list" = none
  z_enumerate : mg "enumerate" = none
  z_abs : mg "abs" = none
  z_int : mg "int" = none
  z_repr : mg "repr" = none
  z_isinstance : mg "isinstance" = none
  z_bool : mg "bool" = none
  z_set : mg "set" = none
end Es
set_option Elab.async false
set_option linter.all false
set_option maxRecDepth 100000
set_option maxHeartbeats 4000000
namespace Es
open PySem PySem.Spec PyProof.Rows L2
section
variable {P : Program} {w : World} {K : PySem.W.Frag} {mg : Str → Option Value} {base : Heap}
theorem ok_law_bag {f : Addr} {fd : FuncData} (F : Fun K "_law_bag" "_law_bag" s_law_bag f fd) (T : Txt mg)  : FnG P w K mg base 1 f fd ["script"] (sp_law_bag K) := by
  refine okG F sc_law_bag (fun h => ?_) (fun cdv B out t0 G ys R E hr hg h => ?_)
  · obtain ⟨a, ns, rfl, _⟩ := h
    rfl
  · obtain ⟨a, ns, rfl, hS, hl, k⟩ := h
    refine ⟨_, (pss_one
        (ps_ret (pe_lst (pa_cons pe_int (pa_cons pe_int (pa_cons pe_int (pa_cons (pe_lc (own := [("cell", 1)]) rfl sc_law_bag.nd (pi_list (pe_slice sl_list (pv 0) po_none (po_some pe_int))) (blkOk_by (own := [("cell", 1)]) (N := ["script", "cell"]) (sc := defScope s_law_bag) (by decide +kernel)) (fun _ _ _ _ _ => (pg_name (i := 1) sc_law_bag.nd rfl (.inl rfl))) (fun _ _ _ _ _ => pts_nil) (fun _ _ _ _ _ => (pe_callB call_abs (by rfl) T.z_abs (by decide +kernel) (pa_cons (pv 1) pa_nil)))) pa_nil))))))), ?_⟩
    refine ⟨_, rfl, _, rfl, a, _, rfl, hS, fun p np => ?_⟩
    have s0 := same_new (o := .lst (cutV (ns.map V.int) none (some 63))) np
    obtain ⟨ds, eds, dsl⟩ : ∃ ds : List Int, cutV (ns.map V.int) none (some 63) = ds.map V.int ∧ ds.length ≤ ns.length := by
      have hl := cutV_length (ns.map V.int) none (some 63)
      unfold cutV at hl ⊢
      rw [← List.map_drop, ← List.map_take] at hl ⊢
      exact ⟨_, rfl, by simpa using hl⟩
    rw [eds] at s0 ⊢
    refine ⟨p, rfl, ⟨_, .inl (.inl upd_same)⟩, fun D hD => ?_⟩
    have nGD : G D = none := s0.free hD
    refine lc_list (K := K) (a := p) (xs := ds.map V.int) (fun i H => ∃ cs : List Int, H D = some (.lst (cs.map V.int)) ∧ Same (upd G p (.lst (ds.map V.int))) H ∧ cs.length = i ∧ ∀ c ∈ cs, 0 ≤ c)
      ⟨[], upd_same, same_new hD, rfl, fun c hc => by cases hc⟩ (fun i H _ ⟨_, _, s, _⟩ => .inl (.inl (s _ _ upd_same))) ?_ ?_
    · rintro i x H hi ⟨cs, ec, sa, lc, c0⟩
      obtain ⟨z, rfl⟩ : ∃ z, x = V.int z := by
        rw [List.getElem?_map] at hi
        cases e : ds[i]? with
        | none => rw [e] at hi; cases hi
        | some z => rw [e] at hi; exact ⟨z, (Option.some.inj hi).symm⟩
      have hil : i < ds.length := by
        have := (List.getElem?_eq_some_iff.mp hi).1
        simpa using this
      refine ⟨rfl, _, rfl, _, rfl, _, ec, ?_, cs ++ [if z < 0 then -z else z], ?_, same_mut sa hD, by simp [lc], ?_⟩
      · rw [List.length_map, lc]
        exact small1000 (by omega)
      · rw [upd_same]
        simp
      · intro c hc
        rcases List.mem_append.mp hc with hc | hc
        · exact c0 c hc
        · have hc : c = if z < 0 then -z else z := by simpa using hc
          subst hc
          split <;> omega
    · rintro H ⟨cs, ec, sa, lc, c0⟩
      refine ⟨by show 4 ≤ sizeLine; decide, fun b nb => ?_⟩
      have sb := same_new (o := .lst [V.int 0, V.int 1234567891, V.int 0, V.ref D]) nb
      refine k _ b D ((s0.trans sa).trans sb) ((s0.trans sa).free nb) nGD ⟨0, 1234567891, 0, cs, upd_same, .inl (.inl (sb _ _ ec)), ?_, by decide, by decide, by decide, by decide, c0, ?_⟩
      · exact (ne_of_none ec nb).symm
      · rw [lc, List.length_map]
        omega
end
end Es
set_option Elab.async false
set_option linter.all false
set_option maxRecDepth 100000
set_option maxHeartbeats 4000000
namespace Es
open PySem PySem.Spec PyProof.Rows L2
section
variable {P : Program} {w : World} {K : PySem.W.Frag} {mg : Str → Option Value} {base : Heap}
theorem ok_law_take {f : Addr} {fd : FuncData} (F : Fun K "_law_take" "_law_take" s_law_take f fd) (T : Txt mg)  : FnG P w K mg base 1 f fd ["bag", "many"] (sp_law_take K) := by
  refine okG F sc_law_take (fun h => ?_) (fun cdv B out t0 G ys R E hr hg h => ?_)
  · obtain ⟨b, c, n, rfl, _⟩ := h
    rfl
  · obtain ⟨b, c, n, rfl, ⟨x, y, z, cs, hb, hc, nbc, x0, y0, y1, z0, cs0, cl⟩, n0, n1, k⟩ := h
    have hu := hu_of hr
    refine ⟨_, (Evl.pss_cut
        (ps_if (pt_cmpR op_eq (pe_ix ix_list (pv 0) pe_int (fun _ _ => rfl)) pe_int (nomark _))
        (pss_cons
          (ps_set (i := 2) sc_law_take.nd rfl (Or.inl rfl) (pe_ix ix_list (pe_op op_cat (pe_slice sl_list (pe_ix ix_list (pv 0) pe_int (fun _ _ => rfl)) (po_some (pe_ix ix_list (pv 0) pe_int (fun _ _ => rfl))) po_none) (pe_lst (pa_cons pe_int pa_nil))) pe_int (fun _ _ => rfl)))
          (pss_cons
          (ps_augS (pv 0) pe_int get_list pe_int ip_add set_list)
          (Evl.pss_cut
          (ps_if (pt_cmpR op_ge (pv 2) (pe_op op_pow pe_int pe_int) (nomark _))
          (pss_one
            (ps_asg (pv 2) (pg_sub (pv 0) pe_int set_list)))
          pss_nil)
          (pss_cons
          (ps_set (i := 3) sc_law_take.nd rfl (Or.inl rfl) (pe_op op_add (pe_op op_add (pe_op op_mul (pe_ix ix_list (pv 0) pe_int (fun _ _ => rfl)) pe_int) (pe_op op_mod (pe_callTy call_int1 (by rfl) T.z_int (by decide +kernel) (pa_cons (pv 2) pa_nil)) pe_int)) (pe_op op_mul pe_int (pe_ix ix_list (pv 0) pe_int (fun _ _ => rfl)))))
          (pss_one
          (ps_asg (pe_op op_mod (pe_callTy call_int1 (by rfl) T.z_int (by decide +kernel) (pa_cons (pv 3) pa_nil)) pe_int) (pg_sub (pv 0) pe_int set_list)))))))
        pss_nil)
        (pss_cons
        (ps_if (pt_cmpR op_gt (pe_ix ix_list (pv 0) pe_int (fun _ _ => rfl)) pe_int (nomark _))
        (pss_cons
          (ps_set (i := 4) sc_law_take.nd rfl (Or.inl rfl) (pe_op op_mod (pe_callTy call_int1 (by rfl) T.z_int (by decide +kernel) (pa_cons (pe_ix ix_list (pv 0) pe_int (fun _ _ => rfl)) pa_nil)) (pv 1)))
          (pss_cons
          (ps_asg (pe_op op_fdiv (pe_callTy call_int1 (by rfl) T.z_int (by decide +kernel) (pa_cons (pe_ix ix_list (pv 0) pe_int (fun _ _ => rfl)) pa_nil)) (pv 1)) (pg_sub (pv 0) pe_int set_list))
          (pss_one
          (ps_ret (pv 4)))))
        pss_nil)
        (pss_cons
        (ps_set (i := 5) sc_law_take.nd rfl (Or.inl rfl) (pe_op op_mod (pe_callTy call_int1 (by rfl) T.z_int (by decide +kernel) (pa_cons (pe_op op_mul (pe_op op_add (pe_ix ix_list (pv 0) pe_int (fun _ _ => rfl)) pe_int) pe_int) pa_nil)) pe_int))
        (pss_cons
        (ps_set (i := 6) sc_law_take.nd rfl (Or.inl rfl) (pe_op op_mod (pe_callTy call_int1 (by rfl) T.z_int (by decide +kernel) (pa_cons (pe_op op_mul (pe_op op_mod (pe_callTy call_int1 (by rfl) T.z_int (by decide +kernel) (pa_cons (pe_op op_mul (pv 5) (pv 5)) pa_nil)) pe_int) pe_int) pa_nil)) pe_int))
        (pss_one
        (ps_ret (pe_op op_mod (pe_callTy call_int1 (by rfl) T.z_int (by decide +kernel) (pa_cons (pe_op op_fdiv (pv 6) pe_int) pa_nil)) (pv 1)))))))), ?_⟩
    refine ⟨fun σ' H' => ∃ y2 y3, σ' = [some (.ref b), some (.int (n : Int)), y2, y3, none, none, none] ∧ But b G H' ∧ BagAt K H' b c, ?_, ?_⟩
    ·
      refine ⟨_, rfl, b, _, 0, _, rfl, rfl, .inl (.inl hb), atI_nat (j := 0) rfl, rfl, _, rfl, ite2 (fun _ => ?_) (fun _ => ?_)⟩
      ·
        refine ⟨_, rfl, b, _, 3, _, rfl, rfl, .inl (.inl hb), atI_nat (j := 3) rfl, _, rfl, b, _, 2, _, rfl, rfl, .inl (.inl hb), atI_nat (j := 2) rfl, z, rfl, c, _, rfl, hc, fun p np => ?_⟩
        have s1 := same_new (o := .lst (cutV (cs.map V.int) (some z) none)) np
        obtain ⟨ds, eds, ds0, dsl⟩ := cut_ints cs (some z) none cs0
        refine ⟨by show 1 ≤ sizeLine; decide, fun q nq => ?_⟩
        have s2 := s1.trans (same_new (o := .lst [V.int 0]) nq)
        refine ⟨p, q, _, _, rfl, rfl, same_new nq _ _ upd_same, upd_same, ?_, fun t nt => ?_⟩
        · rw [eds, List.length_map]
          show ds.length + 1 ≤ sizeLine
          exact Nat.le_trans (show ds.length + 1 ≤ 100 by omega) (by decide)
        have s3 := s2.trans (same_new (o := .lst (cutV (cs.map V.int) (some z) none ++ [V.int 0])) nt)
        obtain ⟨e0, ee0, e00⟩ : ∃ e0 : Int, (cutV (cs.map V.int) (some z) none ++ [V.int 0])[0]? = some (.int e0) ∧ 0 ≤ e0 := by
          rw [eds]
          cases ds with
          | nil => exact ⟨0, rfl, Int.le_refl _⟩
          | cons d0 dr => exact ⟨d0, rfl, ds0 d0 List.mem_cons_self⟩
        refine ⟨t, _, 0, _, rfl, rfl, .inl (.inl upd_same), atI_nat (j := 0) ee0, ?_⟩
        have hb3 := s3 _ _ hb
        refine ⟨_, rfl, b, _, 2, _, rfl, rfl, .inl (.inl hb3), rfl, _, _, rfl, rfl, b, _, 2, 2, rfl, rfl, hb3, rfl, ?_⟩
        refine ⟨fun σ' H' => ∃ x', σ' = [some (.ref b), some (.int (n : Int)), some (.int e0), none, none, none, none] ∧ But b G H' ∧ H' b = some (.lst [.int x', .int y, .int (z + 1), .ref c]) ∧ SqL K H' c (cs.map V.int) ∧ 0 ≤ x', ?_, ?_⟩
        · refine ⟨_, rfl, _, _, rfl, rfl, ⟨by decide, by decide, by decide⟩, _, _, rfl, rfl, _, rfl, ite2 (fun _ => ?_) (fun _ => ?_)⟩
          · refine ⟨_, rfl, _, rfl, b, _, 0, 0, rfl, rfl, upd_same, rfl, ?_⟩
            refine ⟨e0, rfl, ((But.same s3).trans But.at_).trans But.at_, upd_same, sqL_but nbc.symm But.at_ (sqL_but nbc.symm But.at_ (s3.seq hc)), e00⟩
          · exact ⟨x, rfl, (But.same s3).trans But.at_, upd_same, sqL_but nbc.symm But.at_ (s3.seq hc), x0⟩
        · rintro σ' H' ⟨x', rfl, s4, hb4, hc4, x0'⟩
          refine ⟨_, rfl, b, _, 1, _, rfl, rfl, .inl (.inl hb4), atI_nat (j := 1) rfl, _, _, rfl, rfl, .inr ⟨by decide, by decide⟩, _, rfl, .inl ⟨_, rfl, _, _, rfl, rfl, (by show (0 : Int) < 2147483647; decide), _, _, rfl, rfl,
            _, rfl, b, _, 2, _, rfl, rfl, .inl (.inl hb4), atI_nat (j := 2) rfl, _, _, rfl, rfl, .inl ⟨by decide, by decide⟩, _, _, rfl, rfl, ?_⟩⟩
          refine ⟨_, rfl, .inl ⟨_, rfl, _, _, rfl, rfl, (by show (0 : Int) < 2147483647; decide), _, rfl, b, _, 1, 1, rfl, rfl, hb4, rfl, ?_⟩⟩
          refine ⟨_, _, rfl, s4.trans But.at_, x', _, z + 1, cs, upd_same, sqL_but nbc.symm But.at_ hc4, nbc, x0', Int.emod_nonneg _ (by decide), Int.emod_lt_of_pos _ (by decide), by omega, cs0, cl⟩
      · exact ⟨_, _, rfl, But.refl _ _, x, y, z, cs, hb, hc, nbc, x0, y0, y1, z0, cs0, cl⟩
    · rintro σ' H' ⟨y2, y3, rfl, s1, x, y, z, cs, hb, hc, nbc, x0, y0, y1, z0, cs0, cl⟩
      refine ⟨_, rfl, b, _, 0, _, rfl, rfl, .inl (.inl hb), atI_nat (j := 0) rfl, _, _, rfl, rfl, _, rfl, ite2 (fun _ => ?_) (fun _ => ?_)⟩
      ·
        refine ⟨_, rfl, b, _, 0, _, rfl, rfl, .inl (.inl hb), atI_nat (j := 0) rfl, .inl ⟨_, rfl, _, rfl, _, _, rfl, rfl, by omega, ?_⟩⟩
        refine ⟨_, rfl, b, _, 0, _, rfl, rfl, .inl (.inl hb), atI_nat (j := 0) rfl, .inl ⟨_, rfl, _, rfl, _, _, rfl, rfl, ⟨by omega, by omega⟩, _, rfl, b, _, 0, 0, rfl, rfl, hb, rfl, ?_⟩⟩
        obtain ⟨r, er⟩ : ∃ r : Nat, x % (n : Int) = (r : Int) := ⟨(x % (n : Int)).toNat, (Int.toNat_of_nonneg (Int.emod_nonneg _ (by omega))).symm⟩
        refine ⟨_, rfl, ?_⟩
        show R (V.int (x % (n : Int))) _
        rw [er]
        refine k _ r (s1.trans But.at_) ⟨_, y, z, cs, upd_same, sqL_but nbc.symm But.at_ hc, nbc, Int.ediv_nonneg x0 (by omega), y0, y1, z0, cs0, cl⟩ ?_
        have := Int.emod_lt_of_pos x (b := (n : Int)) (by omega)
        omega
      ·
        have t1 : ∀ a : Int, (0 : Int) ≤ a % 1000000007 ∧ a % 1000000007 < 1000000007 := fun a => ⟨Int.emod_nonneg _ (by decide), Int.emod_lt_of_pos _ (by decide)⟩
        have t2 : ∀ a : Int, (0 : Int) ≤ a % 998244353 ∧ a % 998244353 < 998244353 := fun a => ⟨Int.emod_nonneg _ (by decide), Int.emod_lt_of_pos _ (by decide)⟩
        refine ⟨_, rfl, b, _, 1, _, rfl, rfl, .inl (.inl hb), atI_nat (j := 1) rfl, _, _, rfl, rfl, _, _, rfl, rfl, .inr ⟨by decide, by decide⟩, .inl ⟨_, rfl, _, _, rfl, rfl, (by show (0 : Int) < 1000000007; decide), ?_⟩⟩
        refine ⟨_, rfl, _, rfl, _, _, rfl, rfl, .inl ⟨by have := t1 ((y + 1) * 39373); omega, by have := t1 ((y + 1) * 39373); omega⟩, .inl ⟨_, rfl, _, _, rfl, rfl, (by show (0 : Int) < 998244353; decide), _, _, rfl, rfl, .inr ⟨by decide, by decide⟩, .inl ⟨_, rfl, _, _, rfl, rfl, (by show (0 : Int) < 998244353; decide), ?_⟩⟩⟩
        refine ⟨_, rfl, _, _, rfl, rfl, ⟨by decide, by decide⟩, .inl ⟨_, rfl, _, rfl, _, _, rfl, rfl, by omega, ?_⟩⟩
        show R (V.int (_ % (n : Int))) _
        generalize (_ : Int) / 7 = q
        obtain ⟨r, er⟩ : ∃ r : Nat, q % (n : Int) = (r : Int) := ⟨(q % (n : Int)).toNat, (Int.toNat_of_nonneg (Int.emod_nonneg _ (by omega))).symm⟩
        rw [er]
        refine k _ r s1 ⟨x, y, z, cs, hb, hc, nbc, x0, y0, y1, z0, cs0, cl⟩ ?_
        have := Int.emod_lt_of_pos q (b := (n : Int)) (by omega)
        omega
end
end Es
set_option Elab.async false
set_option linter.all false
set_option maxRecDepth 100000
set_option maxHeartbeats 4000000
namespace Es
open PySem PySem.Spec PyProof.Rows L2
section
variable {P : Program} {w : World} {K : PySem.W.Frag} {mg : Str → Option Value} {base : Heap}
theorem ok_law_some {f : Addr} {fd : FuncData} (F : Fun K "_law_some" "_law_some" s_law_some f fd) (T : Txt mg) (c_law_take : CalleeOf P w K mg base 1 "_law_take" ["bag", "many"] (sp_law_take K)) : FnG P w K mg base 2 f fd ["bag", "things"] (sp_law_some K) := by
  refine okG F sc_law_some (fun h => ?_) (fun cdv B out t0 G ys R E hr hg h => ?_)
  · obtain ⟨b, c, l, xs, rfl, _⟩ := h
    rfl
  · obtain ⟨b, c, l, xs, rfl, hB, nlb, hl, h0, h1, k⟩ := h
    refine ⟨_, (pss_one
        (ps_ret (pe_ix ix_seq (pv 1) (pe_callC c_law_take (hr.mono (by decide)) hg (by rfl) (pa_cons (pv 0) (pa_cons (pe_callB call_len_seq (by rfl) T.z_len (by decide +kernel) (pa_cons (pv 1) pa_nil)) pa_nil))) (fun _ _ => rfl)))), ?_⟩
    refine ⟨_, rfl, _, rfl, _, rfl, l, xs, rfl, hl, b, c, xs.length, rfl, hB, h0, h1, fun H1 r s1 B1 hr1 => ?_⟩
    have e : xs[r]? = some xs[r] := List.getElem?_eq_getElem hr1
    have q := k H1 r xs[r] s1 B1 e
    rcases hl with hl | hl
    · exact .inl ⟨l, xs, r, xs[r], rfl, rfl, sqL_but nlb s1 hl, atI_nat e, q⟩
    · exact .inr (.inl ⟨l, xs, r, xs[r], rfl, rfl, sqT_bag hB s1 hl, atI_nat e, q⟩)
end
end Es
set_option Elab.async false
set_option linter.all false
set_option maxRecDepth 100000
set_option maxHeartbeats 4000000
namespace Es
open PySem PySem.Spec PyProof.Rows L2
section
variable {P : Program} {w : World} {K : PySem.W.Frag} {mg : Str → Option Value} {base : Heap}
theorem ok_law_row {f : Addr} {fd : FuncData} (F : Fun K "_law_row" "_law_row" s_law_row f fd) (T : Txt mg)  : FnG P w K mg base 1 f fd ["mask"] (sp_law_row K) := by
  refine okG F sc_law_row (fun h => ?_) (fun cdv B out t0 G ys R E hr hg h => ?_)
  · obtain ⟨m, rfl, _⟩ := h
    rfl
  · obtain ⟨m, rfl, hm, k⟩ := h
    refine ⟨_, (pss_one
        (ps_ret (pe_callTy call_tuple_of (by rfl) T.z_tuple (by decide +kernel) (pa_cons (pe_lc (own := [("unknown", 1)]) rfl sc_law_row.nd (pi_range1 (by rfl) T.z_range (pa_cons (pe_bits (pv 0)) pa_nil)) (blkOk_by (own := [("unknown", 1)]) (N := ["mask", "unknown"]) (sc := defScope s_law_row) (by decide +kernel)) (fun _ _ _ _ _ => (pg_name (i := 1) sc_law_row.nd rfl (.inl rfl))) (fun _ _ _ _ _ => (pts_one (pt_cmpR op_eq (pe_op op_and (pe_op op_shr (pv 0) (pv 1)) pe_int) pe_int (nomark _)))) (fun _ _ _ _ _ => (pv 1))) pa_nil)))), ?_⟩
    have hb : Builtin.Int.intBits (m : Int) ≤ 63 := intBits_le (by omega)
    refine ⟨_, rfl, _, rfl, _, rfl, by omega, by omega, fun D hD => ?_⟩
    refine lc_range (lo := 0) (n := Builtin.Int.intBits (m : Int)) (fun i H => ∃ acc : List Nat, H D = some (.lst (iv acc)) ∧ Same G H ∧ acc.length ≤ i ∧ acc = (List.range i).filter fun j => m.testBit j)
      ⟨[], upd_same, same_new hD, Nat.le_refl _, rfl⟩ ?_ ?_
    · rintro i H hi ⟨acc, ea, sa, la, eacc⟩
      have e0 : (0 : Int) + (i : Int) = (i : Int) := Int.zero_add _
      rw [e0]
      refine ⟨rfl, _, rfl, _, rfl, _, _, rfl, rfl, Int.natCast_nonneg _, _, _, rfl, rfl, rfl, _, rfl, ?_⟩
      have nx : (List.range (i + 1)).filter (fun j => m.testBit j) = acc ++ (if m.testBit i = true then [i] else []) := by
        rw [List.range_succ, List.filter_append, ← eacc]
        congr 1
        cases q : m.testBit i <;> simp [q]
      have sa1 := shr_and m i
      refine ite2 (fun hc => ?_) (fun hc => ?_)
      · have q : m.testBit i = true := by
          cases q : m.testBit i with
          | true => rfl
          | false =>
            rw [q, if_neg Bool.false_ne_true] at sa1
            have z := V.int.inj (of_decide_eq_true hc)
            rw [sa1] at z
            cases z
        refine ⟨_, rfl, iv acc, ea, ?_, acc ++ [i], ?_, same_mut sa hD, by simp; omega, ?_⟩
        · rw [iv_len]
          exact small1000 (by omega)
        · rw [upd_same]
          simp [iv]
        · rw [nx, q, if_pos rfl]
      · have q : m.testBit i = false := by
          cases q : m.testBit i with
          | false => rfl
          | true =>
            rw [q, if_pos rfl] at sa1
            exact absurd (decide_eq_true (congrArg V.int sa1)) hc
        exact ⟨acc, ea, sa, by omega, by rw [nx, q, if_neg Bool.false_ne_true, List.append_nil]⟩
    · rintro H ⟨acc, ea, sa, la, eacc⟩
      have e : acc = bts m := by
        refine bts_of (eacc ▸ List.Pairwise.filter _ List.pairwise_lt_range) fun u => ?_
        rw [eacc, List.mem_filter, List.mem_range]
        constructor
        · rintro ⟨h1, h2⟩
          exact ⟨by omega, h2⟩
        · rintro ⟨h1, h2⟩
          refine ⟨?_, h2⟩
          refine Nat.lt_of_not_le fun z => ?_
          have : m < 2 ^ u := by
            refine Nat.lt_of_lt_of_le ?_ (Nat.pow_le_pow_right (by decide) z)
            exact lt_bits m
          rw [Nat.testBit_lt_two_pow this] at h2
          cases h2
      refine ⟨D, _, rfl, .inl ⟨.inl (.inl ea), fun p np => ?_⟩⟩
      rw [e]
      exact k _ p (sa.trans (same_new np)) (sa.free np) upd_same
end
end Es
set_option Elab.async false
set_option linter.all false
set_option maxRecDepth 100000
set_option maxHeartbeats 4000000
namespace Es
open PySem PySem.Spec PyProof.Rows L2
section
variable {P : Program} {w : World} {K : PySem.W.Frag} {mg : Str → Option Value} {base : Heap}
theorem ok_law_any_row {f : Addr} {fd : FuncData} (F : Fun K "_law_any_row" "_law_any_row" s_law_any_row f fd) (T : Txt mg) (c_law_some : CalleeOf P w K mg base 2 "_law_some" ["bag", "things"] (sp_law_some K)) (c_law_take : CalleeOf P w K mg base 1 "_law_take" ["bag", "many"] (sp_law_take K)) (c_law_row : CalleeOf P w K mg base 1 "_law_row" ["mask"] (sp_law_row K)) : FnG P w K mg base 3 f fd ["bag", "many"] (sp_law_any_row K) := by
  refine okG F sc_law_any_row (fun h => ?_) (fun cdv B out t0 G ys R E hr hg h => ?_)
  · obtain ⟨b, c, n, rfl, _⟩ := h
    rfl
  · obtain ⟨b, c, n, rfl, hB, n0, n62, k⟩ := h
    refine ⟨_, (pss_cons
        (ps_set (i := 2) sc_law_any_row.nd rfl (Or.inl rfl) pe_int)
        (pss_cons
        (ps_for PassesOwn.never rfl (pi_range1 (by rfl) T.z_range (pa_cons (pe_callC c_law_some (hr.mono (by decide)) hg (by rfl) (pa_cons (pv 0) (pa_cons (pe_lst (pa_cons pe_int (pa_cons pe_int (pa_cons pe_int (pa_cons pe_int (pa_cons (pv 1) pa_nil)))))) pa_nil))) pa_nil)) (pg_name (i := 3) sc_law_any_row.nd rfl (.inl rfl))
        (pss_one
          (ps_set (i := 2) sc_law_any_row.nd rfl (Or.inl rfl) (pe_op op_xor (pv 2) (pe_op op_shl pe_int (pe_callC c_law_take (hr.mono (by decide)) hg (by rfl) (pa_cons (pv 0) (pa_cons (pv 1) pa_nil))))))))
        (pss_one
        (ps_ret (pe_ifExp (pt_cmpR op_gt (pv 2) pe_int (nomark _)) (pe_callC c_law_row (hr.mono (by decide)) hg (by rfl) (pa_cons (pv 2) pa_nil)) (pe_tup (pa_cons (pe_callC c_law_take (hr.mono (by decide)) hg (by rfl) (pa_cons (pv 0) (pa_cons (pv 1) pa_nil))) pa_nil))))))), ?_⟩
    have p63 : 2 ^ n < 2 ^ 63 := Nat.pow_lt_pow_right (by decide) (by omega)
    obtain ⟨ys0, eb0⟩ := hB.lst
    refine ⟨_, rfl, _, rfl, (by show 5 ≤ sizeLine; decide), fun l nl => ?_⟩
    have sl := same_new (o := .lst [V.int 1, V.int 2, V.int 2, V.int 3, V.int (n : Int)]) nl
    refine ⟨b, c, l, _, rfl, hB.same sl, (ne_of_none eb0 nl).symm, .inl (.inl (.inl upd_same)), by show 0 < 5; decide, by show 5 < 1073741824; decide, fun H1 r v s1 B1 hv => ?_⟩
    obtain ⟨j, rfl, j0, j1⟩ : ∃ j : Int, v = .int j ∧ 0 ≤ j ∧ j ≤ 62 := by
      rcases r with _ | _ | _ | _ | _ | r
      · exact ⟨1, (Option.some.inj hv).symm, by decide, by decide⟩
      · exact ⟨2, (Option.some.inj hv).symm, by decide, by decide⟩
      · exact ⟨2, (Option.some.inj hv).symm, by decide, by decide⟩
      · exact ⟨3, (Option.some.inj hv).symm, by decide, by decide⟩
      · exact ⟨n, (Option.some.inj hv).symm, by omega, by omega⟩
      · simp at hv
    have sG := (But.same (b := b) sl).trans s1
    refine ⟨j, rfl, by omega, by omega, for_range (lo := 0) (n := j.toNat) (fun i σ H => ∃ m y3, σ = [some (.ref b), some (.int (n : Int)), some (.int ((m : Nat) : Int)), y3] ∧ But b G H ∧ BagAt K H b c ∧ m < 2 ^ n)
      ⟨0, none, rfl, sG, B1, Nat.two_pow_pos n⟩ ?_ ?_⟩
    · rintro i σ H hi ⟨m, y3, rfl, s2, B2, hm⟩
      refine ⟨_, rfl, _, rfl, _, rfl, b, c, n, rfl, B2, n0, by omega, fun H2 r2 s3 B3 h3 => ?_⟩
      refine ⟨_, _, rfl, rfl, ⟨by omega, by omega, by decide⟩, _, _, rfl, rfl, ?_⟩
      refine ⟨m ^^^ 2 ^ r2, some (V.int (0 + (i : Int))), ?_, s2.trans s3, B3, Nat.xor_lt_two_pow hm (Nat.pow_lt_pow_right (by decide) h3)⟩
      show [some (V.ref b), some (V.int (n : Int)), some (V.int (Builtin.bitXor (m : Int) (1 * 2 ^ ((r2 : Int).toNat)))), _] = _
      rw [shl_one, xor_nat]
    · rintro σ H ⟨m, y3, rfl, s2, B2, hm⟩
      refine ⟨_, rfl, _, _, rfl, rfl, _, rfl, ite2 (fun hc => ?_) (fun hc => ?_)⟩
      · have hc := of_decide_eq_true hc
        refine ⟨_, rfl, m, rfl, Nat.lt_trans hm p63, fun H2 p s3 np ep => ?_⟩
        exact k _ _ m (s2.trans (But.same s3)) (B2.same s3) ⟨p, rfl, .inl (.inl ep)⟩ hm (by omega)
      · refine ⟨_, rfl, _, rfl, b, c, n, rfl, B2, n0, by omega, fun H2 r2 s3 B3 h3 => ?_⟩
        refine ⟨(by show 1 ≤ sizeLine; decide), fun t nt => ?_⟩
        have st := same_new (o := .tup [V.int (r2 : Int)]) nt
        refine k _ _ (2 ^ r2) ((s2.trans s3).trans (But.same st)) (B3.same st) ⟨t, rfl, .inl (.inl ?_)⟩ (Nat.pow_lt_pow_right (by decide) h3) (Nat.ne_of_gt (Nat.two_pow_pos _))
        rw [bts_pow (by omega)]
        exact upd_same
end
end Es
set_option Elab.async false
set_option linter.all false
set_option maxRecDepth 100000
set_option maxHeartbeats 4000000
namespace Es
open PySem PySem.Spec PyProof.Rows L2
section
variable {P : Program} {w : World} {K : PySem.W.Frag} {mg : Str → Option Value} {base : Heap}
theorem ok_law_all_of {f : Addr} {fd : FuncData} (F : Fun K "_law_all_of" "_law_all_of" s_law_all_of f fd) (T : Txt mg)  : FnG P w K mg base 1 f fd ["sums"] (sp_law_all_of K) := by
  refine okG F sc_law_all_of (fun h => ?_) (fun cdv B out t0 G ys R E hr hg h => ?_)
  · obtain ⟨a, us, ms, rfl, _⟩ := h
    rfl
  · obtain ⟨a, us, ms, rfl, hS, hP, hm, _, k⟩ := h
    have hu := hu_of hr
    refine ⟨_, (pss_cons
        (ps_set (i := 1) sc_law_all_of.nd rfl (Or.inr rfl) pe_dnewK)
        (pss_cons
        (ps_for PassesOwn.never rfl (pi_list (pv 0)) (pg_name (i := 2) sc_law_all_of.nd rfl (.inl rfl))
        (pss_one
          (ps_for PassesOwn.never rfl (pi_tup (pv 2)) (pg_name (i := 3) sc_law_all_of.nd rfl (.inl rfl))
          (pss_one
            (ps_dput hu (pv 1) (pv 3) (pe_op op_add (pe_dget2 hu (pv 1) (pv 3) pe_int ⟨rfl, rfl, rfl, rfl⟩) pe_int) rfl)))))
        (pss_one
        (ps_ret (pe_callTy call_tuple_of (by rfl) T.z_tuple (by decide +kernel) (pa_cons (pe_callB cr_sorted (by rfl) T.z_sorted (by decide +kernel) (pa_cons (pe_lock (pe_lc (own := [("unknown", 3)]) rfl sc_law_all_of.nd (pi_keys (pv 1)) (blkOk_by (own := [("unknown", 3)]) (N := ["sums", "found", "row", "unknown"]) (sc := defScope s_law_all_of) (by decide +kernel)) (fun _ _ _ _ _ => (pg_name (i := 3) sc_law_all_of.nd rfl (.inl rfl))) (fun _ _ _ _ _ => (pts_one (pt_cmpR op_eq (pe_op op_mod (pe_callTy call_int1 (by rfl) T.z_int (by decide +kernel) (pa_cons (pe_dget hu (pv 1) (pv 3) (fun _ _ => rfl)) pa_nil)) pe_int) pe_int (nomark _)))) (fun _ _ _ _ _ => (pv 3)))) pa_nil)) pa_nil)))))), ?_⟩
    have lenP : us.length = ms.length := Paired.len hP
    intro d nd0
    refine ⟨_, rfl, a, rfl, ⟨us, (same_new nd0).seq hS⟩, for_list (K := K) (a := a) (xs := us)
      (fun i σ H2 => ∃ kvs bs y2 y3, σ = [some (.ref a), some (.ref d), y2, y3] ∧ Same G H2 ∧ H2 d = some (.dK kvs) ∧ DictR NumV kvs bs ∧ Cnt bs (xall (ms.take i)))
      ⟨[], [], none, none, rfl, same_new nd0, upd_same, .nil, cnt_nil⟩ (fun i σ H2 _ ⟨_, _, _, _, _, s2, _⟩ => s2.seq hS) ?_ ?_⟩
    · rintro i x σ H2 hi ⟨kvs, bs, y2, y3, rfl, s2, ed, DR, C⟩
      obtain ⟨m, hmi, ⟨p, rfl, hp⟩⟩ := Paired.get hP hi
      have hmm : m < 2 ^ 63 := hm m (List.mem_of_getElem? hmi)
      refine ⟨_, rfl, p, rfl, ⟨_, sqT_same s2 hp⟩, for_tup (K := K) (a := p) (xs := iv (bts m))
        (fun j σ H3 => ∃ kvs bs y3, σ = [some (.ref a), some (.ref d), some (.ref p), y3] ∧ Same G H3 ∧ H3 d = some (.dK kvs) ∧ DictR NumV kvs bs ∧ Cnt bs (xall (ms.take i) ^^^ msk ((bts m).take j)))
        ⟨kvs, bs, y3, rfl, s2, ed, DR, by simpa [msk, xall] using C⟩ (fun j σ H3 _ ⟨_, _, _, _, s3, _⟩ => sqT_same s3 hp) ?_ ?_⟩
      · rintro j y σ H3 hj ⟨kvs3, bs3, y3', rfl, s3, ed3, DR3, C3⟩
        obtain ⟨u, hu1, rfl⟩ := iv_get hj
        have hum := mem_bts.mp (List.mem_of_getElem? hu1)
        have next : xall (ms.take i) ^^^ msk ((bts m).take (j + 1)) = (xall (ms.take i) ^^^ msk ((bts m).take j)) ^^^ 2 ^ u := by
          rw [msk_take hu1, Nat.xor_assoc]
        obtain ⟨v1, v2⟩ := DR3.val (h := u)
        have l3 : kvs3.length ≤ 63 := by
          have z := Paired.len DR3
          have z2 := cnt_len C3
          omega
        refine ⟨_, rfl, d, rfl, .inl ⟨_, .inl ed3⟩, _, rfl, _, DGet.k (k := Sum.inl (u : Int)) ed3, ?_⟩
        cases q : lookB bs3 u with
        | none =>
          rw [v1 q]
          refine ⟨_, _, rfl, rfl, _, rfl, _, rfl, d, _, rfl, DPut.k (k := Sum.inl (u : Int)) ed3 (small1000 (by omega)), ?_⟩
          have DR4 := DR3.put (h := u) (v := .int (0 + 1)) (b := 1) q rfl
          refine ⟨_, _, some (V.int (u : Int)), rfl, same_mut s3 nd0, upd_same, DR4, ?_⟩
          rw [next]
          refine cnt_inc C3 hum.1 (.inr ⟨by simp, lookB_none.mp q⟩) fun v => ?_
          rw [lookB_snoc q, q]
          rfl
        | some n =>
          obtain ⟨v, ev, hv⟩ := v2 n q
          have hv : v = .int (n : Int) := hv
          subst hv
          rw [ev]
          refine ⟨_, _, rfl, rfl, _, rfl, _, rfl, d, _, rfl, DPut.k (k := Sum.inl (u : Int)) ed3 (small1000 (by omega)), ?_⟩
          have hin : u ∈ bs3.map (·.1) := List.mem_map.mpr ⟨(u, n), lookB_mem q, rfl⟩
          have DR4 := DictR.set (S := NumV) (h := u) (v := .int ((n : Int) + 1)) (b := n + 1) (by show V.int ((n : Int) + 1) = V.int ((n + 1 : Nat) : Int); rfl) DR3 hin
          refine ⟨_, _, some (V.int (u : Int)), rfl, same_mut s3 nd0, upd_same, DR4, ?_⟩
          rw [next]
          refine cnt_inc C3 hum.1 (.inl ?_) fun v => ?_
          · rw [List.map_map]
            refine List.map_congr_left fun e _ => ?_
            show (if e.1 = u then ((u, n + 1) : Nat × Nat) else e).1 = e.1
            split
            · next z => exact z.symm
            · rfl
          · rw [lookB_set hin, q]
            rfl
      · rintro σ H3 ⟨kvs3, bs3, y3', rfl, s3, ed3, DR3, C3⟩
        refine ⟨kvs3, bs3, _, _, rfl, s3, ed3, DR3, ?_⟩
        rw [xall_take hmi]
        rw [iv_len, List.take_length, msk_bts hmm] at C3
        exact C3
    · rintro σ H2 ⟨kvs, bs, y2, y3, rfl, s2, ed, DR, C⟩
      rw [lenP, List.take_length] at C
      refine ⟨d, .dK kvs, ed, trivial, fun od => ?_⟩
      refine ⟨_, rfl, d, od, rfl, .inl ⟨kvs, upd_same, fun D hD => ?_⟩⟩
      have nDd : D ≠ d := (ne_of_none upd_same hD).symm
      have nD2 : H2 D = none := by rw [upd_ne nDd] at hD; exact hD
      have lb := cnt_len C
      refine lc_keys (d := d) (od := od) (kvs := kvs) (D := D) (H := upd H2 d (.frz od (.dK kvs))) (fun i H => ∃ acc : List Nat, H D = some (.lst (iv acc)) ∧ H d = some (.frz od (.dK kvs)) ∧ (∀ x o, x ≠ d → H2 x = some o → H x = some o) ∧ acc.length ≤ i ∧
          acc = (((bs.take i).filter fun e => decide (e.2 % 2 = 1)).map (·.1)))
        ⟨[], upd_same, by rw [upd_ne nDd.symm, upd_same], fun x o nx e => by rw [upd_ne (ne_of_none e nD2), upd_ne nx]; exact e, Nat.le_refl _, by simp⟩ (fun i H ⟨_, _, e, _⟩ => e) ?_ ?_
      · rintro i ky v H hi ⟨acc, ea, ef, st, la, eacc⟩
        obtain ⟨⟨u, n⟩, hb, ek, hv⟩ := Paired.get DR hi
        have ek : ky = Sum.inl (u : Int) := ek
        have hv : v = .int (n : Int) := hv
        subst ek; subst hv
        have hil := (List.getElem?_eq_some_iff.mp hb).1
        have tk : (((bs.take (i + 1)).filter fun e => decide (e.2 % 2 = 1)).map (·.1)) = acc ++ (if n % 2 = 1 then [u] else []) := by
          rw [List.take_succ_eq_append_getElem hil, (List.getElem?_eq_some_iff.mp hb).2, List.filter_append, List.map_append, ← eacc]
          congr 1
          by_cases z : n % 2 = 1
          · rw [if_pos z]; simp [z]
          · rw [if_neg z]; simp [z]
        have lk : lookB bs u = some n := by
          cases q : lookB bs u with
          | none => exact absurd (List.mem_map.mpr ⟨_, List.mem_of_getElem? hb, rfl⟩) (lookB_none.mp q)
          | some n2 =>
            have h1 := lookB_mem q
            have h2 := List.mem_of_getElem? hb
            obtain ⟨i1, l1, e1⟩ := List.mem_iff_getElem.mp h1
            obtain ⟨i2, l2, e2⟩ := List.mem_iff_getElem.mp h2
            have : i1 = i2 := (List.getElem_inj C.nd (h₀ := by rw [List.length_map]; exact l1) (h₁ := by rw [List.length_map]; exact l2)).mp (by rw [List.getElem_map, List.getElem_map, e1, e2])
            subst this
            rw [e1] at e2
            exact congrArg some (Prod.mk.inj e2).2
        obtain ⟨v, ev, hv⟩ := (DR.val (h := u)).2 n lk
        have hv : v = .int (n : Int) := hv
        subst hv
        refine ⟨rfl, _, rfl, _, rfl, d, .int (n : Int), rfl, .inl ⟨kvs, Sum.inl (u : Int), .inr ⟨od, ef⟩, rfl, ev.symm⟩, .inl ⟨_, rfl, _, _, rfl, rfl, (by show (0 : Int) < 2; decide), rfl, _, rfl, ?_⟩⟩
        refine ite2 (fun hc => ?_) (fun hc => ?_)
        · have q : n % 2 = 1 := by
            have z := V.int.inj (of_decide_eq_true hc)
            omega
          refine ⟨_, rfl, iv acc, ea, ?_, acc ++ [u], ?_, ?_, fun x o nx e => ?_, by simp; omega, ?_⟩
          · rw [iv_len]
            have := Paired.len DR
            exact small1000 (by omega)
          · rw [upd_same]
            simp [iv, kV]
          · rw [upd_ne nDd.symm]
            exact ef
          · rw [upd_ne (ne_of_none e nD2)]
            exact st x o nx e
          · rw [tk, if_pos q]
        · have q : ¬ n % 2 = 1 := fun z => hc (decide_eq_true (congrArg V.int (by omega)))
          exact ⟨acc, ea, ef, st, by omega, by rw [tk, if_neg q, List.append_nil]⟩
      · rintro H ⟨acc, ea, ef, st, la, eacc⟩
        refine ⟨ef, ?_⟩
        have lDR := Paired.len DR
        rw [lDR, List.take_length] at eacc
        have acc_mem : ∀ u, u ∈ acc ↔ u < 63 ∧ (xall ms).testBit u = true := fun u => by
          rw [eacc, List.mem_map]
          constructor
          · rintro ⟨e, he, rfl⟩
            obtain ⟨h1, h2⟩ := List.mem_filter.mp he
            have h63 := C.lt e h1
            refine ⟨h63, ?_⟩
            rw [C.bit _ h63]
            have : lookB bs e.1 = some e.2 := by
              cases q : lookB bs e.1 with
              | none => exact absurd (List.mem_map.mpr ⟨_, h1, rfl⟩) (lookB_none.mp q)
              | some n2 =>
                have h3 := lookB_mem q
                obtain ⟨i1, l1, e1⟩ := List.mem_iff_getElem.mp h3
                obtain ⟨i2, l2, e2⟩ := List.mem_iff_getElem.mp h1
                have : i1 = i2 := (List.getElem_inj C.nd (h₀ := by rw [List.length_map]; exact l1) (h₁ := by rw [List.length_map]; exact l2)).mp (by rw [List.getElem_map, List.getElem_map, e1, e2])
                subst this
                rw [e1] at e2
                rw [← e2]
            rw [this]
            exact h2
          · rintro ⟨h1, h2⟩
            rw [C.bit u h1] at h2
            have h2 := of_decide_eq_true h2
            cases q : lookB bs u with
            | none => rw [q] at h2; simp at h2
            | some n =>
              rw [q] at h2
              exact ⟨(u, n), List.mem_filter.mpr ⟨lookB_mem q, decide_eq_true h2⟩, rfl⟩
        have acc_nd : acc.Nodup := by
          rw [eacc]
          exact C.nd.sublist (List.Sublist.map _ (List.filter_sublist))
        obtain ⟨ks, k1, k2, k3⟩ := dictM_keys (kvs := acc.map fun (u : Nat) => ((Sum.inl (u : Int) : Key), V.bl true)) (m := xall ms) ⟨acc, rfl, acc_nd, acc_mem⟩
        have ek : ks = acc.map Int.ofNat := by
          have e1 : ks.map (Sum.inl : Int → Key) = (acc.map Int.ofNat).map Sum.inl := by
            rw [← k1, List.map_map, List.map_map]
            rfl
          exact (List.map_inj_right (fun a b h => Sum.inl.inj h)).mp e1
        have ea2 : (upd H d (.dK kvs)) D = some (.lst ((acc.map Int.ofNat).map V.int)) := by
          rw [upd_ne nDd, ea, iv_ints]
        have s3 : Same H2 (upd H d (.dK kvs)) := fun x o e => by
          by_cases z : x = d
          · subst z
            rw [upd_same, ← ed, e]
          · rw [upd_ne z]
            exact st x o z e
        refine ⟨D, acc.map Int.ofNat, rfl, .inl (.inl ea2), by rw [← ek]; exact k2, fun ys q hp hs nq => ?_⟩
        rw [← ek] at hp
        rw [k3 ys hp hs]
        have s4 := s3.trans (same_new (o := .lst (iv (bts (xall ms)))) nq)
        refine ⟨q, _, rfl, .inl ⟨.inl (.inl upd_same), fun t nt => ?_⟩⟩
        have s5 := s4.trans (same_new (o := .tup (iv (bts (xall ms)))) nt)
        exact k _ _ (s2.trans s5) ⟨t, rfl, .inl (.inl upd_same)⟩
end
end Es
set_option Elab.async false
set_option linter.all false
set_option maxRecDepth 100000
set_option maxHeartbeats 4000000
namespace Es
open PySem PySem.Spec PyProof.Rows L2
section
variable {P : Program} {w : World} {K : PySem.W.Frag} {mg : Str → Option Value} {base : Heap}
theorem ok_law_mask {f : Addr} {fd : FuncData} (F : Fun K "_law_mask" "_law_mask" s_law_mask f fd) (T : Txt mg)  : FnG P w K mg base 1 f fd ["row"] (sp_law_mask K) := by
  refine okG F sc_law_mask (fun h => ?_) (fun cdv B out t0 G ys R E hr hg h => ?_)
  · obtain ⟨v, m, rfl, _⟩ := h
    rfl
  · obtain ⟨v, m, rfl, ⟨p, rfl, hp⟩, hm, k⟩ := h
    refine ⟨_, (pss_cons
        (ps_set (i := 1) sc_law_mask.nd rfl (Or.inl rfl) pe_int)
        (pss_cons
        (ps_for PassesOwn.never rfl (pi_tup (pv 0)) (pg_name (i := 2) sc_law_mask.nd rfl (.inl rfl))
        (pss_one
          (ps_set (i := 1) sc_law_mask.nd rfl (Or.inl rfl) (pe_op op_or (pv 1) (pe_op op_shl pe_int (pv 2))))))
        (pss_one
        (ps_ret (pv 1))))), ?_⟩
    refine ⟨_, rfl, p, rfl, ⟨_, hp⟩, for_tup (K := K) (a := p) (xs := iv (bts m)) (fun i σ H => ∃ y2, σ = [some (.ref p), some (.int ((msk ((bts m).take i) : Nat) : Int)), y2] ∧ H = G)
      ⟨none, rfl, rfl⟩ (fun i σ H _ ⟨_, _, e⟩ => e ▸ hp) ?_ ?_⟩
    · rintro i x σ H hi ⟨y2, rfl, rfl⟩
      obtain ⟨u, hu1, rfl⟩ := iv_get hi
      have hum := mem_bts.mp (List.mem_of_getElem? hu1)
      refine ⟨_, rfl, _, rfl, _, _, rfl, rfl, ⟨by omega, by omega, by decide⟩, _, _, rfl, rfl, ?_⟩
      refine ⟨some (.int (u : Int)), ?_, rfl⟩
      show [some (V.ref p), some (V.int (Builtin.bitOr _ (1 * 2 ^ ((u : Int).toNat)))), some (V.int (u : Int))] = _
      rw [shl_one, or_nat, msk_take hu1]
      have dis : (msk ((bts m).take i)) ||| 2 ^ u = (msk ((bts m).take i)) ^^^ 2 ^ u := by
        refine Nat.eq_of_testBit_eq fun j => ?_
        rw [Nat.testBit_or, Nat.testBit_xor]
        by_cases e : j = u
        · subst e
          have nm : j ∉ (bts m).take i := by
            intro z
            obtain ⟨i2, h2, e2⟩ := List.mem_iff_getElem.mp z
            rw [List.getElem_take] at e2
            have h3 : i2 < i := by
              rw [List.length_take] at h2
              omega
            obtain ⟨h4, e4⟩ := List.getElem?_eq_some_iff.mp hu1
            have h5 : i2 < (bts m).length := by omega
            have := (List.getElem_inj (bts_nodup m)).mp (show (bts m)[i2]'h5 = (bts m)[i]'h4 from e2.trans e4.symm)
            omega
          rw [msk_bit ((bts_nodup m).sublist (List.take_sublist _ _)), decide_eq_false nm, Nat.testBit_two_pow_self]
          rfl
        · rw [Nat.testBit_two_pow_of_ne (Ne.symm e), Bool.or_false]
          cases (msk ((bts m).take i)).testBit j <;> rfl
      rw [dis]
    · rintro σ H ⟨y2, rfl, rfl⟩
      rw [iv_len, List.take_length, msk_bts hm]
      exact ⟨_, rfl, k⟩
end
end Es
set_option Elab.async false
set_option linter.all false
set_option maxRecDepth 100000
set_option maxHeartbeats 4000000
namespace Es
open PySem PySem.Spec PyProof.Rows L2
section
variable {P : Program} {w : World} {K : PySem.W.Frag} {mg : Str → Option Value} {base : Heap}
theorem ok_law_flat_of {f : Addr} {fd : FuncData} (F : Fun K "_law_flat_of" "_law_flat_of" s_law_flat_of f fd) (T : Txt mg) (c_law_mask : CalleeOf P w K mg base 1 "_law_mask" ["row"] (sp_law_mask K)) (c_law_row : CalleeOf P w K mg base 1 "_law_row" ["mask"] (sp_law_row K)) : FnG P w K mg base 2 f fd ["lines"] (sp_law_flat_of K) := by
  refine okG F sc_law_flat_of (fun h => ?_) (fun cdv B out t0 G ys R E hr hg h => ?_)
  · obtain ⟨a, us, ls, rfl, _⟩ := h
    rfl
  · obtain ⟨a, us, ls, rfl, hS, hP, hm, kN, kS⟩ := h
    have hu := hu_of hr
    refine ⟨_, (pss_cons
        (ps_set (i := 1) sc_law_flat_of.nd rfl (Or.inr rfl) pe_dnewK)
        (pss_cons
        (ps_for PassesOwn.never rfl (pi_list (pv 0)) (pg_tup (by rfl) (pgs_cons (pg_name (i := 2) sc_law_flat_of.nd rfl (.inl rfl)) (pgs_cons (pg_name (i := 3) sc_law_flat_of.nd rfl (.inl rfl)) pgs_nil)))
        (pss_cons
          (ps_set (i := 4) sc_law_flat_of.nd rfl (Or.inl rfl) (pe_callC c_law_mask (hr.mono (by decide)) hg (by rfl) (pa_cons (pv 2) pa_nil)))
          (pss_cons
          (ps_for PassesOwn.never rfl (pi_list (pe_callB (call_sortedDI rfl) (by rfl) T.z_sorted (by decide +kernel) (pa_cons (pv 1) pa_nil))) (pg_name (i := 5) sc_law_flat_of.nd rfl (.inl rfl))
          (pss_one
            (ps_if (pt_cmpR op_eq (pe_op op_and (pe_op op_shr (pv 4) (pv 5)) pe_int) pe_int (nomark _))
            (pss_one
              (ps_par (i := 4) (j := 3) rfl sc_law_flat_of.nd rfl rfl (by decide) rfl rfl (pa_cons (pe_op op_xor (pv 4) (pe_ix ix_tup (pe_dget hu (pv 1) (pv 5) (fun _ _ => rfl)) pe_int (fun _ _ => rfl))) (pa_cons (pe_op op_xor (pv 3) (pe_ix ix_tup (pe_dget hu (pv 1) (pv 5) (fun _ _ => rfl)) pe_int (fun _ _ => rfl))) pa_nil)) (by rfl)))
            pss_nil)))
          (pss_cons
          (ps_if (PW.pt (pw_and (pt_cmpR op_eq (pv 4) pe_int (nomark _)) (pw_and1 (pt_cmpR op_eq (pv 3) pe_int (nomark _)))))
          (pss_one
            (ps_ret pe_non))
          pss_nil)
          (pss_one
          (ps_if (pt_cmpR op_gt (pv 4) pe_int (nomark _))
          (pss_cons
            (ps_set (i := 6) sc_law_flat_of.nd rfl (Or.inl rfl) (pe_op op_sub (pe_bits (pe_op op_and (pv 4) (pe_un un_neg (pv 4)))) pe_int))
            (pss_cons
            (ps_for PassesOwn.never rfl (pi_list (pe_callB (call_sortedDI rfl) (by rfl) T.z_sorted (by decide +kernel) (pa_cons (pv 1) pa_nil))) (pg_name (i := 5) sc_law_flat_of.nd rfl (.inl rfl))
            (pss_one
              (ps_if (pt_cmpR op_eq (pe_op op_and (pe_op op_shr (pe_ix ix_tup (pe_dget hu (pv 1) (pv 5) (fun _ _ => rfl)) pe_int (fun _ _ => rfl)) (pv 6)) pe_int) pe_int (nomark _))
              (pss_one
                (ps_dput hu (pv 1) (pv 5) (pe_tup (pa_cons (pe_op op_xor (pe_ix ix_tup (pe_dget hu (pv 1) (pv 5) (fun _ _ => rfl)) pe_int (fun _ _ => rfl)) (pv 4)) (pa_cons (pe_op op_xor (pe_ix ix_tup (pe_dget hu (pv 1) (pv 5) (fun _ _ => rfl)) pe_int (fun _ _ => rfl)) (pv 3)) pa_nil))) rfl))
              pss_nil)))
            (pss_one
            (ps_dput hu (pv 1) (pv 6) (pe_tup (pa_cons (pv 4) (pa_cons (pv 3) pa_nil))) rfl))))
          pss_nil))))))
        (pss_one
        (ps_ret (pe_callTy call_tuple_of (by rfl) T.z_tuple (by decide +kernel) (pa_cons (pe_callB (cr_sortedData hr.units) (by rfl) T.z_sorted (by decide +kernel) (pa_cons (pe_lc (own := [("head", 5)]) rfl sc_law_flat_of.nd (pi_list (pe_callB (call_sortedDI rfl) (by rfl) T.z_sorted (by decide +kernel) (pa_cons (pv 1) pa_nil))) (blkOk_by (own := [("head", 5)]) (N := ["lines", "heads", "row", "bit", "mask", "head", "at"]) (sc := defScope s_law_flat_of) (by decide +kernel)) (fun _ _ _ _ _ => (pg_name (i := 5) sc_law_flat_of.nd rfl (.inl rfl))) (fun _ _ _ _ _ => pts_nil) (fun _ _ _ _ _ => (pe_tup (pa_cons (pe_callC c_law_row (hr.mono (by decide)) hg (by rfl) (pa_cons (pe_ix (r := rIxT K) ix_tup (pe_dget hu (pv 1) (pv 5) (fun _ _ => rfl)) pe_int (fun _ _ => rfl)) pa_nil)) (pa_cons (pe_ix (r := rIxT K) ix_tup (pe_dget hu (pv 1) (pv 5) (fun _ _ => rfl)) pe_int (fun _ _ => rfl)) pa_nil))))) pa_nil)) pa_nil)))))), ?_⟩
    intro d nd0
    have lenP : us.length = ls.length := Paired.len hP
    have hm' : ∀ i, ∀ l ∈ ls.take i, l.1 < 2 ^ 63 := fun i l hx => hm l (List.mem_of_mem_take hx)
    refine ⟨_, rfl, a, rfl, ⟨us, (same_new nd0).seq hS⟩, for_list (K := K) (a := a) (xs := us)
      (fun i σ H2 => ∃ kvs hs y2 y3 y4 y5 y6, σ = [some (.ref a), some (.ref d), y2, y3, y4, y5, y6] ∧ Same G H2 ∧ H2 d = some (.dK kvs) ∧ DictR (PairI K H2) kvs hs ∧ lflat (ls.take i) = some hs)
      ⟨[], [], none, none, none, none, none, rfl, same_new nd0, upd_same, .nil, rfl⟩ (fun i σ H2 _ ⟨_, _, _, _, _, _, _, _, s2, _⟩ => s2.seq hS) ?_ ?_⟩
    · rintro i x σ H2 hi ⟨kvs, hs, y2, y3, y4, y5, y6, rfl, s2, ed, DR, el⟩
      obtain ⟨⟨m, b⟩, hli, ⟨t, r, rfl, ht, hrm⟩⟩ := Paired.get hP hi
      have hmm : m < 2 ^ 63 := hm _ (List.mem_of_getElem? hli)
      have R := lflat_red _ (hm' i) hs el
      have h63 : ∀ e ∈ hs, e.1 < 63 := fun e he => (R.own e he).1
      have len63 : hs.length ≤ 63 := by
        have := dictM_len (kvs := (hs.map (·.1)).map fun (u : Nat) => ((Sum.inl (u : Int) : Key), V.bl true)) (m := msk (hs.map (·.1))) ⟨hs.map (·.1), rfl, R.nd, fun u => by
          rw [msk_bit R.nd, decide_eq_true_eq]
          constructor
          · intro h
            obtain ⟨e, he, z⟩ := List.mem_map.mp h
            exact ⟨z ▸ h63 e he, h⟩
          · exact fun h => h.2⟩
        simpa using this
      have next := lflat_take hli
      rw [el] at next
      have next : lflat (ls.take (i + 1)) = lstep hs (m, b) := next
      refine ⟨t, [r, .int (b : Int)], rfl, sqT_same s2 ht, rfl, r, [.int (b : Int)], rfl, _, [], rfl, rfl, ?_⟩
      refine ⟨_, rfl, r, m, rfl, hrm.same s2, hmm, ?_⟩
      obtain ⟨k1, k2⟩ := DR.sorted R.nd h63
      refine ⟨_, rfl, d, kvs, _, rfl, .inl ed, DR.keys, k1, fun ys p hp hsd np => ?_⟩
      rw [k2 ys hp hsd]
      have sp0 := same_new (o := .lst (iv (srt (hs.map (·.1))))) np
      refine ⟨p, rfl, ⟨_, .inl (.inl upd_same)⟩, for_list (K := K) (a := p) (xs := iv (srt (hs.map (·.1))))
        (fun j σ H3 => ∃ y5, σ = [some (.ref a), some (.ref d), some r, some (.int ((((srt (hs.map (·.1))).take j).foldl (lred1 hs) (m, b)).2 : Int)), some (.int ((((srt (hs.map (·.1))).take j).foldl (lred1 hs) (m, b)).1 : Int)), y5, y6] ∧
          Same (upd H2 p (.lst (iv (srt (hs.map (·.1)))))) H3)
        ⟨y5, rfl, Same.refl _⟩ (fun j σ H3 _ ⟨_, _, s3⟩ => .inl (.inl (s3 _ _ upd_same))) ?_ ?_⟩
      · rintro j y σ H3 hj ⟨y5, rfl, s3⟩
        obtain ⟨h, hh1, rfl⟩ := iv_get hj
        have hjl := (List.getElem?_eq_some_iff.mp hh1).1
        have hin := (mem_srt.mp (List.mem_of_getElem? hh1)).2
        have s23 := sp0.trans s3
        have fold1 : ((srt (hs.map (·.1))).take (j + 1)).foldl (lred1 hs) (m, b) = lred1 hs (((srt (hs.map (·.1))).take j).foldl (lred1 hs) (m, b)) h := by
          rw [List.take_succ_eq_append_getElem hjl, List.foldl_append, (List.getElem?_eq_some_iff.mp hh1).2]
          rfl
        rw [fold1]
        generalize ((srt (hs.map (·.1))).take j).foldl (lred1 hs) (m, b) = pr
        refine ⟨_, rfl, _, rfl, _, _, rfl, rfl, Int.natCast_nonneg _, _, _, rfl, rfl, rfl, _, rfl, ?_⟩
        have sa1 := shr_and pr.1 h
        refine ite2 (fun hc => ?_) (fun hc => ?_)
        · have q : pr.1.testBit h = true := by
            cases q : pr.1.testBit h with
            | true => rfl
            | false =>
              rw [q, if_neg Bool.false_ne_true] at sa1
              have z := V.int.inj (of_decide_eq_true hc)
              rw [sa1] at z
              cases z
          cases lk : look hs h with
          | none => exact absurd hin (look_none.mp lk)
          | some e =>
            have l1 : lred1 hs pr h = (pr.1 ^^^ e.1, pr.2 ^^^ e.2) := by
              unfold lred1
              rw [if_pos q, lk]
            obtain ⟨v, ev, ⟨tv, rfl, htv⟩⟩ := (DR.val (h := h)).2 e lk
            have g1 : DGet H3 d (.int (h : Int)) (some (.ref tv)) := by rw [← ev]; exact DGet.k (k := Sum.inl (h : Int)) (s23 _ _ ed)
            refine ⟨_, rfl, _, rfl, _, rfl, d, _, rfl, g1, tv, _, 0, _, rfl, rfl, sqT_same s23 htv, atI_nat (j := 0) rfl, _, _, rfl, rfl, ?_⟩
            refine ⟨_, rfl, _, rfl, _, rfl, d, _, rfl, g1, tv, _, 1, _, rfl, rfl, sqT_same s23 htv, atI_nat (j := 1) rfl, _, _, rfl, rfl, ?_⟩
            refine ⟨_, _, rfl, some (V.int (h : Int)), ?_, s3⟩
            rw [l1]
            show [some (V.ref a), some (V.ref d), some r, some (V.int (Builtin.bitXor (pr.2 : Int) (e.2 : Int))), some (V.int (Builtin.bitXor (pr.1 : Int) (e.1 : Int))), some (V.int (h : Int)), y6] = _
            rw [xor_nat, xor_nat]
        · have q : pr.1.testBit h = false := by
            cases q : pr.1.testBit h with
            | false => rfl
            | true =>
              rw [q, if_pos rfl] at sa1
              exact absurd (decide_eq_true (congrArg V.int sa1)) hc
          have l1 : lred1 hs pr h = pr := by
            unfold lred1
            rw [if_neg (by rw [q]; exact Bool.false_ne_true)]
          rw [l1]
          exact ⟨_, rfl, s3⟩
      · rintro σ H3 ⟨y5, rfl, s3⟩
        rw [iv_len, List.take_length]
        have s23 := sp0.trans s3
        obtain ⟨r1, _, r3⟩ := lred_spec R (p := (m, b)) hmm
        have er : (srt (hs.map (·.1))).foldl (lred1 hs) (m, b) = lred hs (m, b) := rfl
        rw [er]
        unfold lstep at next
        generalize lred hs (m, b) = pr at r1 r3 next er ⊢
        refine ⟨_, rfl, rfl, _, rfl, ?_⟩
        cases lw : low pr.1 with
        | none =>
          rw [lw] at next
          have z0 := (low_none r1).mp lw
          refine ite2 (fun _ => ?_) (fun hc => ?_)
          · refine ⟨_, rfl, rfl, _, rfl, ite2 (fun hc => ?_) (fun hc => ?_)⟩
            · have b1 : pr.2 = 1 := by
                have z := V.int.inj (of_decide_eq_true hc)
                omega
              have nn : lflat ls = none := by
                refine lflat_none_take (i := i + 1) ?_
                rw [next]
                simp [b1]
              exact kN nn _ (s2.trans s23)
            ·
              refine ⟨_, rfl, _, _, rfl, rfl, _, rfl, ite2 (fun hc2 => ?_) (fun _ => ?_)⟩
              · have z := of_decide_eq_true hc2
                rw [z0] at z
                exact absurd z (by decide)
              · refine ⟨kvs, hs, _, _, _, _, _, rfl, s2.trans s23, s23 _ _ ed, DR.imp fun _ _ z => z.same s23, ?_⟩
                rw [next]
                have b1 : ¬ pr.2 = 1 := fun z => hc (by rw [z]; decide)
                simp [b1]
          · exact absurd (by rw [z0]; decide) hc
        | some at_ =>
          rw [lw] at next
          have nz : pr.1 ≠ 0 := fun z => by rw [z] at lw; cases lw
          have pos : 0 < pr.1 := Nat.pos_of_ne_zero nz
          refine ite2 (fun hc => ?_) (fun _ => ?_)
          · have z := V.int.inj (of_decide_eq_true hc)
            omega
          · refine iteF ?_
            refine ⟨_, rfl, _, _, rfl, rfl, _, rfl, ite2 (fun _ => ?_) (fun hc => ?_)⟩
            ·
              refine ⟨_, rfl, _, rfl, _, rfl, _, _, rfl, rfl, _, rfl, _, _, rfl, rfl, ?_⟩
              have eat : (Builtin.Int.intBits (Builtin.bitAnd (pr.1 : Int) (-(pr.1 : Int))) : Int) - 1 = (at_ : Int) := by
                rw [and_neg lw, bits_pow]
                omega
              show tSeq _ _ _ [some (V.ref a), some (V.ref d), some r, some (V.int (pr.2 : Int)), some (V.int (pr.1 : Int)), y5, some (V.int ((Builtin.Int.intBits (Builtin.bitAnd (pr.1 : Int) (-(pr.1 : Int))) : Int) - 1))] H3
              rw [eat]
              have ed3 := s23 _ _ ed
              have DR3 := DR.imp fun _ _ z => z.same s23
              refine ⟨_, rfl, d, kvs, _, rfl, .inl ed3, DR.keys, k1, fun ys2 p2 hp2 hsd2 np2 => ?_⟩
              rw [k2 ys2 hp2 hsd2]
              have sp2 := same_new (o := .lst (iv (srt (hs.map (·.1))))) np2
              have ne2 : p2 ≠ d := (ne_of_none ed3 np2).symm
              have sG3 := (s2.trans s23).trans sp2
              refine ⟨p2, rfl, ⟨_, .inl (.inl upd_same)⟩, for_list (K := K) (a := p2) (xs := iv (srt (hs.map (·.1))))
                (fun j σ H4 => ∃ kvs4 y5, σ = [some (.ref a), some (.ref d), some r, some (.int (pr.2 : Int)), some (.int (pr.1 : Int)), y5, some (.int (at_ : Int))] ∧ Same G H4 ∧ H4 p2 = some (.lst (iv (srt (hs.map (·.1))))) ∧
                  H4 d = some (.dK kvs4) ∧ DictR (PairI K H4) kvs4 (lputTo hs ((srt (hs.map (·.1))).take j) at_ pr))
                ⟨kvs, y5, rfl, sG3, upd_same, sp2 _ _ ed3, by rw [List.take_zero, lputTo_nil]; exact DR3.imp fun _ _ z => z.same sp2⟩ (fun j σ H4 _ ⟨_, _, _, _, e4, _⟩ => .inl (.inl e4)) ?_ ?_⟩
              · rintro j y σ H4 hj ⟨kvs4, y5, rfl, s4, ep4, ed4, DR4⟩
                obtain ⟨h, hh1, rfl⟩ := iv_get hj
                obtain ⟨hjl, ejl⟩ := List.getElem?_eq_some_iff.mp hh1
                have hin := (mem_srt.mp (List.mem_of_getElem? hh1)).2
                have hno : h ∉ (srt (hs.map (·.1))).take j := by
                  intro z
                  obtain ⟨i2, h2, e2⟩ := List.mem_iff_getElem.mp z
                  rw [List.getElem_take] at e2
                  have h3 : i2 < j := by
                    rw [List.length_take] at h2
                    omega
                  have ndS : (srt (hs.map (·.1))).Nodup := (srt_lt _).imp fun h => Nat.ne_of_lt h
                  have := (List.getElem_inj ndS).mp (show (srt (hs.map (·.1)))[i2]'(by omega) = (srt (hs.map (·.1)))[j]'hjl from e2.trans ejl.symm)
                  omega
                cases lk : look hs h with
                | none => exact absurd hin (look_none.mp lk)
                | some e =>
                  obtain ⟨g1, g2, g3⟩ := lputTo_step R.nd (S := (srt (hs.map (·.1))).take j) (a := at_) (p := pr) hno lk
                  have tk : (srt (hs.map (·.1))).take (j + 1) = (srt (hs.map (·.1))).take j ++ [h] := by rw [List.take_succ_eq_append_getElem hjl, ejl]
                  rw [tk]
                  obtain ⟨v, ev, ⟨tv, rfl, htv⟩⟩ := (DR4.val (h := h)).2 e g1
                  have gd : DGet H4 d (.int (h : Int)) (some (.ref tv)) := by rw [← ev]; exact DGet.k (k := Sum.inl (h : Int)) ed4
                  refine ⟨_, rfl, _, rfl, d, _, rfl, gd, tv, _, 0, _, rfl, rfl, htv, atI_nat (j := 0) rfl, _, rfl, _, _, rfl, rfl, Int.natCast_nonneg _, _, _, rfl, rfl, rfl, _, rfl, ?_⟩
                  have sa1 := shr_and e.1 at_
                  refine ite2 (fun hc => ?_) (fun hc => ?_)
                  · have q : e.1.testBit at_ = true := by
                      cases q : e.1.testBit at_ with
                      | true => rfl
                      | false =>
                        rw [q, if_neg Bool.false_ne_true] at sa1
                        have z := V.int.inj (of_decide_eq_true hc)
                        rw [sa1] at z
                        cases z
                    refine ⟨_, rfl, _, rfl, d, _, rfl, gd, tv, _, 0, _, rfl, rfl, htv, atI_nat (j := 0) rfl, _, rfl, _, _, rfl, rfl, ?_⟩
                    refine ⟨_, rfl, _, rfl, d, _, rfl, gd, tv, _, 1, _, rfl, rfl, htv, atI_nat (j := 1) rfl, _, rfl, _, _, rfl, rfl, ?_⟩
                    refine ⟨(by show 2 ≤ sizeLine; decide), fun t2 nt2 => ?_⟩
                    have st2 := same_new (o := .tup [V.int (Builtin.bitXor (e.1 : Int) (pr.1 : Int)), V.int (Builtin.bitXor (e.2 : Int) (pr.2 : Int))]) nt2
                    have len4 : kvs4.length ≤ 63 := by
                      have z := Paired.len DR4
                      have z2 : (lputTo hs ((srt (hs.map (·.1))).take j) at_ pr).length = hs.length := by unfold lputTo; rw [List.length_map]
                      omega
                    refine ⟨_, rfl, _, rfl, d, _, rfl, DPut.k (k := Sum.inl (h : Int)) (st2 _ _ ed4) (small1000 (by omega)), ?_⟩
                    have hPI : PairI K (upd H4 t2 (.tup [V.int (Builtin.bitXor (e.1 : Int) (pr.1 : Int)), V.int (Builtin.bitXor (e.2 : Int) (pr.2 : Int))])) (.ref t2) (e.1 ^^^ pr.1, e.2 ^^^ pr.2) := by
                      refine ⟨t2, rfl, .inl (.inl ?_)⟩
                      rw [upd_same, xor_nat, xor_nat]
                    have DR5 := DictR.set hPI (DR4.imp fun _ _ z => z.same st2) (h := h) (by rw [lputTo_keys]; exact hin)
                    rw [g2 q] at DR5
                    refine ⟨_, _, rfl, same_mut (s4.trans st2) nd0, ?_, upd_same, DR5.imp fun _ _ z => z.updK (st2 _ _ ed4)⟩
                    rw [upd_ne ne2]
                    exact st2 _ _ ep4
                  · have q : e.1.testBit at_ = false := by
                      cases q : e.1.testBit at_ with
                      | false => rfl
                      | true =>
                        rw [q, if_pos rfl] at sa1
                        exact absurd (decide_eq_true (congrArg V.int sa1)) hc
                    refine ⟨kvs4, _, rfl, s4, ep4, ed4, ?_⟩
                    rw [← g3 q]
                    exact DR4
              · rintro σ H4 ⟨kvs4, y5, rfl, s4, ep4, ed4, DR4⟩
                rw [iv_len, List.take_length] at DR4
                refine ⟨_, rfl, _, rfl, (by show 2 ≤ sizeLine; decide), fun t2 nt2 => ?_⟩
                have st2 := same_new (o := .tup [V.int (pr.1 : Int), V.int (pr.2 : Int)]) nt2
                have len4 : kvs4.length ≤ 63 := by
                  have z := Paired.len DR4
                  have z2 : (lputTo hs (srt (hs.map (·.1))) at_ pr).length = hs.length := by unfold lputTo; rw [List.length_map]
                  omega
                refine ⟨_, rfl, _, rfl, d, _, rfl, DPut.k (k := Sum.inl (at_ : Int)) (st2 _ _ ed4) (small1000 (by omega)), ?_⟩
                have hPI : PairI K (upd H4 t2 (.tup [V.int (pr.1 : Int), V.int (pr.2 : Int)])) (.ref t2) pr := ⟨t2, rfl, .inl (.inl upd_same)⟩
                have fresh : lookB (lputTo hs (srt (hs.map (·.1))) at_ pr) at_ = none := by
                  refine look_none.mpr ?_
                  rw [lputTo_keys]
                  intro z
                  have b2 := (low_iff.mp lw).2.1
                  rw [r3 at_ z] at b2
                  cases b2
                have DR5 := (DR4.imp fun _ _ z => z.same st2).put fresh hPI
                refine ⟨_, lput hs at_ pr, _, _, _, _, _, rfl, same_mut (s4.trans st2) nd0, upd_same, ?_, ?_⟩
                · rw [← lputTo_all hs h63]
                  exact DR5.imp fun _ _ z => z.updK (st2 _ _ ed4)
                · rw [next]
            · exact absurd (decide_eq_true (by show (0 : Int) < (pr.1 : Int); omega)) hc
    · rintro σ H2 ⟨kvs, hs, y2, y3, y4, y5, y6, rfl, s2, ed, DR, el⟩
      rw [lenP, List.take_length] at el
      have R := lflat_red _ hm hs el
      have h63 : ∀ e ∈ hs, e.1 < 63 := fun e he => (R.own e he).1
      obtain ⟨k1, k2⟩ := DR.sorted R.nd h63
      refine ⟨_, rfl, d, kvs, _, rfl, .inl ed, DR.keys, k1, fun ys p hp hsd np => ?_⟩
      rw [k2 ys hp hsd]
      have sp0 := same_new (o := .lst (iv (srt (hs.map (·.1))))) np
      have lenS : (srt (hs.map (·.1))).length = hs.length := by
        have z := congrArg List.length (k2 ys hp hsd)
        rw [List.length_map, iv_len, hp.length_eq, List.length_map] at z
        exact z.symm
      refine ⟨p, rfl, ⟨_, .inl (.inl upd_same)⟩, fun D hD => ?_⟩
      refine lc_list (K := K) (a := p) (xs := iv (srt (hs.map (·.1))))
        (fun j H3 => ∃ bs : List (V × PyData), H3 D = some (.lst (bs.map (·.1))) ∧ Same (upd H2 p (.lst (iv (srt (hs.map (·.1)))))) H3 ∧ bs.length = j ∧ ∀ x ∈ bs, ∃ l : Nat × Nat, LineV K H3 x.1 l ∧ x.2 = lineD l)
        ⟨[], upd_same, same_new hD, rfl, fun x hx => by cases hx⟩ (fun j H3 _ ⟨_, _, s3, _⟩ => .inl (.inl (s3 _ _ upd_same))) ?_ ?_
      · rintro j y H3 hj ⟨bs, eD, s3, lb, hb⟩
        obtain ⟨h, hh1, rfl⟩ := iv_get hj
        have hjl := (List.getElem?_eq_some_iff.mp hh1).1
        have hin := (mem_srt.mp (List.mem_of_getElem? hh1)).2
        have s23 := sp0.trans s3
        cases lk : look hs h with
        | none => exact absurd hin (look_none.mp lk)
        | some e =>
          obtain ⟨v, ev, ⟨tv, rfl, htv⟩⟩ := (DR.val (h := h)).2 e lk
          have e63 : e.1 < 2 ^ 63 := (R.own _ (look_mem lk)).2.1
          have g1 : ∀ H4, Same H3 H4 → DGet H4 d (.int (h : Int)) (some (.ref tv)) := fun H4 s4 => by rw [← ev]; exact DGet.k (k := Sum.inl (h : Int)) (s4 _ _ (s23 _ _ ed))
          refine ⟨rfl, _, rfl, _, rfl, d, _, rfl, g1 H3 (Same.refl _), tv, _, 0, _, rfl, rfl, sqT_same s23 htv, atI_nat (j := 0) rfl, e.1, rfl, e63, fun H4 q s4 nq eq => ?_⟩
          refine ⟨_, rfl, _, rfl, d, _, rfl, g1 H4 s4, tv, _, 1, _, rfl, rfl, sqT_same (s23.trans s4) htv, atI_nat (j := 1) rfl, (by show 2 ≤ sizeLine; decide), fun t nt => ?_⟩
          have st := s4.trans (same_new (o := .tup [V.ref q, V.int (e.2 : Int)]) nt)
          have eD5 := st _ _ eD
          have h62 : bs.length < 63 := by
            have z := bts_len (msk (hs.map (·.1)))
            have z2 : (srt (hs.map (·.1))).length ≤ 63 := by
              have := List.length_filter_le (fun u => decide (u ∈ hs.map (·.1))) (List.range 63)
              simpa [srt] using this
            omega
          refine ⟨bs.map (·.1), eD5, (by rw [List.length_map]; exact small1000 (by omega)), bs ++ [(.ref t, lineD e)], ?_, same_mut (s3.trans st) hD, (by simp [lb]), ?_⟩
          · rw [upd_same, List.map_append]
            rfl
          · intro x hx
            rcases List.mem_append.mp hx with hx | hx
            · obtain ⟨l, hl1, hl2⟩ := hb x hx
              exact ⟨l, LineV.but eD5 But.at_ (hl1.same st), hl2⟩
            · have hx : x = (.ref t, lineD e) := by simpa using hx
              subst hx
              have ht : (upd H4 t (.tup [V.ref q, V.int (e.2 : Int)])) t = some (.tup [V.ref q, V.int (e.2 : Int)]) := upd_same
              exact ⟨e, LineV.but eD5 But.at_ ⟨t, .ref q, rfl, .inl (.inl ht), q, rfl, .inl (.inl (same_new nt _ _ eq))⟩, rfl⟩
      · rintro H3 ⟨bs, eD, s3, lb, hb⟩
        rw [iv_len, lenS] at lb
        have s23 := sp0.trans s3
        refine ⟨D, bs, rfl, .inl (.inl eD), fun x hx => ?_, ?_, ?_, fun x hx => ?_, fun q nq => ?_⟩
        · obtain ⟨l, hl1, hl2⟩ := hb x hx
          rw [hl2]
          exact dp_line hl1
        · intro d1 h1 d2 h2
          obtain ⟨x1, m1, rfl⟩ := List.mem_map.mp h1
          obtain ⟨x2, m2, rfl⟩ := List.mem_map.mp h2
          obtain ⟨l1, _, e1⟩ := hb x1 m1
          obtain ⟨l2, _, e2⟩ := hb x2 m2
          rw [e1, e2]
          exact alike_lineD l1 l2
        · refine .inl fun d1 h1 => ?_
          obtain ⟨x1, m1, rfl⟩ := List.mem_map.mp h1
          obtain ⟨l1, _, e1⟩ := hb x1 m1
          exact ⟨_, _, e1⟩
        · obtain ⟨l, _, hl2⟩ := hb x hx
          rw [hl2, depth_lineD]
          decide
        · have sq := same_new (o := .lst ((bs.mergeSort (PySem.W.dataLe false (·.2))).map (·.1))) nq
          refine ⟨q, _, rfl, .inl ⟨.inl (.inl upd_same), fun t nt => ?_⟩⟩
          have st := sq.trans (same_new (o := .tup ((bs.mergeSort (PySem.W.dataLe false (·.2))).map (·.1))) nt)
          refine kS hs el _ t _ ((s2.trans s23).trans st) ((s2.trans s23).free (sq.free nt)) upd_same ?_
          rw [List.length_map, List.length_mergeSort, lb]
end
end Es
set_option Elab.async false
set_option linter.all false
set_option maxRecDepth 100000
set_option maxHeartbeats 4000000
namespace Es
open PySem PySem.Spec PyProof.Rows L2
section
variable {P : Program} {w : World} {K : PySem.W.Frag} {mg : Str → Option Value} {base : Heap}
theorem ok_law_rank {f : Addr} {fd : FuncData} (F : Fun K "_law_rank" "_law_rank" s_law_rank f fd) (T : Txt mg) (c_law_flat_of : CalleeOf P w K mg base 2 "_law_flat_of" ["lines"] (sp_law_flat_of K)) : FnG P w K mg base 3 f fd ["rows"] (sp_law_rank K) := by
  refine okG F sc_law_rank (fun h => ?_) (fun cdv B out t0 G ys R E hr hg h => ?_)
  · obtain ⟨a, us, ms, rfl, _⟩ := h
    rfl
  · obtain ⟨a, us, ms, rfl, hS, hP, hm, hl, k⟩ := h
    refine ⟨_, (pss_one
        (ps_ret (pe_callB call_len_seq (by rfl) T.z_len (by decide +kernel) (pa_cons (pe_callC c_law_flat_of (hr.mono (by decide)) hg (by rfl) (pa_cons (pe_lc (own := [("row", 1)]) rfl sc_law_rank.nd (pi_list (pv 0)) (blkOk_by (own := [("row", 1)]) (N := ["rows", "row"]) (sc := defScope s_law_rank) (by decide +kernel)) (fun _ _ _ _ _ => (pg_name (i := 1) sc_law_rank.nd rfl (.inl rfl))) (fun _ _ _ _ _ => pts_nil) (fun _ _ _ _ _ => (pe_tup (pa_cons (pv 1) (pa_cons pe_int pa_nil))))) pa_nil)) pa_nil)))), ?_⟩
    have lenP : us.length = ms.length := Paired.len hP
    refine ⟨_, rfl, a, rfl, ⟨us, hS⟩, fun D hD => ?_⟩
    refine lc_list (K := K) (a := a) (xs := us) (fun j H => ∃ zs, H D = some (.lst zs) ∧ Same G H ∧ Paired (LineV K H) zs (zeroB (ms.take j)))
      ⟨[], upd_same, same_new hD, .nil⟩ (fun j H _ ⟨_, _, s, _⟩ => s.seq hS) ?_ ?_
    · rintro j x H hj ⟨zs, eD, s1, hz⟩
      obtain ⟨m, hmi, hxm⟩ := Paired.get hP hj
      have hjl := (List.getElem?_eq_some_iff.mp hmi).1
      have lz : zs.length = j := by
        have z := Paired.len hz
        unfold zeroB at z
        rw [List.length_map, List.length_take] at z
        omega
      refine ⟨rfl, _, rfl, (by show 2 ≤ sizeLine; decide), fun t nt => ?_⟩
      have st := same_new (o := .tup [x, V.int 0]) nt
      have eD2 := st _ _ eD
      refine ⟨zs, eD2, small1000 (by omega), zs ++ [.ref t], upd_same, same_mut (s1.trans st) hD, ?_⟩
      have tk : zeroB (ms.take (j + 1)) = zeroB (ms.take j) ++ [(m, 0)] := by
        unfold zeroB
        rw [List.take_succ_eq_append_getElem hjl, (List.getElem?_eq_some_iff.mp hmi).2, List.map_append]
        rfl
      rw [tk]
      have ht : (upd H t (.tup [x, V.int 0])) t = some (.tup [x, V.int 0]) := upd_same
      exact PySem.Paired.snoc (Paired.mono2 (fun _ _ z => LineV.but eD2 But.at_ (z.same st)) hz) (LineV.but eD2 But.at_ ⟨t, x, rfl, .inl (.inl ht), hxm.same (s1.trans st)⟩)
    · rintro H ⟨zs, eD, s1, hz⟩
      rw [lenP, List.take_length] at hz
      obtain ⟨hs, f1, _⟩ := lflat_rows ms hm
      refine ⟨D, zs, zeroB ms, rfl, .inl (.inl eD), hz, ?_, ?_, ?_⟩
      · intro l hl
        obtain ⟨m, h1, rfl⟩ := List.mem_map.mp hl
        exact hm m h1
      · intro z
        rw [f1] at z
        cases z
      · intro hs' e H2 p ys s2 np ep el
        rw [f1] at e
        have e := Option.some.inj e
        subst e
        refine ⟨p, ys, rfl, .inr (.inl (.inl ep)), ?_⟩
        have : ((ys.length : Nat) : Int) = ((lrank ms : Nat) : Int) := by
          unfold lrank
          rw [f1, el]
          rfl
        rw [this]
        exact k _ (s1.trans s2)
end
end Es
set_option Elab.async false
set_option linter.all false
set_option maxRecDepth 100000
set_option maxHeartbeats 4000000
namespace Es
open PySem PySem.Spec PyProof.Rows L2
section
variable {P : Program} {w : World} {K : PySem.W.Frag} {mg : Str → Option Value} {base : Heap}
theorem ok_law_alike {f : Addr} {fd : FuncData} (F : Fun K "_law_alike" "_law_alike" s_law_alike f fd) (T : Txt mg)  : FnG P w K mg base 1 f fd ["found", "due"] (sp_law_alike K) := by
  refine okG F sc_law_alike (fun h => ?_) (fun cdv B out t0 G ys R E hr hg h => ?_)
  · obtain ⟨x, y, d, rfl, _⟩ := h
    rfl
  · obtain ⟨x, y, d, rfl, hx, hy, ni, dp, wt, k⟩ := h
    refine ⟨_, (pss_one
        (ps_ret (pe_and (pe_cmpR (op_eqD hr.units) (pv 0) (pv 1) (nomark _)) (pe_one (pe_cmpR op_eq (pe_callB (cr_repr hg hr.units) (by rfl) T.z_repr (by decide +kernel) (pa_cons (pv 0) pa_nil)) (pe_callB (cr_repr hg hr.units) (by rfl) T.z_repr (by decide +kernel) (pa_cons (pv 1) pa_nil)) (nomark _)))))), ?_⟩
    have sh := nice_shaped ni dp
    have e : PyData.eqv d d = true := SeqAt.eqv_refl d (nice_facts d ni).1
    refine ⟨_, rfl, _, rfl, d, d, hx, hy, sh, sh, _, rfl, ?_⟩
    rw [e]
    refine iteT ?_
    refine ⟨_, rfl, x, d, rfl, hx, ni, dp, wt, _, rfl, y, d, rfl, hy, ni, dp, wt, rfl, ?_⟩
    rw [decide_eq_true rfl]
    exact k
end
end Es
set_option Elab.async false
set_option linter.all false
set_option maxRecDepth 100000
set_option maxHeartbeats 4000000
namespace Es
open PySem PySem.Spec PyProof.Rows L2
section
variable {P : Program} {w : World} {K : PySem.W.Frag} {mg : Str → Option Value} {base : Heap}
theorem ok_together {f : Addr} {fd : FuncData} (F : Fun K "together" "together" s_together f fd) (T : Txt mg)  : FnG P w K mg base 1 f fd ["sums"] (sp_together K) := by
  refine okG F sc_together (fun h => ?_) (fun cdv B out t0 G ys R E hr hg h => ?_)
  · obtain ⟨a, us, ms, rfl, _⟩ := h
    rfl
  · obtain ⟨a, us, ms, rfl, hS, hP, hm, k⟩ := h
    have hu := hu_of hr
    refine ⟨_, (pss_cons
        (ps_set (i := 1) sc_together.nd rfl (Or.inl rfl) pe_dnewK)
        (pss_cons
        (ps_for PassesOwn.never rfl (pi_list (pv 0)) (pg_name (i := 2) sc_together.nd rfl (.inl rfl))
        (pss_one
          (ps_for PassesOwn.never rfl (pi_tup (pv 2)) (pg_name (i := 3) sc_together.nd rfl (.inl rfl))
          (pss_one
            (ps_if (pt_cmp (pc_din hu (pv 3) (pv 1)))
            (pss_one
              (ps_ddel (pv 1) (pv 3)))
            (pss_one
              (ps_dput hu (pv 1) (pv 3) pe_bl rfl)))))))
        (pss_one
        (ps_ret (pe_callTy call_tuple_of (by rfl) T.z_tuple (by decide +kernel) (pa_cons (pe_callB (call_sortedDI rfl) (by rfl) T.z_sorted (by decide +kernel) (pa_cons (pv 1) pa_nil)) pa_nil)))))), ?_⟩
    intro d hd
    refine ⟨_, rfl, a, rfl, ⟨us, (same_new hd).seq hS⟩, for_list (K := K) (a := a) (xs := us)
      (fun i σ H2 => ∃ kvs y2 y3, σ = [some (.ref a), some (.ref d), y2, y3] ∧ Same G H2 ∧ H2 d = some (.dK kvs) ∧ DictM kvs (xall (ms.take i)))
      ⟨[], none, none, rfl, same_new hd, upd_same, dictM_nil⟩ (fun i σ H2 _ ⟨_, _, _, _, s2, _⟩ => s2.seq hS) ?_ ?_⟩
    · rintro i x σ H2 hi ⟨kvs, y2, y3, rfl, s2, ed, DM⟩
      obtain ⟨m, hmi, ⟨p, rfl, hp⟩⟩ := Paired.get hP hi
      have hmm : m < 2 ^ 63 := hm m (List.mem_of_getElem? hmi)
      refine ⟨_, rfl, p, rfl, ⟨_, sqT_same s2 hp⟩, for_tup (K := K) (a := p) (xs := iv (bts m))
        (fun j σ H3 => ∃ kvs y3, σ = [some (.ref a), some (.ref d), some (.ref p), y3] ∧ Same G H3 ∧ H3 d = some (.dK kvs) ∧ DictM kvs (xall (ms.take i) ^^^ msk ((bts m).take j)))
        ⟨kvs, y3, rfl, s2, ed, by simpa [msk, xall] using DM⟩ (fun j σ H3 _ ⟨_, _, _, s3, _⟩ => sqT_same s3 hp) ?_ ?_⟩
      · rintro j y σ H3 hj ⟨kvs3, y3', rfl, s3, ed3, DM3⟩
        obtain ⟨u, hu1, rfl⟩ := iv_get hj
        have hum := mem_bts.mp (List.mem_of_getElem? hu1)
        have hv := dictM_val DM3 hum.1
        have next : xall (ms.take i) ^^^ msk ((bts m).take (j + 1)) = (xall (ms.take i) ^^^ msk ((bts m).take j)) ^^^ 2 ^ u := by
          rw [msk_take hu1, Nat.xor_assoc]
        refine ⟨_, rfl, _, rfl, d, _, rfl, DGet.k (k := Sum.inl (u : Int)) ed3, _, rfl, ?_⟩
        cases hb : (xall (ms.take i) ^^^ msk ((bts m).take j)).testBit u with
        | true =>
          rw [hb] at hv
          rw [hv]
          refine iteT ?_
          refine ⟨_, rfl, _, rfl, d, kvs3, Sum.inl (u : Int), rfl, ed3, rfl, hv, ?_⟩
          refine ⟨_, _, rfl, same_mut s3 hd, upd_same, ?_⟩
          rw [next]
          exact dictM_drop DM3 hb
        | false =>
          rw [hb] at hv
          rw [hv]
          refine iteF ?_
          refine ⟨_, rfl, _, rfl, d, _, rfl, DPut.k (k := Sum.inl (u : Int)) ed3 (small1000 (by have := dictM_len DM3; omega)), ?_⟩
          refine ⟨_, _, rfl, same_mut s3 hd, upd_same, ?_⟩
          rw [next]
          exact dictM_put DM3 hum.1 hb
      · rintro σ H3 ⟨kvs3, y3', rfl, s3, ed3, DM3⟩
        refine ⟨kvs3, _, _, rfl, s3, ed3, ?_⟩
        rw [xall_take hmi]
        rw [iv_len, List.take_length, msk_bts hmm] at DM3
        exact DM3
    · rintro σ H2 ⟨kvs, y2, y3, rfl, s2, ed, DM⟩
      have e0 : us.length = ms.length := Paired.len hP
      rw [e0, List.take_length] at DM
      obtain ⟨ks, k1, k2, k3⟩ := dictM_keys DM
      refine ⟨_, rfl, d, kvs, ks, rfl, .inl ed, k1, k2, fun ys p hp hs np => ?_⟩
      refine ⟨p, _, rfl, .inl ⟨.inl (.inl upd_same), fun q nq => ?_⟩⟩
      rw [k3 ys hp hs]
      have s3 := (s2.trans (same_new (o := .lst (ys.map V.int)) np)).trans (same_new (o := .tup (iv (bts (xall ms)))) nq)
      rw [k3 ys hp hs] at s3
      exact k _ q s3 (s2.free (Same.free (same_new np) nq)) upd_same
end
end Es
set_option Elab.async false
set_option linter.all false
set_option maxRecDepth 100000
set_option maxHeartbeats 4000000
namespace Es
open PySem PySem.Spec PyProof.Rows L2
section
variable {P : Program} {w : World} {K : PySem.W.Frag} {mg : Str → Option Value} {base : Heap}
theorem ok_rest {f : Addr} {fd : FuncData} (F : Fun K "_rest" "_rest" s_rest f fd) (T : Txt mg) (c_together : CalleeOf P w K mg base 1 "together" ["sums"] (sp_together K)) : FnG P w K mg base 2 f fd ["basis", "row", "used"] (sp_rest K) := by
  refine okG F sc_rest (fun h => ?_) (fun cdv B out t0 G ys R E hr hg h => ?_)
  · obtain ⟨d, kvs, bs, vr, vu, m, u, rfl, _⟩ := h
    rfl
  · obtain ⟨d, kvs, bs, vr, vu, m0, u0, rfl, hd, hD, hB, hvr, hvu, hm0, hu0, k⟩ := h
    have hu := hu_of hr
    refine ⟨_, (pss_cons
        (ps_while PassesOwn.never (PW.pt (pw_and (pt_truth (pv 1) (by intro _; rfl)) (pw_and1 (pt_cmp (pc_din hu (pe_ix ix_tup (pv 1) pe_int (fun _ _ => rfl)) (pv 0))))))
        (pss_cons
          (ps_asg (pe_dget hu (pv 0) (pe_ix ix_tup (pv 1) pe_int (fun _ _ => rfl)) (fun _ _ => rfl)) (pg_tup (by rfl) (pgs_cons (pg_name (i := 3) sc_rest.nd rfl (.inl rfl)) (pgs_cons (pg_name (i := 4) sc_rest.nd rfl (.inl rfl)) pgs_nil))))
          (pss_cons
          (ps_set (i := 1) sc_rest.nd rfl (Or.inl rfl) (pe_callC c_together (hr.mono (by decide)) hg (by rfl) (pa_cons (pe_lst (pa_cons (pv 1) (pa_cons (pv 3) pa_nil))) pa_nil)))
          (pss_one
          (ps_set (i := 2) sc_rest.nd rfl (Or.inl rfl) (pe_callC c_together (hr.mono (by decide)) hg (by rfl) (pa_cons (pe_lst (pa_cons (pv 2) (pa_cons (pv 4) pa_nil))) pa_nil)))))))
        (pss_one
        (ps_ret (pe_tup (pa_cons (pv 1) (pa_cons (pv 2) pa_nil)))))), ?_⟩
    refine ⟨fun n σ H2 => ∃ m u vr vu y3 y4, σ = [some (.ref d), some vr, some vu, y3, y4] ∧ Same G H2 ∧ SumV K H2 vr m ∧ SumV K H2 vu u ∧ m < 2 ^ 63 ∧ u < 2 ^ 63 ∧
        (∀ h, low m = some h → 63 ≤ h + n) ∧ rest 64 bs m0 u0 = rest n bs m u,
      ⟨64, m0, u0, vr, vu, none, none, rfl, Same.refl _, hvr, hvu, hm0, hu0, fun _ _ => by omega, rfl⟩, ?_⟩
    rintro n σ H2 ⟨m, u, vr, vu, y3, y4, rfl, s2, ⟨p, rfl, hp⟩, ⟨q, rfl, hq⟩, hm, hum, hn, re⟩
    have stop : rest n bs m u = (m, u) → ∀ H3, Same H2 H3 → ∀ t, H3 t = none → R (.ref t) (upd H3 t (.tup [.ref p, .ref q])) := by
      intro e H3 s3 t ht
      have s4 := (s2.trans s3).trans (same_new (o := .tup [.ref p, .ref q]) ht)
      refine k _ t (.ref p) (.ref q) s4 ((s2.trans s3).free ht) upd_same ?_ ?_
      · rw [re, e]
        exact ⟨p, rfl, sqT_same (s3.trans (same_new ht)) hp⟩
      · rw [re, e]
        exact ⟨q, rfl, sqT_same (s3.trans (same_new ht)) hq⟩
    refine ⟨_, rfl, _, .inr (.inl ⟨_, hp, rfl⟩), ?_⟩
    rw [emp_low]
    cases e : low m with
    | none =>
      refine iteF (iteF ?_)
      refine ⟨_, rfl, _, rfl, (by show 2 ≤ sizeLine; decide), fun t ht => ?_⟩
      exact stop (by cases n <;> simp [rest, e]) H2 (Same.refl _) t ht
    | some h =>
      obtain ⟨tl, et⟩ := low_cons e
      refine iteT ?_
      have at0 : atI (iv (bts m)) 0 = some (.int (h : Int)) := by
        rw [et]
        exact atI_nat (j := 0) rfl
      refine ⟨_, rfl, p, _, 0, _, rfl, rfl, hp, at0, _, rfl, d, _, rfl, DGet.k (k := Sum.inl (h : Int)) (s2 _ _ hd), _, rfl, ?_⟩
      obtain ⟨v1, v2⟩ := hD.val (h := h)
      cases q2 : look bs h with
      | none =>
        rw [v1 q2]
        refine iteF ?_
        refine ⟨_, rfl, _, rfl, (by show 2 ≤ sizeLine; decide), fun t ht => ?_⟩
        exact stop (by cases n <;> simp [rest, e, q2]) H2 (Same.refl _) t ht
      | some pr =>
        obtain ⟨v, ev, ⟨t, r, uu, rfl, ht, hr2, hu2⟩⟩ := v2 pr q2
        rw [ev]
        refine iteT ?_
        obtain ⟨b1, b2, b3⟩ := hB _ (look_mem q2)
        have hn1 := hn h e
        have h63 := (low_iff.mp e).1
        obtain ⟨n', rfl⟩ : ∃ n', n = n' + 1 := ⟨n - 1, by omega⟩
        have step : rest (n' + 1) bs m u = rest n' bs (m ^^^ pr.1) (u ^^^ pr.2) := by simp [rest, e, q2]
        refine ⟨fun σ' H' => ∃ vr vu y3 y4, σ' = [some (.ref d), some vr, some vu, y3, y4] ∧ Same G H' ∧ SumV K H' vr (m ^^^ pr.1) ∧ SumV K H' vu (u ^^^ pr.2), fun σ' H' hN => ?_, ?_⟩
        · obtain ⟨vr', vu', y3', y4', e1, e2, e3, e4⟩ := hN
          refine ⟨n', Nat.lt_succ_self _, _, _, vr', vu', y3', y4', e1, e2, e3, e4, xor_lt hm b2, xor_lt hum b3, fun j hj => ?_, ?_⟩
          · have := low_xor_same e b1 hj
            omega
          · rw [re, step]
        ·
          refine ⟨_, rfl, _, rfl, p, _, 0, _, rfl, rfl, hp, at0, d, _, rfl, (by rw [← ev]; exact DGet.k (k := Sum.inl (h : Int)) (s2 _ _ hd)), ?_⟩
          refine ⟨t, [r, uu], rfl, sqT_same s2 ht, rfl, r, [uu], rfl, uu, [], rfl, rfl, ?_⟩
          refine ⟨_, rfl, _, rfl, (by show 2 ≤ sizeLine; decide), fun l hl => ?_⟩
          have sl := same_new (o := .lst [V.ref p, r]) hl
          refine ⟨l, [V.ref p, r], [m, pr.1], rfl, .inl (.inl upd_same), .cons ⟨p, rfl, sqT_same sl hp⟩ (.cons (hr2.same (s2.trans sl)) .nil), ?_, fun H4 p4 s4 n4 e4 => ?_⟩
          · intro x hx
            rcases List.mem_cons.mp hx with rfl | hx
            · exact hm
            · have hx : x = pr.1 := by simpa using hx
              rw [hx]; exact b2
          have x1 : xall [m, pr.1] = m ^^^ pr.1 := by simp [xall]
          rw [x1] at e4
          refine ⟨_, rfl, _, rfl, (by show 2 ≤ sizeLine; decide), fun l2 hl2 => ?_⟩
          have s5 := (sl.trans s4).trans (same_new (o := .lst [V.ref q, uu]) hl2)
          refine ⟨l2, [V.ref q, uu], [u, pr.2], rfl, .inl (.inl upd_same), .cons ⟨q, rfl, sqT_same s5 hq⟩ (.cons (hu2.same (s2.trans s5)) .nil), ?_, fun H6 p6 s6 n6 e6 => ?_⟩
          · intro x hx
            rcases List.mem_cons.mp hx with rfl | hx
            · exact hum
            · have hx : x = pr.2 := by simpa using hx
              rw [hx]; exact b3
          have x2 : xall [u, pr.2] = u ^^^ pr.2 := by simp [xall]
          rw [x2] at e6
          refine ⟨_, _, _, _, rfl, (s2.trans s5).trans s6, ⟨p4, rfl, .inl (.inl ?_)⟩, ⟨p6, rfl, .inl (.inl e6)⟩⟩
          exact s6 _ _ (same_new hl2 _ _ e4)
end
end Es
set_option Elab.async false
set_option linter.all false
set_option maxRecDepth 100000
set_option maxHeartbeats 4000000
namespace Es
open PySem PySem.Spec PyProof.Rows L2
section
variable {P : Program} {w : World} {K : PySem.W.Frag} {mg : Str → Option Value} {base : Heap}
theorem ok_eliminated {f : Addr} {fd : FuncData} (F : Fun K "_eliminated" "_eliminated" s_eliminated f fd) (T : Txt mg) (c_rest : CalleeOf P w K mg base 2 "_rest" ["basis", "row", "used"] (sp_rest K)) : FnG P w K mg base 3 f fd ["sums"] (sp_eliminated K) := by
  refine okG F sc_eliminated (fun h => ?_) (fun cdv B out t0 G ys R E hr hg h => ?_)
  · obtain ⟨a, us, ms, rfl, _⟩ := h
    rfl
  · obtain ⟨a, us, ms, rfl, ⟨hS, hP, hm, h62⟩, k⟩ := h
    have hu := hu_of hr
    refine ⟨_, (pss_cons
        (ps_set (i := 1) sc_eliminated.nd rfl (Or.inl rfl) pe_dnewK)
        (pss_cons
        (ps_set (i := 2) sc_eliminated.nd rfl (Or.inl rfl) pe_dnewK)
        (pss_cons
        (ps_for PassesOwn.never rfl (pi_enum (by rfl) T.z_enumerate (pa_cons (pv 0) pa_nil)) (pg_tup (by rfl) (pgs_cons (pg_name (i := 3) sc_eliminated.nd rfl (.inl rfl)) (pgs_cons (pg_name (i := 4) sc_eliminated.nd rfl (.inl rfl)) pgs_nil)))
        (pss_cons
          (ps_asg (pe_callC c_rest (hr.mono (by decide)) hg (by rfl) (pa_cons (pv 1) (pa_cons (pv 4) (pa_cons (pe_tup (pa_cons (pv 3) pa_nil)) pa_nil)))) (pg_tup (by rfl) (pgs_cons (pg_name (i := 5) sc_eliminated.nd rfl (.inl rfl)) (pgs_cons (pg_name (i := 6) sc_eliminated.nd rfl (.inl rfl)) pgs_nil))))
          (pss_one
          (ps_if (pt_truth (pv 5) (by intro _; rfl))
          (pss_one
            (ps_dput hu (pv 1) (pe_ix ix_tup (pv 5) pe_int (fun _ _ => rfl)) (pe_tup (pa_cons (pv 5) (pa_cons (pv 6) pa_nil))) rfl))
          (pss_one
            (ps_dput hu (pv 2) (pv 3) (pv 6) rfl))))))
        (pss_one
        (ps_ret (pe_tup (pa_cons (pv 1) (pa_cons (pv 2) pa_nil)))))))), ?_⟩
    intro d1 n1 d2 n2
    have s0 : Same G (upd (upd G d1 (.dK [])) d2 (.dK [])) := (same_new n1).trans (same_new n2)
    have nG2 : G d2 = none := (same_new n1).free n2
    have ne12 : d1 ≠ d2 := ne_of_none upd_same n2
    have lenP : us.length = ms.length := Paired.len hP
    have hm' : ∀ i, ∀ m ∈ ms.take i, m < 2 ^ 63 := fun i m hx => hm m (List.mem_of_mem_take hx)
    have eok : ∀ i, ElimOk (ms.take i) (elim (ms.take i)) := fun i => elim_ok _ (hm' i) (by rw [List.length_take]; omega)
    refine ⟨_, rfl, a, us, rfl, s0.seq hS, for_enum (K := K) (a := a) (xs := us)
      (fun i σ H2 => ∃ k1 k2 y3 y4 y5 y6, σ = [some (.ref a), some (.ref d1), some (.ref d2), y3, y4, y5, y6] ∧ Same G H2 ∧ H2 d1 = some (.dK k1) ∧ H2 d2 = some (.dK k2) ∧
        DictR (PairV K H2) k1 (elim (ms.take i)).1 ∧ DictR (SumV K H2) k2 (elim (ms.take i)).2.1 ∧ k1.length ≤ i ∧ k2.length ≤ i)
      ⟨[], [], none, none, none, none, rfl, s0, by rw [upd_ne ne12, upd_same], upd_same, .nil, .nil, Nat.le_refl _, Nat.le_refl _⟩
      (fun i σ H2 ⟨_, _, _, _, _, _, _, s2, _⟩ => s2.seq hS) ?_ ?_⟩
    · rintro i x T σ H2 hi ⟨k1, k2, y3, y4, y5, y6, rfl, s2, e1, e2, D1, D2, l1, l2⟩ nT
      obtain ⟨m, hmi, ⟨p, rfl, hp⟩⟩ := Paired.get hP hi
      have hmm : m < 2 ^ 63 := hm m (List.mem_of_getElem? hmi)
      have hil : i < ms.length := (List.getElem?_eq_some_iff.mp hmi).1
      have emi : ms[i] = m := (List.getElem?_eq_some_iff.mp hmi).2
      have sT : Same H2 (upd H2 T (.tup [.int (i : Nat), .ref p])) := same_new nT
      have O := eok i
      have On : (elim (ms.take i)).2.2 = i := by rw [O.n, List.length_take]; omega
      refine ⟨T, [.int (i : Nat), .ref p], rfl, .inl (.inl upd_same), rfl, _, [.ref p], rfl, _, [], rfl, rfl, ?_⟩
      refine ⟨_, rfl, _, rfl, _, rfl, (by show 1 ≤ sizeLine; decide), fun t ht => ?_⟩
      have st := same_new (o := .tup [V.int (i : Nat)]) ht
      have s3 := sT.trans st
      refine ⟨d1, k1, (elim (ms.take i)).1, .ref p, .ref t, m, 2 ^ i, rfl, s3 _ _ e1, D1.imp fun _ _ z => z.same s3, ?_, ⟨p, rfl, sqT_same (s2.trans s3) hp⟩, ⟨t, rfl, .inl (.inl ?_)⟩, hmm, pow_lt63 (by omega), ?_⟩
      · intro b hb
        obtain ⟨b1, b2, b3, b4⟩ := O.bas.ok b hb
        exact ⟨b1, b2, Nat.lt_of_lt_of_le b3 (Nat.pow_le_pow_right (by decide) (by rw [List.length_take]; omega))⟩
      · rw [bts_pow (by omega)]
        exact upd_same
      intro H4 q r v s4 nq eq4 hr4 hv4
      have s24 := s3.trans s4
      refine ⟨q, [r, v], rfl, .inl (.inl eq4), rfl, r, [v], rfl, v, [], rfl, rfl, ?_⟩
      have e1' := s24 _ _ e1
      have e2' := s24 _ _ e2
      have D1' := D1.imp fun _ _ z => z.same s24
      have D2' := D2.imp fun _ _ z => SumV.same s24 z
      have sG := s2.trans s24
      have next : elim (ms.take (i + 1)) = estep (elim (ms.take i)) m := by rw [elim_take ms hil, emi]
      obtain ⟨rp, rfl, hrp⟩ := hr4
      refine ⟨_, rfl, _, .inr (.inl ⟨_, hrp, rfl⟩), ?_⟩
      rw [emp_low]
      cases e : low (rest 64 (elim (ms.take i)).1 m (2 ^ i)).1 with
      | some h0 =>
        obtain ⟨tl, et⟩ := low_cons e
        have st1 : estep (elim (ms.take i)) m = ((elim (ms.take i)).1 ++ [(h0, rest 64 (elim (ms.take i)).1 m (2 ^ i))], (elim (ms.take i)).2.1, (elim (ms.take i)).2.2 + 1) := by
          unfold estep
          rw [On, e]
        have fresh : lookB (elim (ms.take i)).1 h0 = none := by
          obtain ⟨_, _, h3⟩ := rest_spec O.bas 64 m (2 ^ i) hmm fun h _ => by omega
          rcases h3 with z | ⟨j, z, q3⟩
          · rw [z] at e; cases e
          · rw [e] at z
            have z := Option.some.inj z
            subst z
            exact q3
        refine iteT ?_
        refine ⟨_, rfl, _, rfl, (by show 2 ≤ sizeLine; decide), fun w2 hw => ?_⟩
        have sw := same_new (o := .tup [V.ref rp, v]) hw
        refine ⟨_, rfl, _, rfl, rp, _, 0, _, rfl, rfl, sqT_same sw hrp, (by rw [et]; exact atI_nat (j := 0) rfl), d1, _, rfl, DPut.k (k := Sum.inl (h0 : Int)) (sw _ _ e1') (small1000 (by omega)), ?_⟩
        have hP1 : PairV K (upd H4 w2 (.tup [V.ref rp, v])) (.ref w2) (rest 64 (elim (ms.take i)).1 m (2 ^ i)) :=
          ⟨w2, .ref rp, v, rfl, .inl (.inl upd_same), ⟨rp, rfl, sqT_same sw hrp⟩, hv4.same sw⟩
        have D1n := (D1'.imp fun _ _ z => z.same sw).put fresh hP1
        refine ⟨putK k1 (Sum.inl (h0 : Int)) (.ref w2), k2, _, _, _, _, rfl, same_mut (sG.trans sw) n1, upd_same, ?_, ?_, ?_, ?_, by omega⟩
        · rw [upd_ne ne12.symm]
          exact sw _ _ e2'
        · rw [next, st1]
          exact D1n.imp fun _ _ z => z.updK (sw _ _ e1')
        · rw [next, st1]
          exact D2'.imp fun _ _ z => (z.same sw).updK (sw _ _ e1')
        · have := Paired.len D1n
          have := Paired.len D1'
          simp at *
          omega
      | none =>
        have st1 : estep (elim (ms.take i)) m = ((elim (ms.take i)).1, (elim (ms.take i)).2.1 ++ [(i, (rest 64 (elim (ms.take i)).1 m (2 ^ i)).2)], i + 1) := by
          unfold estep
          rw [On, e]
        refine iteF ?_
        refine ⟨_, rfl, _, rfl, _, rfl, d2, _, rfl, DPut.k (k := Sum.inl (i : Int)) e2' (small1000 (by omega)), ?_⟩
        have fresh : lookB (elim (ms.take i)).2.1 i = none := by
          unfold lookB
          rw [Option.map_eq_none_iff, List.find?_eq_none]
          intro b hb z
          have := (O.lots b hb).1
          have z := of_decide_eq_true z
          rw [List.length_take] at this
          omega
        have D2n := D2'.put fresh hv4
        refine ⟨k1, putK k2 (Sum.inl (i : Int)) v, _, _, _, _, rfl, same_mut sG nG2, ?_, upd_same, ?_, ?_, by omega, ?_⟩
        · rw [upd_ne ne12]
          exact e1'
        · rw [next, st1]
          exact D1'.imp fun _ _ z => z.updK e2'
        · rw [next, st1]
          exact D2n.imp fun _ _ z => SumV.updK e2' z
        · have := Paired.len D2n
          have := Paired.len D2'
          simp at *
          omega
    · rintro σ H2 ⟨k1, k2, y3, y4, y5, y6, rfl, s2, e1, e2, D1, D2, l1, l2⟩
      rw [lenP, List.take_length] at D1 D2
      refine ⟨_, rfl, _, rfl, (by show 2 ≤ sizeLine; decide), fun t ht => ?_⟩
      have st := same_new (o := .tup [V.ref d1, V.ref d2]) ht
      exact k _ t d1 d2 k1 k2 (s2.trans st) (s2.free ht) upd_same n1 nG2 (st _ _ e1) (st _ _ e2) (D1.imp fun _ _ z => z.same st) (D2.imp fun _ _ z => SumV.same st z)
end
end Es
set_option Elab.async false
set_option linter.all false
set_option maxRecDepth 100000
set_option maxHeartbeats 4000000
namespace Es
open PySem PySem.Spec PyProof.Rows L2
section
variable {P : Program} {w : World} {K : PySem.W.Frag} {mg : Str → Option Value} {base : Heap}
theorem ok_independent_among {f : Addr} {fd : FuncData} (F : Fun K "independent_among" "independent_among" s_independent_among f fd) (T : Txt mg) (c_eliminated : CalleeOf P w K mg base 3 "_eliminated" ["sums"] (sp_eliminated K)) : FnG P w K mg base 4 f fd ["sums"] (sp_independent_among K) := by
  refine okG F sc_independent_among (fun h => ?_) (fun cdv B out t0 G ys R E hr hg h => ?_)
  · obtain ⟨a, us, ms, rfl, _⟩ := h
    rfl
  · obtain ⟨a, us, ms, rfl, hS, k⟩ := h
    have hu := hu_of hr
    refine ⟨_, (pss_cons
        (ps_asg (pe_callC c_eliminated (hr.mono (by decide)) hg (by rfl) (pa_cons (pv 0) pa_nil)) (pg_tup (by rfl) (pgs_cons (pg_name (i := 1) sc_independent_among.nd rfl (.inl rfl)) (pgs_cons (pg_name (i := 2) sc_independent_among.nd rfl (.inr rfl)) pgs_nil))))
        (pss_one
        (ps_ret (pe_lc (own := [("index", 3)]) rfl sc_independent_among.nd (pi_range1 (by rfl) T.z_range (pa_cons (pe_callB call_len_seq (by rfl) T.z_len (by decide +kernel) (pa_cons (pv 0) pa_nil)) pa_nil)) (blkOk_by (own := [("index", 3)]) (N := ["sums", "_", "lots", "index"]) (sc := defScope s_independent_among) (by decide +kernel)) (fun _ _ _ _ _ => (pg_name (i := 3) sc_independent_among.nd rfl (.inl rfl))) (fun _ _ _ _ _ => (pts_one (pt_cmp (pc_dnotin hu (pv 3) (pv 2))))) (fun _ _ _ _ _ => (pv 3)))))), ?_⟩
    refine ⟨_, rfl, a, us, ms, rfl, hS, fun H1 p d1 d2 k1 k2 s1 np ep n1 n2 e1 e2 D1 D2 => ?_⟩
    refine ⟨p, _, rfl, .inl (.inl ep), rfl, _, _, rfl, _, _, rfl, rfl, ?_⟩
    have lenP : us.length = ms.length := Paired.len hS.2.1
    have h62 := hS.2.2.2
    refine ⟨_, rfl, a, us, rfl, .inl (s1.seq hS.1), (us.length : Int), rfl, by omega, by omega, fun D hD => ?_⟩
    refine lc_range (lo := 0) (n := us.length) (fun i H => ∃ acc : List Nat, H D = some (.lst (iv acc)) ∧ Same H1 H ∧ acc.length ≤ i ∧ acc = (List.range i).filter fun j => decide (j ∉ (elim ms).2.1.map (·.1)))
      ⟨[], upd_same, same_new hD, Nat.le_refl _, rfl⟩ ?_ ?_
    · rintro i H hi ⟨acc, ea, sa, la, eacc⟩
      have e0 : (0 : Int) + (i : Int) = (i : Int) := Int.zero_add _
      rw [e0]
      refine ⟨rfl, _, rfl, _, rfl, d2, _, rfl, DGet.k (k := Sum.inl (i : Int)) (sa _ _ e2), _, rfl, ?_⟩
      obtain ⟨v1, v2⟩ := D2.val (h := i)
      have nx : (List.range (i + 1)).filter (fun j => decide (j ∉ (elim ms).2.1.map (·.1))) = acc ++ (if i ∈ (elim ms).2.1.map (·.1) then [] else [i]) := by
        rw [List.range_succ, List.filter_append, ← eacc]
        congr 1
        by_cases q : i ∈ (elim ms).2.1.map (·.1)
        · rw [if_pos q, List.filter_cons, if_neg (by simp only [decide_eq_true_eq]; exact fun z => z q)]
          rfl
        · rw [if_neg q, List.filter_cons, if_pos (by simp only [decide_eq_true_eq]; exact q)]
          rfl
      cases q : lookB (elim ms).2.1 i with
      | none =>
        rw [v1 q]
        have ni : i ∉ (elim ms).2.1.map (·.1) := by
          intro z
          obtain ⟨b, hb, eb⟩ := List.mem_map.mp z
          unfold lookB at q
          rw [Option.map_eq_none_iff, List.find?_eq_none] at q
          exact q b hb (decide_eq_true eb)
        refine iteT ?_
        refine ⟨_, rfl, iv acc, ea, ?_, acc ++ [i], ?_, same_mut sa hD, by simp; omega, ?_⟩
        · rw [iv_len]
          exact small1000 (by omega)
        · rw [upd_same]
          simp [iv]
        · rw [nx, if_neg ni]
      | some b =>
        obtain ⟨v, ev, _⟩ := v2 b q
        rw [ev]
        have ni : i ∈ (elim ms).2.1.map (·.1) := by
          unfold lookB at q
          obtain ⟨c, hc, ec⟩ := Option.map_eq_some_iff.mp q
          exact List.mem_map.mpr ⟨c, List.mem_of_find?_eq_some hc, by simpa using List.find?_some hc⟩
        refine iteF ?_
        exact ⟨acc, ea, sa, by omega, by rw [nx, if_pos ni, List.append_nil]⟩
    · rintro H ⟨acc, ea, sa, la, eacc⟩
      refine k H D (s1.trans sa) (s1.free hD) ?_
      rw [ea, eacc, lenP]
      rfl
end
end Es
set_option Elab.async false
set_option linter.all false
set_option maxRecDepth 100000
set_option maxHeartbeats 4000000
namespace Es
open PySem PySem.Spec PyProof.Rows L2
section
variable {P : Program} {w : World} {K : PySem.W.Frag} {mg : Str → Option Value} {base : Heap}
theorem ok_rank_of {f : Addr} {fd : FuncData} (F : Fun K "rank_of" "rank_of" s_rank_of f fd) (T : Txt mg) (c_independent_among : CalleeOf P w K mg base 4 "independent_among" ["sums"] (sp_independent_among K)) : FnG P w K mg base 5 f fd ["sums"] (sp_rank_of K) := by
  refine okG F sc_rank_of (fun h => ?_) (fun cdv B out t0 G ys R E hr hg h => ?_)
  · obtain ⟨a, us, ms, rfl, _⟩ := h
    rfl
  · obtain ⟨a, us, ms, rfl, hS, k⟩ := h
    refine ⟨_, (pss_one
        (ps_ret (pe_callB call_len_seq (by rfl) T.z_len (by decide +kernel) (pa_cons (pe_callC c_independent_among (hr.mono (by decide)) hg (by rfl) (pa_cons (pv 0) pa_nil)) pa_nil)))), ?_⟩
    refine ⟨_, rfl, a, us, ms, rfl, hS, fun H1 p s1 np ep => ?_⟩
    refine ⟨p, _, rfl, .inl (.inl (.inl ep)), ?_⟩
    rw [iv_len]
    exact k _ s1
end
end Es
set_option Elab.async false
set_option linter.all false
set_option maxRecDepth 100000
set_option maxHeartbeats 4000000
namespace Es
open PySem PySem.Spec PyProof.Rows L2
section
variable {P : Program} {w : World} {K : PySem.W.Frag} {mg : Str → Option Value} {base : Heap}
theorem ok_law_worth {f : Addr} {fd : FuncData} (F : Fun K "_law_worth" "_law_worth" s_law_worth f fd) (T : Txt mg)  : FnG P w K mg base 1 f fd ["row", "bits"] (sp_law_worth K) := by
  refine okG F sc_law_worth (fun h => ?_) (fun cdv B out t0 G ys R E hr hg h => ?_)
  · obtain ⟨v, b, m, bs, rfl, _⟩ := h
    rfl
  · obtain ⟨v, b, m, bs, rfl, ⟨p, rfl, hp⟩, hb, hlt, k⟩ := h
    refine ⟨_, (pss_one
        (ps_ret (pe_op op_mod (pe_callTy call_int1 (by rfl) T.z_int (by decide +kernel) (pa_cons (pe_callB (cr_sum rfl) (by rfl) T.z_sum (by decide +kernel) (pa_cons (pe_lc (own := [("unknown", 2)]) rfl sc_law_worth.nd (pi_tup (pv 0)) (blkOk_by (own := [("unknown", 2)]) (N := ["row", "bits", "unknown"]) (sc := defScope s_law_worth) (by decide +kernel)) (fun _ _ _ _ _ => (pg_name (i := 2) sc_law_worth.nd rfl (.inl rfl))) (fun _ _ _ _ _ => pts_nil) (fun _ _ _ _ _ => (pe_ix (r := rIxT K) ix_tup (pv 1) (pv 2) (fun _ _ => rfl)))) pa_nil)) pa_nil)) pe_int))), ?_⟩
    refine ⟨_, rfl, p, rfl, ⟨_, hp⟩, fun D hD => ?_⟩
    refine lc_tup (K := K) (a := p) (xs := iv (bts m)) (fun i H => H D = some (.lst (iv (((bts m).take i).map fun u => bs.getD u 0))) ∧ Same G H) ⟨upd_same, same_new hD⟩ (fun i H _ h => sqT_same h.2 hp) ?_ ?_
    · rintro i x H hi ⟨ea, sa⟩
      obtain ⟨u, hu1, rfl⟩ := iv_get hi
      have hil := (List.getElem?_eq_some_iff.mp hu1).1
      have hu2 := hlt u (List.mem_of_getElem? hu1)
      have at1 : (iv bs)[u]? = some (.int ((bs.getD u 0 : Nat) : Int)) := by
        unfold iv
        rw [List.getElem?_map, List.getElem?_eq_getElem hu2, List.getD_eq_getElem?_getD, List.getElem?_eq_getElem hu2]
        rfl
      refine ⟨rfl, _, rfl, _, rfl, b, _, _, _, rfl, rfl, sqT_same sa hb, atI_nat at1, iv (((bts m).take i).map fun u => bs.getD u 0), ea, ?_, ?_, same_mut sa hD⟩
      · rw [iv_len, List.length_map, List.length_take]
        have := bts_len m
        exact small1000 (by omega)
      · rw [upd_same, List.take_succ_eq_append_getElem hil, (List.getElem?_eq_some_iff.mp hu1).2]
        simp [iv]
    · rintro H ⟨ea, sa⟩
      rw [iv_len, List.take_length, iv_ints] at ea
      refine ⟨D, _, rfl, .inl (.inl ea), .inl ⟨_, rfl, _, _, rfl, rfl, (by show (0 : Int) < 2; decide), ?_⟩⟩
      rw [sum_nat]
      exact k H sa
end
end Es
set_option Elab.async false
set_option linter.all false
set_option maxRecDepth 100000
set_option maxHeartbeats 4000000
namespace Es
open PySem PySem.Spec PyProof.Rows L2
section
variable {P : Program} {w : World} {K : PySem.W.Frag} {mg : Str → Option Value} {base : Heap}
theorem ok_worth_of {f : Addr} {fd : FuncData} (F : Fun K "worth_of" "worth_of" s_worth_of f fd) (T : Txt mg)  : FnG P w K mg base 1 f fd ["row", "bits"] (sp_worth_of K) := by
  refine okG F sc_worth_of (fun h => ?_) (fun cdv B out t0 G ys R E hr hg h => ?_)
  · obtain ⟨v, b, m, bs, rfl, _⟩ := h
    rfl
  · obtain ⟨v, b, m, bs, rfl, ⟨p, rfl, hp⟩, hb, hlt, k⟩ := h
    refine ⟨_, (pss_one
        (ps_ret (pe_op op_and (pe_callB (cr_sum rfl) (by rfl) T.z_sum (by decide +kernel) (pa_cons (pe_lc (own := [("unknown", 2)]) rfl sc_worth_of.nd (pi_tup (pv 0)) (blkOk_by (own := [("unknown", 2)]) (N := ["row", "bits", "unknown"]) (sc := defScope s_worth_of) (by decide +kernel)) (fun _ _ _ _ _ => (pg_name (i := 2) sc_worth_of.nd rfl (.inl rfl))) (fun _ _ _ _ _ => pts_nil) (fun _ _ _ _ _ => (pe_ix (r := rIxT K) ix_tup (pv 1) (pv 2) (fun _ _ => rfl)))) pa_nil)) pe_int))), ?_⟩
    refine ⟨_, rfl, p, rfl, ⟨_, hp⟩, fun D hD => ?_⟩
    refine lc_tup (K := K) (a := p) (xs := iv (bts m)) (fun i H => H D = some (.lst (iv (((bts m).take i).map fun u => bs.getD u 0))) ∧ Same G H) ⟨upd_same, same_new hD⟩ (fun i H _ h => sqT_same h.2 hp) ?_ ?_
    · rintro i x H hi ⟨ea, sa⟩
      obtain ⟨u, hu1, rfl⟩ := iv_get hi
      have hil := (List.getElem?_eq_some_iff.mp hu1).1
      have hu2 := hlt u (List.mem_of_getElem? hu1)
      have at1 : (iv bs)[u]? = some (.int ((bs.getD u 0 : Nat) : Int)) := by
        unfold iv
        rw [List.getElem?_map, List.getElem?_eq_getElem hu2, List.getD_eq_getElem?_getD, List.getElem?_eq_getElem hu2]
        rfl
      refine ⟨rfl, _, rfl, _, rfl, b, _, _, _, rfl, rfl, sqT_same sa hb, atI_nat at1, iv (((bts m).take i).map fun u => bs.getD u 0), ea, ?_, ?_, same_mut sa hD⟩
      · rw [iv_len, List.length_map, List.length_take]
        have := bts_len m
        exact small1000 (by omega)
      · rw [upd_same, List.take_succ_eq_append_getElem hil, (List.getElem?_eq_some_iff.mp hu1).2]
        simp [iv]
    · rintro H ⟨ea, sa⟩
      rw [iv_len, List.take_length, iv_ints] at ea
      refine ⟨D, _, rfl, .inl (.inl ea), ?_⟩
      rw [sum_nat]
      refine ⟨_, _, rfl, rfl, ?_⟩
      show R (V.int (Builtin.bitAnd _ 1)) H
      rw [and_one]
      exact k H sa
end
end Es
set_option Elab.async false
set_option linter.all false
set_option maxRecDepth 100000
set_option maxHeartbeats 4000000
namespace Es
open PySem PySem.Spec PyProof.Rows L2
section
variable {P : Program} {w : World} {K : PySem.W.Frag} {mg : Str → Option Value} {base : Heap}
theorem ok_dependent_lots {f : Addr} {fd : FuncData} (F : Fun K "dependent_lots" "dependent_lots" s_dependent_lots f fd) (T : Txt mg) (c_eliminated : CalleeOf P w K mg base 3 "_eliminated" ["sums"] (sp_eliminated K)) : FnG P w K mg base 4 f fd ["sums"] (sp_dependent_lots K) := by
  refine okG F sc_dependent_lots (fun h => ?_) (fun cdv B out t0 G ys R E hr hg h => ?_)
  · obtain ⟨a, us, ms, rfl, _⟩ := h
    rfl
  · obtain ⟨a, us, ms, rfl, hS, k⟩ := h
    have hu := hu_of hr
    refine ⟨_, (pss_cons
        (ps_asg (pe_callC c_eliminated (hr.mono (by decide)) hg (by rfl) (pa_cons (pv 0) pa_nil)) (pg_tup (by rfl) (pgs_cons (pg_name (i := 1) sc_dependent_lots.nd rfl (.inl rfl)) (pgs_cons (pg_name (i := 2) sc_dependent_lots.nd rfl (.inl rfl)) pgs_nil))))
        (pss_one
        (ps_ret (pe_listVals rfl (pv 2) (by rfl) T.z_list (by decide +kernel))))), ?_⟩
    refine ⟨_, rfl, a, us, ms, rfl, hS, fun H1 p d1 d2 k1 k2 s1 np ep n1 n2 e1 e2 D1 D2 => ?_⟩
    refine ⟨p, _, rfl, .inl (.inl ep), rfl, _, _, rfl, _, _, rfl, rfl, ?_⟩
    refine ⟨_, rfl, d2, k2, rfl, e2, fun q nq => ?_⟩
    have sq := same_new (o := .lst (k2.map (·.2))) nq
    exact k _ q _ (s1.trans sq) upd_same (sums_same sq (dict_vals D2))
end
end Es
set_option Elab.async false
set_option linter.all false
set_option maxRecDepth 100000
set_option maxHeartbeats 4000000
namespace Es
open PySem PySem.Spec PyProof.Rows L2
section
variable {P : Program} {w : World} {K : PySem.W.Frag} {mg : Str → Option Value} {base : Heap}
theorem ok_dependent_lot {f : Addr} {fd : FuncData} (F : Fun K "dependent_lot" "dependent_lot" s_dependent_lot f fd) (T : Txt mg) (c_dependent_lots : CalleeOf P w K mg base 4 "dependent_lots" ["sums"] (sp_dependent_lots K)) : FnG P w K mg base 5 f fd ["sums"] (sp_dependent_lot K) := by
  refine okG F sc_dependent_lot (fun h => ?_) (fun cdv B out t0 G ys R E hr hg h => ?_)
  · obtain ⟨a, us, ms, rfl, _⟩ := h
    rfl
  · obtain ⟨a, us, ms, rfl, hS, k⟩ := h
    refine ⟨_, (pss_cons
        (ps_set (i := 1) sc_dependent_lot.nd rfl (Or.inl rfl) (pe_callC c_dependent_lots (hr.mono (by decide)) hg (by rfl) (pa_cons (pv 0) pa_nil)))
        (pss_one
        (ps_ret (pe_ifExp (pt_truth (pv 1) (by intro _; rfl)) (pe_ix ix_list (pv 1) pe_int (fun _ _ => rfl)) pe_non)))), ?_⟩
    refine ⟨_, rfl, a, us, ms, rfl, hS, fun H1 p us1 s1 ep hP => ?_⟩
    refine ⟨_, rfl, _, .inl ⟨us1, .inl (.inl ep), rfl⟩, ?_⟩
    cases hk : (elim ms).2.1 with
    | nil =>
      rw [hk] at hP
      cases hP
      refine iteF (k _ _ s1 ?_)
      unfold lotOf
      rw [hk]
      rfl
    | cons l ls =>
      rw [hk] at hP
      cases hP with
      | cons r t =>
        refine iteT ⟨_, rfl, p, _, 0, _, rfl, rfl, .inl (.inl ep), atI_nat (j := 0) rfl, k _ _ s1 ?_⟩
        unfold lotOf
        rw [hk]
        exact r
end
end Es
set_option Elab.async false
set_option linter.all false
set_option maxRecDepth 100000
set_option maxHeartbeats 4000000
namespace Es
open PySem PySem.Spec PyProof.Rows L2
section
variable {P : Program} {w : World} {K : PySem.W.Frag} {mg : Str → Option Value} {base : Heap}
theorem ok_law_is_whole {f : Addr} {fd : FuncData} (F : Fun K "_law_is_whole" "_law_is_whole" s_law_is_whole f fd) (T : Txt mg)  : FnG P w K mg base 1 f fd ["thing"] (sp_law_is_whole K) := by
  refine okG F sc_law_is_whole (fun h => ?_) (fun cdv B out t0 G ys R E hr hg h => ?_)
  · obtain ⟨i, rfl, _⟩ := h
    rfl
  · obtain ⟨i, rfl, k⟩ := h
    refine ⟨_, (pss_one
        (ps_ret (pe_and (pe_callB call_isi (by rfl) T.z_isinstance (by decide +kernel) (pa_cons (pv 0) (pa_cons (pe_bltn (v := .ty "int") (u := .type "int") (by rfl) T.z_int (by decide +kernel) rfl) pa_nil))) (pe_one (pe_not (pe_callB call_isi (by rfl) T.z_isinstance (by decide +kernel) (pa_cons (pv 0) (pa_cons (pe_bltn (v := .ty "bool") (u := .type "bool") (by rfl) T.z_bool (by decide +kernel) rfl) pa_nil)))))))), ?_⟩
    refine ⟨_, rfl, _, _, _, _, _, rfl, .ty "int", .base (.int i), kit_ty (r := true) (by decide +kernel), _, rfl, iteT ?_⟩
    refine ⟨_, rfl, _, _, _, _, _, rfl, .ty "bool", .base (.int i), kit_ty (r := false) (by decide +kernel), _, rfl, ?_⟩
    exact k
end
end Es
set_option Elab.async false
set_option linter.all false
set_option maxRecDepth 100000
set_option maxHeartbeats 4000000
namespace Es
open PySem PySem.Spec PyProof.Rows L2
section
variable {P : Program} {w : World} {K : PySem.W.Frag} {mg : Str → Option Value} {base : Heap}
theorem ok_law_is_in {f : Addr} {fd : FuncData} (F : Fun K "_law_is_in" "_law_is_in" s_law_is_in f fd) (T : Txt mg) (c_law_is_whole : CalleeOf P w K mg base 1 "_law_is_whole" ["thing"] (sp_law_is_whole K)) : FnG P w K mg base 2 f fd ["thing", "many"] (sp_law_is_in K) := by
  refine okG F sc_law_is_in (fun h => ?_) (fun cdv B out t0 G ys R E hr hg h => ?_)
  · obtain ⟨i, n, rfl, _⟩ := h
    rfl
  · obtain ⟨i, n, rfl, k⟩ := h
    refine ⟨_, (pss_one
        (ps_ret (pe_and (pe_callC c_law_is_whole (hr.mono (by decide)) hg (by rfl) (pa_cons (pv 0) pa_nil)) (pe_one (pe_chain op_le op_lt pe_int (pv 0) (pv 1)))))), ?_⟩
    refine ⟨_, rfl, i, rfl, _, rfl, iteT ?_⟩
    refine ⟨_, rfl, _, _, rfl, rfl, _, rfl, ?_⟩
    cases e : decide ((0 : Int) ≤ i) with
    | true =>
      refine iteT ?_
      refine ⟨_, rfl, _, _, rfl, rfl, ?_⟩
      rw [e, Bool.true_and] at k
      exact k
    | false =>
      refine iteF ?_
      rw [e, Bool.false_and] at k
      exact k
end
end Es
set_option Elab.async false
set_option linter.all false
set_option maxRecDepth 100000
set_option maxHeartbeats 4000000
namespace Es
open PySem PySem.Spec PyProof.Rows L2
section
variable {P : Program} {w : World} {K : PySem.W.Frag} {mg : Str → Option Value} {base : Heap}
theorem ok_law_is_sum {f : Addr} {fd : FuncData} (F : Fun K "_law_is_sum" "_law_is_sum" s_law_is_sum f fd) (T : Txt mg) (c_law_is_in : CalleeOf P w K mg base 2 "_law_is_in" ["thing", "many"] (sp_law_is_in K)) : FnG P w K mg base 3 f fd ["many", "thing"] (sp_law_is_sum K) := by
  refine okG F sc_law_is_sum (fun h => ?_) (fun cdv B out t0 G ys R E hr hg h => ?_)
  · obtain ⟨n, m, v, rfl, _⟩ := h
    rfl
  · obtain ⟨n, m, v, rfl, ⟨p, rfl, hp⟩, hm, hn, k⟩ := h
    refine ⟨_, (pss_cons
        (ps_if (PW.pt (pw_or (pt_not (pt_val (pe_callB call_isi (by rfl) T.z_isinstance (by decide +kernel) (pa_cons (pv 1) (pa_cons (pe_bltn (v := .ty "tuple") (u := .type "tuple") (by rfl) T.z_tuple (by decide +kernel) rfl) pa_nil))))) (pw_or1 (pt_cmpR (op_neD hr.units) (pe_lc (own := [("one", 2)]) rfl sc_law_is_sum.nd (pi_tup (pv 1)) (blkOk_by (own := [("one", 2)]) (N := ["many", "thing", "one"]) (sc := defScope s_law_is_sum) (by decide +kernel)) (fun _ _ _ _ _ => (pg_name (i := 2) sc_law_is_sum.nd rfl (.inl rfl))) (fun _ _ _ _ _ => (pts_one (pt_not (pt_val (pe_callC c_law_is_in (hr.mono (by decide)) hg (by rfl) (pa_cons (pv 2) (pa_cons (pv 0) pa_nil))))))) (fun _ _ _ _ _ => (pv 2))) (pe_lst pa_nil) (nomark _)))))
        (pss_one
          (ps_ret pe_bl))
        pss_nil)
        (pss_one
        (ps_ret (pe_cmpR (op_eqD hr.units) (pe_callTy call_list_of (by rfl) T.z_list (by decide +kernel) (pa_cons (pv 1) pa_nil)) (pe_callB (cr_sortedSet rfl) (by rfl) T.z_sorted (by decide +kernel) (pa_cons (pe_callTy (cr_setSeq rfl) (by rfl) T.z_set (by decide +kernel) (pa_cons (pv 1) pa_nil)) pa_nil)) (nomark _))))), ?_⟩
    refine ⟨_, rfl, _, _, _, _, _, rfl, .ty "tuple", tyT hp, kit_ty (r := true) (by decide +kernel), _, rfl, iteF ?_⟩
    refine ⟨_, rfl, p, rfl, ⟨_, hp⟩, fun D hD => ?_⟩
    refine lc_tup (K := K) (a := p) (xs := iv (bts m)) (fun i H => H D = some (.lst []) ∧ Same G H) ⟨upd_same, same_new hD⟩ (fun i H _ h => sqT_same h.2 hp) ?_ ?_
    · rintro i x H hi ⟨eD, s1⟩
      obtain ⟨u, hu1, rfl⟩ := iv_get hi
      have hu2 := bits_below hm (List.mem_of_getElem? hu1)
      refine ⟨rfl, _, rfl, _, rfl, (u : Int), (n : Int), rfl, _, rfl, ?_⟩
      rw [decide_eq_true (Int.natCast_nonneg u), decide_eq_true (show (u : Int) < (n : Int) by omega)]
      exact iteF ⟨eD, s1⟩
    · rintro H ⟨eD, s1⟩
      refine ⟨Nat.zero_le _, fun l nl => ?_⟩
      have sl := same_new (o := .lst []) nl
      have s2 := s1.trans sl
      refine ⟨_, _, dp_nil (.inl (.inl (sl _ _ eD))), dp_nil (.inl (.inl upd_same)), by decide +kernel, by decide +kernel, _, rfl, ?_⟩
      rw [show PyData.eqv (.list []) (.list []) = true from rfl]
      refine iteF ?_
      have hp2 := sqT_same s2 hp
      rw [iv_ints] at hp2
      refine ⟨_, rfl, p, _, rfl, .inr hp2, fun l2 nl2 => ?_⟩
      have s3 := s2.trans (same_new (o := .lst (((bts m).map Int.ofNat).map V.int)) nl2)
      have hp3 := sqT_same s3 hp
      rw [iv_ints] at hp3
      refine ⟨_, rfl, p, _, rfl, hp3, ?_, fun st ct nst hct => ?_⟩
      · rw [List.length_map]
        have := bts_len m
        omega
      have hb := bts_len m
      rw [List.length_map] at hct
      refine ⟨st, _, _, rfl, upd_same, by omega, fun ns q hs hmem hlen nq => ?_⟩
      have s4 := same_new (o := SetO w st (fun j => decide (j ∈ (bts m).map Int.ofNat)) ct) nst
      have s5 := same_new (o := .lst (ns.map V.int)) nq
      have ens : ns = (bts m).map Int.ofNat := by
        have hy : ∀ y ∈ ns, ∃ u : Nat, y = Int.ofNat u ∧ u ∈ bts m := fun y hy => by
          have := (hmem y).mp hy
          obtain ⟨u, hu, e⟩ := List.mem_map.mp (of_decide_eq_true this)
          exact ⟨u, e.symm, hu⟩
        have ey : ns = (ns.map Int.toNat).map Int.ofNat := by
          rw [List.map_map]
          conv => lhs; rw [← List.map_id ns]
          refine List.map_congr_left fun y m1 => ?_
          obtain ⟨u, rfl, _⟩ := hy y m1
          rfl
        have e2 : ns.map Int.toNat = bts m := by
          refine asc_unique ?_ (bts_lt m) fun u => ?_
          · rw [List.pairwise_map]
            refine hs.imp_of_mem ?_
            intro a b ha hb hab
            obtain ⟨u1, rfl, _⟩ := hy a ha
            obtain ⟨u2, rfl, _⟩ := hy b hb
            show u1 < u2
            simpa using hab
          · constructor
            · intro h
              obtain ⟨y, y1, y2⟩ := List.mem_map.mp h
              obtain ⟨u1, rfl, hu1⟩ := hy y y1
              have y2 : u1 = u := y2
              rw [← y2]
              exact hu1
            · intro h
              refine List.mem_map.mpr ⟨Int.ofNat u, (hmem _).mpr (decide_eq_true (List.mem_map.mpr ⟨u, h, rfl⟩)), rfl⟩
        rw [ey, e2]
      rw [ens]
      rw [ens] at s5
      refine ⟨_, _, dp_list (.inl (.inl (s5 _ _ (s4 _ _ upd_same)))), dp_list (.inl (.inl upd_same)), shaped_ints _, shaped_ints _, ?_⟩
      rw [show PyData.eqv (.list _) (.list _) = true from eqv_ints _]
      exact k _ ((s3.trans s4).trans s5)
end
end Es
set_option Elab.async false
set_option linter.all false
set_option maxRecDepth 100000
set_option maxHeartbeats 4000000
namespace Es
open PySem PySem.Spec PyProof.Rows L2
section
variable {P : Program} {w : World} {K : PySem.W.Frag} {mg : Str → Option Value} {base : Heap}
theorem ok_law_are_some {f : Addr} {fd : FuncData} (F : Fun K "_law_are_some" "_law_are_some" s_law_are_some f fd) (T : Txt mg) (c_law_is_sum : CalleeOf P w K mg base 3 "_law_is_sum" ["many", "thing"] (sp_law_is_sum K)) : FnG P w K mg base 4 f fd ["many", "thing"] (sp_law_are_some K) := by
  refine okG F sc_law_are_some (fun h => ?_) (fun cdv B out t0 G ys R E hr hg h => ?_)
  · obtain ⟨n, m, v, rfl, _⟩ := h
    rfl
  · obtain ⟨n, m, v, rfl, hv, hm, hn, k⟩ := h
    refine ⟨_, (pss_one
        (ps_ret (pe_callC c_law_is_sum (hr.mono (by decide)) hg (by rfl) (pa_cons (pv 0) (pa_cons (pv 1) pa_nil))))), ?_⟩
    exact ⟨_, rfl, _, rfl, n, m, v, rfl, hv, hm, hn, k⟩
end
end Es
set_option Elab.async false
set_option linter.all false
set_option maxRecDepth 100000
set_option maxHeartbeats 4000000
namespace Es
open PySem PySem.Spec PyProof.Rows L2
section
variable {P : Program} {w : World} {K : PySem.W.Frag} {mg : Str → Option Value} {base : Heap}
theorem ok_law_are_told {f : Addr} {fd : FuncData} (F : Fun K "_law_are_told" "_law_are_told" s_law_are_told f fd) (T : Txt mg) (c_law_rank : CalleeOf P w K mg base 3 "_law_rank" ["rows"] (sp_law_rank K)) (c_law_take : CalleeOf P w K mg base 1 "_law_take" ["bag", "many"] (sp_law_take K)) (c_law_all_of : CalleeOf P w K mg base 1 "_law_all_of" ["sums"] (sp_law_all_of K)) (c_law_alike : CalleeOf P w K mg base 1 "_law_alike" ["found", "due"] (sp_law_alike K)) (c_rank_of : CalleeOf P w K mg base 5 "rank_of" ["sums"] (sp_rank_of K)) (c_together : CalleeOf P w K mg base 1 "together" ["sums"] (sp_together K)) (c_law_worth : CalleeOf P w K mg base 1 "_law_worth" ["row", "bits"] (sp_law_worth K)) (c_worth_of : CalleeOf P w K mg base 1 "worth_of" ["row", "bits"] (sp_worth_of K)) (c_dependent_lot : CalleeOf P w K mg base 5 "dependent_lot" ["sums"] (sp_dependent_lot K)) (c_law_are_some : CalleeOf P w K mg base 4 "_law_are_some" ["many", "thing"] (sp_law_are_some K)) (c_independent_among : CalleeOf P w K mg base 4 "independent_among" ["sums"] (sp_independent_among K)) : FnG P w K mg base 6 f fd ["bag", "many", "sums"] (sp_law_are_told K) := by
  refine okG F sc_law_are_told (fun h => ?_) (fun cdv B out t0 G ys R E hr hg h => ?_)
  · obtain ⟨b, c, a, us, ms, n, rfl, _⟩ := h
    rfl
  · obtain ⟨b, c, a, us, ms, n, rfl, hB, nab, eA, ⟨hS, hP, hm, h62⟩, hn, n62, k⟩ := h
    have hu := hu_of hr
    refine ⟨_, (pss_cons
        (ps_asg (pe_tup (pa_cons (pe_callTy call_tuple_of (by rfl) T.z_tuple (by decide +kernel) (pa_cons (pe_lc (own := [("unknown", 6)]) rfl sc_law_are_told.nd (pi_range1 (by rfl) T.z_range (pa_cons (pv 1) pa_nil)) (blkOk_by (own := [("unknown", 6)]) (N := ["bag", "many", "sums", "bits", "kept", "rank", "unknown", "whole", "due", "k", "worths", "row", "lot", "again", "told"]) (sc := defScope s_law_are_told) (by decide +kernel)) (fun _ _ _ _ _ => (pg_name (i := 6) sc_law_are_told.nd rfl (.inl rfl))) (fun _ _ _ _ _ => pts_nil) (fun _ _ _ _ _ => (pe_callC c_law_take (hr.mono (by decide)) hg (by rfl) (pa_cons (pv 0) (pa_cons pe_int pa_nil))))) pa_nil)) (pa_cons (pe_callB (cr_repr hg hr.units) (by rfl) T.z_repr (by decide +kernel) (pa_cons (pv 2) pa_nil)) (pa_cons (pe_callC c_law_rank (hr.mono (by decide)) hg (by rfl) (pa_cons (pv 2) pa_nil)) pa_nil)))) (pg_tup (by rfl) (pgs_cons (pg_name (i := 3) sc_law_are_told.nd rfl (.inr rfl)) (pgs_cons (pg_name (i := 4) sc_law_are_told.nd rfl (.inl rfl)) (pgs_cons (pg_name (i := 5) sc_law_are_told.nd rfl (.inl rfl)) pgs_nil)))))
        (pss_cons
        (ps_par (i := 7) (j := 8) rfl sc_law_are_told.nd rfl rfl (by decide) rfl rfl (pa_cons (pe_callC c_law_all_of (hr.mono (by decide)) hg (by rfl) (pa_cons (pv 2) pa_nil)) (pa_cons (pe_lst pa_nil) pa_nil)) (by rfl))
        (pss_cons
        (ps_for PassesOwn.never rfl (pi_range1 (by rfl) T.z_range (pa_cons (pe_callB call_len_seq (by rfl) T.z_len (by decide +kernel) (pa_cons (pv 2) pa_nil)) pa_nil)) (pg_name (i := 9) sc_law_are_told.nd rfl (.inl rfl))
        (pss_one
          (ps_expr (pe_bm PySem.F.plainAttrs_list PySem.F.slot_list_extend PySem.F.type_list_extend mt_extend (pv 8) (pa_cons (pe_op op_rep (pe_lst (pa_cons (pv 9) pa_nil)) (pe_callTy call_int1 (by rfl) T.z_int (by decide +kernel) (pa_cons (pe_cmpR op_gt (pe_callC c_law_rank (hr.mono (by decide)) hg (by rfl) (pa_cons (pe_slice sl_list (pv 2) po_none (po_some (pe_op op_add (pv 9) pe_int))) pa_nil)) (pe_callC c_law_rank (hr.mono (by decide)) hg (by rfl) (pa_cons (pe_slice sl_list (pv 2) po_none (po_some (pv 9))) pa_nil)) (nomark _)) pa_nil))) pa_nil)))))
        (pss_cons
        (ps_if (pt_not (pt_val (pe_callC c_law_alike (hr.mono (by decide)) hg (by rfl) (pa_cons (pe_lst (pa_cons (pe_callC c_together (hr.mono (by decide)) hg (by rfl) (pa_cons (pv 2) pa_nil)) (pa_cons (pe_callC c_rank_of (hr.mono (by decide)) hg (by rfl) (pa_cons (pv 2) pa_nil)) pa_nil))) (pa_cons (pe_lst (pa_cons (pv 7) (pa_cons (pv 5) pa_nil))) pa_nil)))))
        (pss_one
          (ps_ret pe_bl))
        pss_nil)
        (pss_cons
        (ps_setLc (i := 10) (own := [("row", 11)]) rfl sc_law_are_told.nd rfl rfl (sw_true rfl rfl rfl (by decide +kernel)) (pi_list (pe_op op_cat (pv 2) (pe_lst (pa_cons (pv 7) pa_nil)))) (blkOk_by (own := [("row", 11)]) (N := ["bag", "many", "sums", "bits", "kept", "rank", "unknown", "whole", "due", "k", "worths", "row", "lot", "again", "told"]) (sc := defScope s_law_are_told) (by decide +kernel)) (fun _ _ _ _ _ => (pg_name (i := 11) sc_law_are_told.nd rfl (.inl rfl))) (fun _ _ _ _ _ => pts_nil) (fun _ _ _ _ _ => (pe_callC c_law_worth (hr.mono (by decide)) hg (by rfl) (pa_cons (pv 11) (pa_cons (pv 3) pa_nil)))))
        (pss_cons
        (ps_if (pt_not (pt_val (pe_callC c_law_alike (hr.mono (by decide)) hg (by rfl) (pa_cons (pe_lc (own := [("row", 11)]) rfl sc_law_are_told.nd (pi_list (pe_op op_cat (pv 2) (pe_lst (pa_cons (pv 7) pa_nil)))) (blkOk_by (own := [("row", 11)]) (N := ["bag", "many", "sums", "bits", "kept", "rank", "unknown", "whole", "due", "k", "worths", "row", "lot", "again", "told"]) (sc := defScope s_law_are_told) (by decide +kernel)) (fun _ _ _ _ _ => (pg_name (i := 11) sc_law_are_told.nd rfl (.inl rfl))) (fun _ _ _ _ _ => pts_nil) (fun _ _ _ _ _ => (pe_callC c_worth_of (hr.mono (by decide)) hg (by rfl) (pa_cons (pv 11) (pa_cons (pv 3) pa_nil))))) (pa_cons (pv 10) pa_nil)))))
        (pss_one
          (ps_ret pe_bl))
        pss_nil)
        (pss_cons
        (ps_if (pt_cmpR op_ne (pe_op op_mod (pe_callTy call_int1 (by rfl) T.z_int (by decide +kernel) (pa_cons (pe_callB (cr_sum rfl) (by rfl) T.z_sum (by decide +kernel) (pa_cons (pe_lc (own := [("row", 11)]) rfl sc_law_are_told.nd (pi_list (pv 2)) (blkOk_by (own := [("row", 11)]) (N := ["bag", "many", "sums", "bits", "kept", "rank", "unknown", "whole", "due", "k", "worths", "row", "lot", "again", "told"]) (sc := defScope s_law_are_told) (by decide +kernel)) (fun _ _ _ _ _ => (pg_name (i := 11) sc_law_are_told.nd rfl (.inl rfl))) (fun _ _ _ _ _ => pts_nil) (fun _ _ _ _ _ => (pe_callC c_worth_of (hr.mono (by decide)) hg (by rfl) (pa_cons (pv 11) (pa_cons (pv 3) pa_nil))))) pa_nil)) pa_nil)) pe_int) (pe_callC c_worth_of (hr.mono (by decide)) hg (by rfl) (pa_cons (pv 7) (pa_cons (pv 3) pa_nil))) (nomark _))
        (pss_one
          (ps_ret pe_bl))
        pss_nil)
        (pss_cons
        (ps_set (i := 12) sc_law_are_told.nd rfl (Or.inl rfl) (pe_callC c_dependent_lot (hr.mono (by decide)) hg (by rfl) (pa_cons (pv 2) pa_nil)))
        (pss_cons
        (ps_if (pt_not (pt_val (pe_callC c_law_alike (hr.mono (by decide)) hg (by rfl) (pa_cons (pe_callC c_dependent_lot (hr.mono (by decide)) hg (by rfl) (pa_cons (pe_callTy call_list_of (by rfl) T.z_list (by decide +kernel) (pa_cons (pv 2) pa_nil)) pa_nil)) (pa_cons (pv 12) pa_nil)))))
        (pss_one
          (ps_ret pe_bl))
        pss_nil)
        (Evl.pss_cut
        (ps_if (PW.pt (pw_or (PW.pt (pw_and (pt_cmpR op_isN (pv 12) pe_non (nomark _)) (pw_and1 (pt_cmpR op_ne (pv 5) (pe_callB call_len_seq (by rfl) T.z_len (by decide +kernel) (pa_cons (pv 2) pa_nil)) (nomark _))))) (pw_or1 (PW.pt (pw_and (pt_cmpR op_notN (pv 12) pe_non (nomark _)) (pw_and1 (PW.pt (pw_or (pt_cmpR (op_eqD hr.units) (pv 12) (pe_tup pa_nil) (nomark _)) (pw_or1 (pt_not (pt_val (pe_callC c_law_are_some (hr.mono (by decide)) hg (by rfl) (pa_cons (pe_callB call_len_seq (by rfl) T.z_len (by decide +kernel) (pa_cons (pv 2) pa_nil)) (pa_cons (pv 12) pa_nil))))))))))))))
        (pss_one
          (ps_ret pe_bl))
        pss_nil)
        (Evl.pss_cut
        (ps_if (PW.pt (pw_and (pt_cmpR op_notN (pv 12) pe_non (nomark _)) (pw_and1 (pt_cmpR (op_neD hr.units) (pe_callC c_law_all_of (hr.mono (by decide)) hg (by rfl) (pa_cons (pe_lc (own := [("k", 9)]) rfl sc_law_are_told.nd (pi_tup (pv 12)) (blkOk_by (own := [("k", 9)]) (N := ["bag", "many", "sums", "bits", "kept", "rank", "unknown", "whole", "due", "k", "worths", "row", "lot", "again", "told"]) (sc := defScope s_law_are_told) (by decide +kernel)) (fun _ _ _ _ _ => (pg_name (i := 9) sc_law_are_told.nd rfl (.inl rfl))) (fun _ _ _ _ _ => pts_nil) (fun _ _ _ _ _ => (pe_ix (r := rIxL K) ix_list (pv 2) (pv 9) (fun _ _ => rfl)))) pa_nil)) (pe_tup pa_nil) (nomark _)))))
        (pss_one
          (ps_ret pe_bl))
        pss_nil)
        (pss_cons
        (ps_for PassesOwn.never rfl (pi_range1 (by rfl) T.z_range (pa_cons pe_int pa_nil)) (pg_name (i := 13) sc_law_are_told.nd rfl (.inl rfl))
        (pss_cons
          (ps_set (i := 14) sc_law_are_told.nd rfl (Or.inl rfl) (pe_callC c_independent_among (hr.mono (by decide)) hg (by rfl) (pa_cons (pv 2) pa_nil)))
          (pss_cons
          (ps_if (pt_not (pt_val (pe_callC c_law_alike (hr.mono (by decide)) hg (by rfl) (pa_cons (pv 14) (pa_cons (pv 8) pa_nil)))))
          (pss_one
            (ps_ret pe_bl))
          pss_nil)
          (pss_one
          (ps_expr (pe_bm PySem.F.plainAttrs_list PySem.F.slot_list_append PySem.F.type_list_append mt_append (pv 14) (pa_cons pe_non pa_nil)))))))
        (pss_one
        (ps_ret (pe_cmpR op_eq (pe_callB (cr_repr hg hr.units) (by rfl) T.z_repr (by decide +kernel) (pa_cons (pv 2) pa_nil)) (pv 4) (nomark _)))))))))))))))), ?_⟩
    have lenP : us.length = ms.length := Paired.len hP
    have dd : (sumsD ms).depth ≤ 40 := Nat.le_trans (depth_sumsD ms) (by decide)
    have ww : (sumsD ms).weight ≤ 2 ^ 20 := weight_sumsD (by omega)
    refine ⟨_, rfl, (n : Int), rfl, by omega, by omega, fun D hD => ?_⟩
    refine lc_range (lo := 0) (n := n) (fun i H => ∃ acc : List Nat, H D = some (.lst (iv acc)) ∧ But b G H ∧ BagAt K H b c ∧ acc.length = i ∧ ∀ x ∈ acc, x < 2)
      ⟨[], upd_same, But.new hD, hB.same (same_new hD), rfl, fun x hx => by cases hx⟩ ?_ ?_
    · rintro i H hi ⟨acc, eD, s1, B1, la, a2⟩
      refine ⟨rfl, _, rfl, b, c, 2, rfl, B1, by decide, by decide, fun H2 r s2 B2 hr2 => ?_⟩
      obtain ⟨yb, eb⟩ := B1.lst
      obtain ⟨yg, eg⟩ := hB.lst
      have nDb : D ≠ b := (ne_of_none eg hD).symm
      refine ⟨iv acc, s2 D _ nDb eD, ?_, acc ++ [r], ?_, but_mut (s1.trans s2) hD, BagAt.mut hB hD B2, by simp [la], ?_⟩
      · rw [iv_len, la]
        exact small1000 (by omega)
      · rw [upd_same]
        simp [iv]
      · intro x hx
        rcases List.mem_append.mp hx with hx | hx
        · exact a2 x hx
        · have hx : x = r := by simpa using hx
          rw [hx]; exact hr2
    · rintro H ⟨bs, eD, s1, B1, lbs, bs2⟩
      refine ⟨D, _, rfl, .inl ⟨.inl (.inl eD), fun tb ntb => ?_⟩⟩
      have st := same_new (o := .tup (iv bs)) ntb
      have sU : But b G (upd H tb (.tup (iv bs))) := s1.trans (But.same st)
      have BU := B1.same st
      have eAU := sU a _ nab eA
      have hPU := sums_bag hB sU hP
      refine ⟨_, rfl, _, _, rfl, dp_sums (.inl (.inl eAU)) hPU, nice_sumsD ms, dd, ww, ?_⟩
      refine ⟨_, rfl, a, us, ms, rfl, .inl (.inl eAU), hPU, hm, by omega, fun H1 s2 => ?_⟩
      refine ⟨(by show 3 ≤ sizeLine; decide), fun t3 nt3 => ?_⟩
      have s3 := s2.trans (same_new (o := .tup [V.ref tb, V.str (sumsD ms).shown, V.int ((lrank ms : Nat) : Int)]) nt3)
      refine ⟨t3, _, rfl, .inl (.inl upd_same), rfl, _, _, rfl, _, _, rfl, _, _, rfl, rfl, ?_⟩
      have ht3 : (upd H1 t3 (.tup [V.ref tb, V.str (sumsD ms).shown, V.int ((lrank ms : Nat) : Int)])) t3 = some (.tup [V.ref tb, V.str (sumsD ms).shown, V.int ((lrank ms : Nat) : Int)]) := upd_same
      have sB : But b G (upd H1 t3 (.tup [V.ref tb, V.str (sumsD ms).shown, V.int ((lrank ms : Nat) : Int)])) := sU.trans (But.same s3)
      have BB := BU.same s3
      have eAB := s3 _ _ eAU
      have hPB := sums_same s3 hPU
      have tbB : SqT K (upd H1 t3 (.tup [V.ref tb, V.str (sumsD ms).shown, V.int ((lrank ms : Nat) : Int)])) tb (iv bs) := sqT_same s3 (.inl (.inl upd_same))
      generalize upd H1 t3 (.tup [V.ref tb, V.str (sumsD ms).shown, V.int ((lrank ms : Nat) : Int)]) = H0 at sB BB eAB hPB tbB ⊢
      have fin : ∀ H', Same H0 H' → R (.bl true) H' := fun H' s => k H' (sB.trans (But.same s)) (BB.same s)
      have xm : xall ms < 2 ^ 63 := xall_lt hm
      have sAt : ∀ {H'}, Same H0 H' → Sums K H' a us ms := fun s => ⟨.inl (.inl (s _ _ eAB)), sums_same s hPB, hm, h62⟩
      have inb : ∀ m, m < 2 ^ n → ∀ u ∈ bts m, u < bs.length := fun m h u hu => by
        rw [lbs]
        exact bits_below h hu
      have xn : xall ms < 2 ^ n := by
        have go : ∀ (l : List Nat) (x : Nat), x < 2 ^ n → (∀ m ∈ l, m < 2 ^ n) → l.foldl (· ^^^ ·) x < 2 ^ n := by
          intro l
          induction l with
          | nil => intro x hx _; exact hx
          | cons m l ih =>
            intro x hx hl
            exact ih _ (Nat.xor_lt_two_pow hx (hl m List.mem_cons_self)) fun y hy => hl y (List.mem_cons_of_mem _ hy)
        exact go ms 0 (Nat.two_pow_pos n) hn
      refine ⟨_, rfl, a, us, ms, rfl, (sAt (Same.refl _)).1, hPB, hm, by omega, fun H2 vw s4 hvw => ?_⟩
      refine ⟨Nat.zero_le _, fun ld nld => ?_⟩
      have s5 := s4.trans (same_new (o := .lst []) nld)
      have nld0 : H0 ld = none := s4.free nld
      refine ⟨_, _, rfl, ?_⟩
      refine ⟨_, rfl, a, us, rfl, .inl (sAt s5).1, (us.length : Int), rfl, by omega, by omega, for_range (lo := 0) (n := us.length) (fun i σ H => ∃ y9, σ = [some (.ref b), some (.int (n : Int)), some (.ref a), some (.ref tb), some (.str (sumsD ms).shown), some (.int ((lrank ms : Nat) : Int)), none, some vw, some (.ref ld), y9, none, none, none, none, none] ∧ Same H2 H ∧ H ld = some (.lst (iv ((List.range i).filter fun k => decide (k ∉ (elim ms).2.1.map (·.1))))))
        ⟨none, rfl, same_new nld, upd_same⟩ ?_ ?_⟩
      · rintro i σ H hi ⟨y9, rfl, sv, eld⟩
        have s6 := s4.trans sv
        have e0 : (0 : Int) + (i : Int) = (i : Int) := Int.zero_add _
        rw [e0]
        have him : i < ms.length := by omega
        refine ⟨_, rfl, .inl ⟨rfl, _, .inl (.inl eld)⟩, _, rfl, (by show 1 ≤ sizeLine; decide), fun l1 nl1 => ?_⟩
        have s7 := same_new (o := .lst [V.int (i : Int)]) nl1
        have tk1 : cutV us none (some ((i : Int) + 1)) = us.take (i + 1) := cut_take us (i + 1)
        have tk0 : cutV us none (some (i : Int)) = us.take i := cut_take us i
        refine ⟨_, rfl, _, rfl, _, _, rfl, rfl, _, rfl, a, us, rfl, (sAt (s6.trans s7)).1, fun p1 np1 => ?_⟩
        have q8 := same_new (o := .lst (cutV us none (some ((i : Int) + 1)))) np1
        have s8 := s7.trans q8
        refine ⟨p1, us.take (i + 1), ms.take (i + 1), rfl, .inl (.inl (by rw [upd_same, tk1])), paired_take _ (sAt (s6.trans s8)).2.1, fun m hm' => hm m (List.mem_of_mem_take hm'), by rw [List.length_take]; omega, fun H3 s9 => ?_⟩
        have q10 := q8.trans s9
        have s10 := s7.trans q10
        refine ⟨_, rfl, _, rfl, _, rfl, a, us, rfl, (sAt (s6.trans s10)).1, fun p2 np2 => ?_⟩
        have q11 := q10.trans (same_new (o := .lst (cutV us none (some (i : Int)))) np2)
        have s11 := s7.trans q11
        refine ⟨p2, us.take i, ms.take i, rfl, .inl (.inl (by rw [upd_same, tk0])), paired_take _ (sAt (s6.trans s11)).2.1, fun m hm' => hm m (List.mem_of_mem_take hm'), by rw [List.length_take]; omega, fun H4 s12 => ?_⟩
        have q13 := q11.trans s12
        have s13 := s7.trans q13
        have gr := rank_grows hm h62 him
        refine ⟨_, _, rfl, rfl, .inr ⟨_, rfl, l1, (((if i ∈ (elim ms).2.1.map (·.1) then 0 else 1 : Nat) : Nat) : Int), [V.int (i : Int)], rfl, ?_, q13 _ _ upd_same, ?_, ?_, ?_, fun p3 np3 => ?_⟩⟩
        · refine congrArg V.int ?_
          by_cases q : i ∈ (elim ms).2.1.map (·.1)
          · rw [if_pos q] at gr ⊢
            rw [decide_eq_false (by omega)]
            rfl
          · rw [if_neg q] at gr ⊢
            rw [decide_eq_true (by omega)]
            rfl
        · exact Int.le_trans (by decide) (Int.natCast_nonneg _)
        · split <;> decide
        · show 1 * _ ≤ sizeLine
          split <;> decide
        have s14 := s13.trans (same_new (o := .lst (List.replicate (((if i ∈ (elim ms).2.1.map (·.1) then 0 else 1 : Nat) : Nat) : Int).toNat [V.int (i : Int)]).flatten) np3)
        refine ⟨ld, p3, _, _, rfl, rfl, s14 _ _ eld, upd_same, ?_, _, rfl, same_mut (sv.trans s14) nld, ?_⟩
        · rw [iv_len]
          have h1 : ((List.range i).filter fun k => decide (k ∉ (elim ms).2.1.map (·.1))).length ≤ i := Nat.le_trans (List.length_filter_le _ _) (by rw [List.length_range]; exact Nat.le_refl _)
          have h2 : (List.replicate (((if i ∈ (elim ms).2.1.map (·.1) then 0 else 1 : Nat) : Nat) : Int).toNat [V.int (i : Int)]).flatten.length ≤ 1 := by split <;> simp
          exact Nat.le_of_lt (small1000 (by omega))
        · rw [upd_same, List.range_succ, List.filter_append]
          by_cases q : i ∈ (elim ms).2.1.map (·.1)
          · rw [if_pos q, List.filter_cons, if_neg (by simp only [decide_eq_true_eq]; exact fun z => z q)]
            simp [iv]
          · rw [if_neg q, List.filter_cons, if_pos (by simp only [decide_eq_true_eq]; exact q)]
            simp [iv]
      · rintro σ H ⟨y9, rfl, sv, eld⟩
        have s6 := s4.trans sv
        rw [lenP, ← indep_eq] at eld
        refine ⟨_, rfl, a, us, ms, rfl, (sAt s6).1, (sAt s6).2.1, hm, fun H7 pT s7 npT epT => ?_⟩
        have s67 := s6.trans s7
        refine ⟨_, rfl, a, us, ms, rfl, sAt s67, fun H8 s8 => ?_⟩
        have s68 := s67.trans s8
        refine ⟨(by show 2 ≤ sizeLine; decide), fun l1 nl1 => ?_⟩
        rw [← lrank_indep hm h62]
        have s9 := s8.trans (same_new (o := .lst [V.ref pT, V.int ((lrank ms : Nat) : Int)]) nl1)
        refine ⟨_, rfl, _, rfl, (by show 2 ≤ sizeLine; decide), fun l2 nl2 => ?_⟩
        have s10 := s9.trans (same_new (o := .lst [vw, V.int ((lrank ms : Nat) : Int)]) nl2)
        have s610 := s67.trans s10
        have hvw10 : SumV K _ vw (xall ms) := hvw.same (sv.trans (s7.trans s10))
        have r62 : lrank ms ≤ 62 := by
          rw [lrank_indep hm h62, indep_eq]
          exact Nat.le_trans (List.length_filter_le _ _) (by rw [List.length_range]; exact h62)
        obtain ⟨n1, n2, n3⟩ := pairD_facts (xall ms) (lrank ms) (by omega)
        refine ⟨_, _, .list [sumD (xall ms), .int ((lrank ms : Nat) : Int)], rfl, .lst (.inl (.inl (same_new nl2 _ _ upd_same))) (.cons (dp_sum ⟨pT, rfl, sqT_same s10 (.inl (.inl epT))⟩) (.cons (.int _) .nil)), .lst (.inl (.inl upd_same)) (.cons (dp_sum hvw10) (.cons (.int _) .nil)), n1, n2, n3, _, rfl, ?_⟩
        refine iteF ?_
        clear c_law_rank c_together c_rank_of c_law_take
        generalize upd (upd H8 l1 (.lst [V.ref pT, V.int ((lrank ms : Nat) : Int)])) l2 (.lst [vw, V.int ((lrank ms : Nat) : Int)]) = H9 at s10 s610 hvw10 ⊢
        have eld9 := (s7.trans s10) _ _ eld
        have lms : (ms ++ [xall ms]).length = ms.length + 1 := by simp
        have inm : ∀ m ∈ ms ++ [xall ms], m < 2 ^ n := fun m hmm => by
          rcases List.mem_append.mp hmm with hmm | hmm
          · exact hn m hmm
          · have hmm : m = xall ms := by simpa using hmm
            rw [hmm]; exact xn
        refine ⟨_, rfl, _, rfl, (by show 1 ≤ sizeLine; decide), fun l3 nl3 => ?_⟩
        have t1 := same_new (o := .lst [vw]) nl3
        refine ⟨a, l3, us, [vw], rfl, rfl, (s610.trans t1) _ _ eAB, upd_same, ?_, fun l4 nl4 => ?_⟩
        · show us.length + 1 ≤ sizeLine
          exact Nat.le_of_lt (small1000 (by omega))
        have t2 := t1.trans (same_new (o := .lst (us ++ [vw])) nl4)
        have P2 := PySem.Paired.snoc (sAt (s610.trans t2)).2.1 (hvw10.same t2)
        refine ⟨l4, rfl, ⟨_, .inl (.inl upd_same)⟩, fun D1 nD1 => ?_⟩
        have lx : (us ++ [vw]).length = ms.length + 1 := by simp [lenP]
        refine lc_list (K := K) (a := l4) (xs := us ++ [vw]) (fun i H => ∃ acc : List Nat, H D1 = some (.lst (iv acc)) ∧ Same _ H ∧ acc = ((ms ++ [xall ms]).take i).map fun m => wsum m bs % 2)
          ⟨[], upd_same, same_new nD1, by simp⟩ (fun i H _ ⟨_, _, s, _⟩ => s.seq (.inl (.inl upd_same))) ?_ ?_
        · rintro i x H hi ⟨acc, eD, s, eacc⟩
          obtain ⟨m, hm1, hx⟩ := Paired.get P2 hi
          have hil := (List.getElem?_eq_some_iff.mp hm1).1
          refine ⟨rfl, _, rfl, _, rfl, x, tb, m, bs, rfl, hx.same s, sqT_same ((s610.trans t2).trans s) tbB, inb m (inm m (List.mem_of_getElem? hm1)), fun H4 s4' => ?_⟩
          refine ⟨iv acc, s4' _ _ eD, ?_, acc ++ [wsum m bs % 2], ?_, same_mut (s.trans s4') nD1, ?_⟩
          · rw [iv_len, eacc, List.length_map, List.length_take]
            exact small1000 (by omega)
          · rw [upd_same]
            simp [iv]
          · rw [List.take_succ_eq_append_getElem hil, (List.getElem?_eq_some_iff.mp hm1).2, eacc]
            simp
        rintro H10 ⟨acc, eD1, s11, eacc⟩
        rw [lx, ← lms, List.take_length] at eacc
        have t3 := t2.trans s11
        have eD1' : H10 D1 = some (.lst (iv ((ms ++ [xall ms]).map fun m => wsum m bs % 2))) := by rw [eD1, eacc]
        clear eacc eD1 acc
        have s6t := s610.trans t3
        refine ⟨_, rfl, _, rfl, (by show 1 ≤ sizeLine; decide), fun l5 nl5 => ?_⟩
        have u1 := same_new (o := .lst [vw]) nl5
        refine ⟨a, l5, us, [vw], rfl, rfl, (s6t.trans u1) _ _ eAB, upd_same, ?_, fun l6 nl6 => ?_⟩
        · show us.length + 1 ≤ sizeLine
          exact Nat.le_of_lt (small1000 (by omega))
        have u2 := u1.trans (same_new (o := .lst (us ++ [vw])) nl6)
        have P3 := PySem.Paired.snoc (sAt (s6t.trans u2)).2.1 (hvw10.same (t3.trans u2))
        refine ⟨l6, rfl, ⟨_, .inl (.inl upd_same)⟩, fun D2 nD2 => ?_⟩
        refine lc_list (K := K) (a := l6) (xs := us ++ [vw]) (fun i H => ∃ acc : List Nat, H D2 = some (.lst (iv acc)) ∧ Same _ H ∧ acc = ((ms ++ [xall ms]).take i).map fun m => wsum m bs % 2)
          ⟨[], upd_same, same_new nD2, by simp⟩ (fun i H _ ⟨_, _, s, _⟩ => s.seq (.inl (.inl upd_same))) ?_ ?_
        · rintro i x H hi ⟨acc, eD, s, eacc⟩
          obtain ⟨m, hm1, hx⟩ := Paired.get P3 hi
          have hil := (List.getElem?_eq_some_iff.mp hm1).1
          refine ⟨rfl, _, rfl, _, rfl, x, tb, m, bs, rfl, hx.same s, sqT_same ((s6t.trans u2).trans s) tbB, inb m (inm m (List.mem_of_getElem? hm1)), fun H4 s4' => ?_⟩
          refine ⟨iv acc, s4' _ _ eD, ?_, acc ++ [wsum m bs % 2], ?_, same_mut (s.trans s4') nD2, ?_⟩
          · rw [iv_len, eacc, List.length_map, List.length_take]
            exact small1000 (by omega)
          · rw [upd_same]
            simp [iv]
          · rw [List.take_succ_eq_append_getElem hil, (List.getElem?_eq_some_iff.mp hm1).2, eacc]
            simp
        rintro H11 ⟨acc, eD2, s12, eacc⟩
        rw [lx, ← lms, List.take_length] at eacc
        have u3 := u2.trans s12
        have eD2' : H11 D2 = some (.lst (iv ((ms ++ [xall ms]).map fun m => wsum m bs % 2))) := by rw [eD2, eacc]
        clear eacc eD2 acc
        have w2 : ∀ x ∈ (ms ++ [xall ms]).map (fun m => wsum m bs % 2), x < 10 ^ 9 := fun x hx => by
          obtain ⟨m, _, rfl⟩ := List.mem_map.mp hx
          omega
        obtain ⟨n4, n5, n6⟩ := ivD_facts w2 (by rw [List.length_map]; omega)
        refine ⟨_, rfl, _, _, _, rfl, dp_iv (.inl (.inl eD2')), dp_iv (.inl (.inl (u3 _ _ eD1'))), n4, n5, n6, _, rfl, ?_⟩
        refine iteF ?_
        have s6u := s6t.trans u3
        refine ⟨_, rfl, a, rfl, ⟨us, (sAt s6u).1⟩, fun D3 nD3 => ?_⟩
        have P4 := (sAt s6u).2.1
        refine lc_list (K := K) (a := a) (xs := us) (fun i H => ∃ acc : List Nat, H D3 = some (.lst (iv acc)) ∧ Same _ H ∧ acc = ((ms).take i).map fun m => wsum m bs % 2)
          ⟨[], upd_same, same_new nD3, by simp⟩ (fun i H _ ⟨_, _, s, _⟩ => s.seq (sAt s6u).1) ?_ ?_
        · rintro i x H hi ⟨acc, eD, s, eacc⟩
          obtain ⟨m, hm1, hx⟩ := Paired.get P4 hi
          have hil := (List.getElem?_eq_some_iff.mp hm1).1
          refine ⟨rfl, _, rfl, _, rfl, x, tb, m, bs, rfl, hx.same s, sqT_same (s6u.trans s) tbB, inb m (hn m (List.mem_of_getElem? hm1)), fun H4 s4' => ?_⟩
          refine ⟨iv acc, s4' _ _ eD, ?_, acc ++ [wsum m bs % 2], ?_, same_mut (s.trans s4') nD3, ?_⟩
          · rw [iv_len, eacc, List.length_map, List.length_take]
            exact small1000 (by omega)
          · rw [upd_same]
            simp [iv]
          · rw [List.take_succ_eq_append_getElem hil, (List.getElem?_eq_some_iff.mp hm1).2, eacc]
            simp
        rintro H12 ⟨acc, eD3, s13, eacc⟩
        rw [lenP, List.take_length] at eacc
        have v1 := u3.trans s13
        rw [iv_ints] at eD3
        refine ⟨D3, _, rfl, .inl (.inl eD3), ?_⟩
        rw [sum_nat, eacc]
        clear eD3 eacc
        refine .inl ⟨_, rfl, _, _, rfl, rfl, (by show (0 : Int) < 2; decide), ?_⟩
        have s6v := s6t.trans v1
        refine ⟨_, rfl, _, rfl, vw, tb, xall ms, bs, rfl, hvw10.same (t3.trans v1), sqT_same s6v tbB, inb _ xn, fun H13 s14 => ?_⟩
        have v2 := v1.trans s14
        refine ⟨rfl, _, rfl, ?_⟩
        have pe : V.int ((((ms.map fun m => wsum m bs % 2).sum : Nat) : Int) % 2) = V.int ((wsum (xall ms) bs % 2 : Nat) : Int) := congrArg V.int (by rw [← wsum_all]; exact (Int.natCast_emod _ _).symm)
        refine ite2 (fun hc => ?_) (fun _ => ?_)
        · have hc : (!decide (V.int ((((ms.map fun m => wsum m bs % 2).sum : Nat) : Int) % 2) = V.int ((wsum (xall ms) bs % 2 : Nat) : Int))) = true := hc
          rw [decide_eq_true pe] at hc
          cases hc
        have s6w := s6t.trans v2
        refine ⟨_, rfl, a, us, ms, rfl, sAt s6w, fun H14 lot s15 hlot => ?_⟩
        have v3 := v2.trans s15
        have s6x := s6t.trans v3
        refine ⟨_, rfl, a, us, rfl, .inl (sAt s6x).1, fun l7 nl7 => ?_⟩
        have v4 := same_new (o := .lst us) nl7
        refine ⟨l7, us, ms, rfl, ⟨.inl (.inl upd_same), (sAt (s6x.trans v4)).2⟩, fun H15 lot2 s16 hlot2 => ?_⟩
        have v5 := v4.trans s16
        have optSame : ∀ {H H' : Hp} {v : V} {o : Option Nat}, Same H H' → OptSum K H v o → OptSum K H' v o := fun {H H' v o} s h => by
          cases o with
          | none => exact h
          | some u => exact SumV.same s h
        have hlotA := optSame v5 hlot
        refine ⟨_, rfl, lot2, lot, optD (lotOf ms), rfl, dp_opt hlot2, dp_opt hlotA, nice_optD _, Nat.le_trans (depth_optD _) (by decide), weight_optD _, _, rfl, ?_⟩
        refine iteF ?_
        have s6y := s6x.trans v5
        have eld15 := (t3.trans (v3.trans v5)) _ _ eld9
        obtain ⟨lf1, lf2⟩ := lot_facts hm h62
        clear hlot2 hlot pe n1 n2 n3 n4 n5 n6 w2 P4 P3 P2 eD2' eD1' inm tbB inb c_worth_of c_law_worth
        refine ⟨fun σ' H' => σ' = [some (.ref b), some (.int (n : Int)), some (.ref a), some (.ref tb), some (.str (sumsD ms).shown), some (.int ((lrank ms : Nat) : Int)), none, some vw, some (.ref ld), y9, some (.ref D1), none, some lot, none, none] ∧ Same H15 H', ?_, ?_⟩
        · cases q : lotOf ms with
          | none =>
            rw [q] at hlotA
            have hlotA : lot = .non := hlotA
            subst hlotA
            have e5 : V.int ((lrank ms : Nat) : Int) = V.int ((us.length : Nat) : Int) := by rw [lf1 q, lenP]
            refine ⟨_, rfl, rfl, _, rfl, ?_⟩
            rw [decide_eq_true rfl]
            refine iteT ?_
            refine ⟨_, rfl, _, rfl, a, us, rfl, .inl (sAt s6y).1, rfl, _, rfl, ?_⟩
            rw [decide_eq_true e5]
            refine iteF ⟨_, rfl, rfl, _, rfl, ?_⟩
            rw [decide_eq_true rfl]
            refine iteF (iteF ⟨rfl, Same.refl _⟩)
          | some u =>
            rw [q] at hlotA
            obtain ⟨tp, rfl, htp⟩ : SumV K H15 lot u := hlotA
            obtain ⟨u0, ul, pk⟩ := lf2 u q
            have u63 : u < 2 ^ 63 := Nat.lt_of_lt_of_le ul (Nat.pow_le_pow_right (by decide) (by omega))
            refine ⟨_, rfl, rfl, _, rfl, ?_⟩
            rw [decide_eq_false (by intro z; cases z)]
            refine iteF (iteF ⟨_, rfl, rfl, _, rfl, ?_⟩)
            rw [decide_eq_false (by intro z; cases z)]
            refine iteT ⟨_, rfl, Nat.zero_le _, fun e ne => ?_⟩
            have v6 := same_new (o := .tup []) ne
            refine ⟨_, _, dp_sum ⟨tp, rfl, sqT_same v6 htp⟩, dp_zero (.inl (.inl upd_same)), shaped_sumD u, shaped_sumD 0, _, rfl, ?_⟩
            refine ite2 (fun hc => absurd (eqv_sumD_iff u63 (by decide) hc) u0) (fun _ => ?_)
            refine ⟨_, rfl, a, us, rfl, .inl (sAt (s6y.trans v6)).1, _, rfl, us.length, u, _, rfl, ⟨tp, rfl, sqT_same v6 htp⟩, by rw [lenP]; exact ul, by omega, fun H17 v7 => ?_⟩
            refine ⟨_, rfl, ?_⟩
            refine iteF ⟨rfl, v6.trans v7⟩
        · rintro σ' H16 ⟨rfl, s17⟩
          have s6z := s6y.trans s17
          have eld16 := s17 _ _ eld15
          refine ⟨fun σ' H' => σ' = [some (.ref b), some (.int (n : Int)), some (.ref a), some (.ref tb), some (.str (sumsD ms).shown), some (.int ((lrank ms : Nat) : Int)), none, some vw, some (.ref ld), y9, some (.ref D1), none, some lot, none, none] ∧ Same H16 H', ?_, ?_⟩
          · cases q : lotOf ms with
            | none =>
              rw [q] at hlotA
              have hlotA : lot = .non := hlotA
              subst hlotA
              refine ⟨_, rfl, rfl, _, rfl, ?_⟩
              rw [decide_eq_true rfl]
              refine iteF (iteF ⟨rfl, Same.refl _⟩)
            | some u =>
              rw [q] at hlotA
              obtain ⟨tp, rfl, htp0⟩ : SumV K H15 lot u := hlotA
              have htp := sqT_same s17 htp0
              obtain ⟨u0, ul, pk⟩ := lf2 u q
              refine ⟨_, rfl, rfl, _, rfl, ?_⟩
              rw [decide_eq_false (by intro z; cases z)]
              refine iteT ⟨_, rfl, tp, rfl, ⟨_, htp⟩, fun D hD => ?_⟩
              refine lc_tup (K := K) (a := tp) (xs := iv (bts u)) (fun j H => ∃ zs, H D = some (.lst zs) ∧ Same H16 H ∧ Paired (SumV K H) zs (((bts u).take j).map fun k => ms.getD k 0))
                ⟨[], upd_same, same_new hD, .nil⟩ (fun j H _ ⟨_, _, s, _⟩ => sqT_same s htp) ?_ ?_
              · rintro j x H hj ⟨zs, eD, s7', hz⟩
                obtain ⟨g, hu1, rfl⟩ := iv_get hj
                have hjl := (List.getElem?_eq_some_iff.mp hu1).1
                have hub : g < ms.length := bits_below ul (List.mem_of_getElem? hu1)
                have e1 : us[g]? = some (us[g]'(by omega)) := List.getElem?_eq_getElem (by omega)
                obtain ⟨m2, hm2, hx2⟩ := Paired.get hPB e1
                have gd : ms.getD g 0 = m2 := by rw [List.getD_eq_getElem?_getD, hm2]; rfl
                have lz : zs.length = j := by
                  have z := Paired.len hz
                  rw [List.length_map, List.length_take] at z
                  omega
                have lc := bts_len u
                refine ⟨rfl, _, rfl, _, rfl, a, us, _, _, rfl, rfl, (sAt (s6z.trans s7')).1, atI_nat e1, zs, eD, small1000 (by omega), zs ++ [us[g]'(by omega)], upd_same, same_mut s7' hD, ?_⟩
                have tk : ((bts u).take (j + 1)).map (fun k => ms.getD k 0) = ((bts u).take j).map (fun k => ms.getD k 0) ++ [m2] := by
                  rw [List.take_succ_eq_append_getElem hjl, (List.getElem?_eq_some_iff.mp hu1).2, List.map_append]
                  show _ ++ [ms.getD g 0] = _
                  rw [gd]
                rw [tk]
                exact PySem.Paired.snoc (sums_but eD But.at_ hz) ((hx2.same (s6z.trans s7')).but eD But.at_)
              · rintro H ⟨zs, eD, s7', hz⟩
                rw [iv_len, List.take_length] at hz
                refine ⟨D, zs, _, rfl, .inl (.inl eD), hz, ?_, ?_, fun H8 v8 s8' hv8 => ?_⟩
                · intro x hx
                  obtain ⟨g, _, rfl⟩ := List.mem_map.mp hx
                  exact getD_lt hm g
                · rw [List.length_map]
                  have := bts_len u
                  omega
                rw [xall_pick, pk] at hv8
                refine ⟨Nat.zero_le _, fun e ne => ?_⟩
                have v9 := same_new (o := .tup []) ne
                refine ⟨_, _, dp_sum (hv8.same v9), dp_zero (.inl (.inl upd_same)), shaped_sumD 0, shaped_sumD 0, _, rfl, ?_⟩
                rw [eqv_sumD 0]
                refine iteF ⟨rfl, (s7'.trans s8').trans v9⟩
          · rintro σ' H17 ⟨rfl, s18⟩
            have s6q := s6z.trans s18
            have eld17 := s18 _ _ eld16
            refine ⟨2, rfl, by decide, by decide, for_range (lo := 0) (n := 2) (fun i σ H => ∃ y13 y14, σ = [some (.ref b), some (.int (n : Int)), some (.ref a), some (.ref tb), some (.str (sumsD ms).shown), some (.int ((lrank ms : Nat) : Int)), none, some vw, some (.ref ld), y9, some (.ref D1), none, some lot, y13, y14] ∧ Same H17 H)
              ⟨_, _, rfl, Same.refl _⟩ ?_ ?_⟩
            · rintro i σ H hi ⟨y13, y14, rfl, s19⟩
              refine ⟨_, rfl, a, us, ms, rfl, sAt (s6q.trans s19), fun H18 tl s20 ntl etl => ?_⟩
              have s1920 := s19.trans s20
              have lin : ∀ x ∈ indep ms, x < 10 ^ 9 := fun x hx => by
                rw [indep_eq] at hx
                have := List.mem_range.mp (List.mem_filter.mp hx).1
                omega
              obtain ⟨n1, n2, n3⟩ := ivD_facts lin (by rw [← lrank_indep hm h62]; omega)
              refine ⟨_, rfl, _, rfl, _, _, _, rfl, dp_iv (.inl (.inl etl)), dp_iv (.inl (.inl (s1920 _ _ eld17))), n1, n2, n3, _, rfl, ?_⟩
              refine iteF ⟨_, rfl, .inl ⟨rfl, _, .inl (.inl etl)⟩, tl, iv (indep ms), V.non, rfl, rfl, etl, ?_, _, _, rfl, same_mut s1920 (s19.free ntl)⟩
              rw [iv_len, ← lrank_indep hm h62]
              exact small1000 (by omega)
            · rintro σ H ⟨y13, y14, rfl, s19⟩
              have sEnd := s6q.trans s19
              refine ⟨_, rfl, _, _, rfl, dp_sums (sAt sEnd).1 (sAt sEnd).2.1, nice_sumsD ms, dd, ww, _, rfl, rfl, ?_⟩
              rw [decide_eq_true rfl]
              exact fin _ sEnd
end
end Es
set_option Elab.async false
set_option linter.all false
set_option maxRecDepth 100000
set_option maxHeartbeats 4000000
namespace Es
open PySem PySem.Spec PyProof.Rows L2
section
variable {P : Program} {w : World} {K : PySem.W.Frag} {mg : Str → Option Value} {base : Heap}
theorem ok_used_by {f : Addr} {fd : FuncData} (F : Fun K "used_by" "used_by" s_used_by f fd) (T : Txt mg) (c_rest : CalleeOf P w K mg base 2 "_rest" ["basis", "row", "used"] (sp_rest K)) : FnG P w K mg base 3 f fd ["basis", "row"] (sp_used_by K) := by
  refine okG F sc_used_by (fun h => ?_) (fun cdv B out t0 G ys R E hr hg h => ?_)
  · obtain ⟨d, k1, ms, vr, m, rfl, _⟩ := h
    rfl
  · obtain ⟨d1, k1, ms, vr, m, rfl, e1, D1, h63, h62, hvr, hm, k⟩ := h
    refine ⟨_, (pss_cons
        (ps_asg (pe_callC c_rest (hr.mono (by decide)) hg (by rfl) (pa_cons (pv 0) (pa_cons (pv 1) (pa_cons (pe_tup pa_nil) pa_nil)))) (pg_tup (by rfl) (pgs_cons (pg_name (i := 2) sc_used_by.nd rfl (.inl rfl)) (pgs_cons (pg_name (i := 3) sc_used_by.nd rfl (.inl rfl)) pgs_nil))))
        (pss_one
        (ps_ret (pe_ifExp (pt_truth (pv 2) (by intro _; rfl)) pe_non (pv 3))))), ?_⟩
    have O := elim_ok ms h63 h62
    have p63 : 2 ^ ms.length ≤ 2 ^ 63 := Nat.pow_le_pow_right (by decide) (by omega)
    refine ⟨_, rfl, _, rfl, Nat.zero_le _, fun t ht => ?_⟩
    have st := same_new (o := .tup []) ht
    refine ⟨d1, k1, (elim ms).1, vr, .ref t, m, 0, rfl, st _ _ e1, D1.imp fun _ _ z => z.same st, ?_, hvr.same st, ⟨t, rfl, .inl (.inl ?_)⟩, hm, by decide, ?_⟩
    · intro b hb
      obtain ⟨b1, b2, b3, b4⟩ := O.bas.ok b hb
      exact ⟨b1, b2, Nat.lt_of_lt_of_le b3 p63⟩
    · rw [bts_zero]
      exact upd_same
    intro H2 q r v s2 nq eq hr2 hv2
    refine ⟨q, _, rfl, .inl (.inl eq), rfl, _, _, rfl, _, _, rfl, rfl, ?_⟩
    obtain ⟨rp, rfl, hrp⟩ := hr2
    refine ⟨_, rfl, _, .inr (.inl ⟨_, hrp, rfl⟩), ?_⟩
    rw [emp_low]
    have sG := st.trans s2
    cases e : low (rest 64 (elim ms).1 m 0).1 with
    | some h0 =>
      refine iteT ?_
      refine k _ _ sG ?_
      unfold sumBy
      rw [if_neg fun z => by rw [z] at e; cases e]
      rfl
    | none =>
      refine iteF ?_
      refine ⟨_, rfl, k _ _ sG ?_⟩
      have h1 : (rest 64 (elim ms).1 m 0).1 < 2 ^ 63 := (rest_spec O.bas 64 m 0 hm fun h _ => by omega).1
      unfold sumBy
      rw [if_pos ((low_none h1).mp e)]
      exact hv2
end
end Es
set_option Elab.async false
set_option linter.all false
set_option maxRecDepth 100000
set_option maxHeartbeats 4000000
namespace Es
open PySem PySem.Spec PyProof.Rows L2
section
variable {P : Program} {w : World} {K : PySem.W.Frag} {mg : Str → Option Value} {base : Heap}
theorem ok_basis_of {f : Addr} {fd : FuncData} (F : Fun K "basis_of" "basis_of" s_basis_of f fd) (T : Txt mg) (c_eliminated : CalleeOf P w K mg base 3 "_eliminated" ["sums"] (sp_eliminated K)) : FnG P w K mg base 4 f fd ["sums"] (sp_basis_of K) := by
  refine okG F sc_basis_of (fun h => ?_) (fun cdv B out t0 G ys R E hr hg h => ?_)
  · obtain ⟨a, us, ms, rfl, _⟩ := h
    rfl
  · obtain ⟨a, us, ms, rfl, hS, k⟩ := h
    refine ⟨_, (pss_cons
        (ps_asg (pe_callC c_eliminated (hr.mono (by decide)) hg (by rfl) (pa_cons (pv 0) pa_nil)) (pg_tup (by rfl) (pgs_cons (pg_name (i := 1) sc_basis_of.nd rfl (.inl rfl)) (pgs_cons (pg_name (i := 2) sc_basis_of.nd rfl (.inl rfl)) pgs_nil))))
        (pss_one
        (ps_ret (pv 1)))), ?_⟩
    refine ⟨_, rfl, a, us, ms, rfl, hS, fun H1 p d1 d2 k1 k2 s1 np ep n1 n2 e1 e2 D1 D2 => ?_⟩
    refine ⟨p, _, rfl, .inl (.inl ep), rfl, _, _, rfl, _, _, rfl, rfl, ?_⟩
    exact ⟨_, rfl, k _ d1 k1 s1 n1 e1 D1⟩
end
end Es
set_option Elab.async false
set_option linter.all false
set_option maxRecDepth 100000
set_option maxHeartbeats 4000000
namespace Es
open PySem PySem.Spec PyProof.Rows L2
section
variable {P : Program} {w : World} {K : PySem.W.Frag} {mg : Str → Option Value} {base : Heap}
theorem ok_sum_by {f : Addr} {fd : FuncData} (F : Fun K "sum_by" "sum_by" s_sum_by f fd) (T : Txt mg) (c_used_by : CalleeOf P w K mg base 3 "used_by" ["basis", "row"] (sp_used_by K)) (c_basis_of : CalleeOf P w K mg base 4 "basis_of" ["sums"] (sp_basis_of K)) : FnG P w K mg base 5 f fd ["sums", "row"] (sp_sum_by K) := by
  refine okG F sc_sum_by (fun h => ?_) (fun cdv B out t0 G ys R E hr hg h => ?_)
  · obtain ⟨a, us, ms, vr, m, rfl, _⟩ := h
    rfl
  · obtain ⟨a, us, ms, vr, m, rfl, hS, hvr, hm, k⟩ := h
    refine ⟨_, (pss_one
        (ps_ret (pe_callC c_used_by (hr.mono (by decide)) hg (by rfl) (pa_cons (pe_callC c_basis_of (hr.mono (by decide)) hg (by rfl) (pa_cons (pv 0) pa_nil)) (pa_cons (pv 1) pa_nil))))), ?_⟩
    refine ⟨_, rfl, a, us, ms, rfl, hS, fun H1 d k1 s1 nd ed D1 => ?_⟩
    exact ⟨_, rfl, d, k1, ms, vr, m, rfl, ed, D1, hS.2.2.1, hS.2.2.2, hvr.same s1, hm, fun H2 v s2 ov => k _ _ (s1.trans s2) ov⟩
end
end Es
set_option Elab.async false
set_option linter.all false
set_option maxRecDepth 100000
set_option maxHeartbeats 4000000
namespace Es
open PySem PySem.Spec PyProof.Rows L2
section
variable {P : Program} {w : World} {K : PySem.W.Frag} {mg : Str → Option Value} {base : Heap}
theorem ok_law_is_sum_right {f : Addr} {fd : FuncData} (F : Fun K "_law_is_sum_right" "_law_is_sum_right" s_law_is_sum_right f fd) (T : Txt mg) (c_law_rank : CalleeOf P w K mg base 3 "_law_rank" ["rows"] (sp_law_rank K)) (c_sum_by : CalleeOf P w K mg base 5 "sum_by" ["sums", "row"] (sp_sum_by K)) (c_law_alike : CalleeOf P w K mg base 1 "_law_alike" ["found", "due"] (sp_law_alike K)) (c_law_all_of : CalleeOf P w K mg base 1 "_law_all_of" ["sums"] (sp_law_all_of K)) (c_law_are_some : CalleeOf P w K mg base 4 "_law_are_some" ["many", "thing"] (sp_law_are_some K)) : FnG P w K mg base 6 f fd ["sums", "row"] (sp_law_is_sum_right K) := by
  refine okG F sc_law_is_sum_right (fun h => ?_) (fun cdv B out t0 G ys R E hr hg h => ?_)
  · obtain ⟨a, us, ms, v, m, rfl, _⟩ := h
    rfl
  · obtain ⟨a, us, ms, v, m, rfl, hS, hv, hm, k⟩ := h
    refine ⟨_, (pss_cons
        (ps_par3 (i := 2) (j := 3) (l := 4) rfl sc_law_is_sum_right.nd rfl rfl rfl (by decide) (by decide) (by decide) rfl rfl rfl (pa_cons (pe_callB (cr_repr hg hr.units) (by rfl) T.z_repr (by decide +kernel) (pa_cons (pv 0) pa_nil)) (pa_cons (pe_callC c_sum_by (hr.mono (by decide)) hg (by rfl) (pa_cons (pv 0) (pa_cons (pv 1) pa_nil))) (pa_cons (pe_callC c_law_rank (hr.mono (by decide)) hg (by rfl) (pa_cons (pv 0) pa_nil)) pa_nil))) (by rfl))
        (pss_cons
        (ps_if (PW.pt (pw_or (pt_cmpR op_ne (pe_callB (cr_repr hg hr.units) (by rfl) T.z_repr (by decide +kernel) (pa_cons (pv 0) pa_nil)) (pv 2) (nomark _)) (pw_or1 (pt_not (pt_val (pe_callC c_law_alike (hr.mono (by decide)) hg (by rfl) (pa_cons (pe_callC c_sum_by (hr.mono (by decide)) hg (by rfl) (pa_cons (pe_callTy call_list_of (by rfl) T.z_list (by decide +kernel) (pa_cons (pv 0) pa_nil)) (pa_cons (pv 1) pa_nil))) (pa_cons (pv 3) pa_nil))))))))
        (pss_one
          (ps_ret pe_bl))
        pss_nil)
        (pss_cons
        (ps_if (pt_cmpR op_isN (pv 3) pe_non (nomark _))
        (pss_one
          (ps_ret (pe_cmpR op_gt (pe_callC c_law_rank (hr.mono (by decide)) hg (by rfl) (pa_cons (pe_op op_cat (pe_callTy call_list_of (by rfl) T.z_list (by decide +kernel) (pa_cons (pv 0) pa_nil)) (pe_lst (pa_cons (pv 1) pa_nil))) pa_nil)) (pv 4) (nomark _))))
        pss_nil)
        (Evl.pss_cut
        (ps_if (PW.pt (pw_and (pt_cmpR (op_eqD hr.units) (pv 1) (pe_tup pa_nil) (nomark _)) (pw_and1 (pt_cmpR (op_neD hr.units) (pv 3) (pe_tup pa_nil) (nomark _)))))
        (pss_one
          (ps_ret pe_bl))
        pss_nil)
        (pss_one
        (ps_ret (pe_and (pe_callC c_law_are_some (hr.mono (by decide)) hg (by rfl) (pa_cons (pe_callB call_len_seq (by rfl) T.z_len (by decide +kernel) (pa_cons (pv 0) pa_nil)) (pa_cons (pv 3) pa_nil))) (pe_one (pe_cmpR (op_eqD hr.units) (pe_callC c_law_all_of (hr.mono (by decide)) hg (by rfl) (pa_cons (pe_lc (own := [("k", 5)]) rfl sc_law_is_sum_right.nd (pi_tup (pv 3)) (blkOk_by (own := [("k", 5)]) (N := ["sums", "row", "kept", "told", "rank", "k"]) (sc := defScope s_law_is_sum_right) (by decide +kernel)) (fun _ _ _ _ _ => (pg_name (i := 5) sc_law_is_sum_right.nd rfl (.inl rfl))) (fun _ _ _ _ _ => pts_nil) (fun _ _ _ _ _ => (pe_ix (r := rIxL K) ix_list (pv 0) (pv 5) (fun _ _ => rfl)))) pa_nil)) (pv 1) (nomark _)))))))))), ?_⟩
    have lenP : us.length = ms.length := Paired.len hS.2.1
    have h62 := hS.2.2.2
    have sums_at : ∀ H', Same G H' → Sums K H' a us ms := fun H' s => ⟨s.seq hS.1, sums_same s hS.2.1, hS.2.2⟩
    have dS : ∀ H', Same G H' → Dp K H' (.ref a) (sumsD ms) := fun H' s => dp_sums (s.seq hS.1) (sums_same s hS.2.1)
    have dd : (sumsD ms).depth ≤ 40 := Nat.le_trans (depth_sumsD ms) (by decide)
    have ww : (sumsD ms).weight ≤ 2 ^ 20 := weight_sumsD (by omega)
    have O := elim_ok ms hS.2.2.1 h62
    refine ⟨_, rfl, _, _, rfl, dS G (Same.refl _), nice_sumsD ms, dd, ww, ?_⟩
    refine ⟨_, rfl, _, rfl, a, us, ms, v, m, rfl, hS, hv, hm, fun H1 t s1 ht => ?_⟩
    refine ⟨_, rfl, a, us, ms, rfl, s1.seq hS.1, sums_same s1 hS.2.1, hS.2.2.1, by omega, fun H2 s2 => ?_⟩
    have s02 := s1.trans s2
    refine ⟨_, _, _, rfl, ?_⟩
    refine ⟨_, rfl, _, _, rfl, dS H2 s02, nice_sumsD ms, dd, ww, _, rfl, rfl, _, rfl, ?_⟩
    rw [decide_eq_true rfl]
    refine iteF ?_
    refine ⟨_, rfl, a, us, rfl, .inl (s02.seq hS.1), fun l nl => ?_⟩
    have s3 := s02.trans (same_new (o := .lst us) nl)
    refine ⟨_, rfl, l, us, ms, v, m, rfl, ⟨.inl (.inl upd_same), sums_same s3 hS.2.1, hS.2.2⟩, hv.same s3, hm, fun H4 t2 s4 ht2 => ?_⟩
    have s34 := s3.trans s4
    have ht4 : OptSum K H4 t (sumBy ms m) := by
      have sl := (s2.trans (same_new (o := .lst us) nl)).trans s4
      cases q : sumBy ms m with
      | none =>
        rw [q] at ht
        exact ht
      | some u =>
        rw [q] at ht
        exact SumV.same sl ht
    refine ⟨_, rfl, t2, t, optD (sumBy ms m), rfl, dp_opt ht2, dp_opt ht4, nice_optD _, Nat.le_trans (depth_optD _) (by decide), weight_optD _, _, rfl, ?_⟩
    refine iteF ?_
    have hcase : sumBy ms m = (if (rest 64 (elim ms).1 m 0).1 = 0 then some (rest 64 (elim ms).1 m 0).2 else none) := rfl
    obtain ⟨r1, ⟨c, c1, c2, c3⟩, _⟩ := rest_spec O.bas 64 m 0 hm fun h _ => by omega
    by_cases z0 : (rest 64 (elim ms).1 m 0).1 = 0
    ·
      rw [if_pos z0] at hcase
      rw [hcase] at ht4
      have c2 : (rest 64 (elim ms).1 m 0).2 = c := by rw [c2, Nat.zero_xor]
      rw [c2] at ht4 hcase
      have pk : pick ms c = m := by
        rw [z0] at c3
        have := congrArg (· ^^^ pick ms c) c3
        simp only [Nat.zero_xor] at this
        rw [xx] at this
        exact this
      have c63 : c < 2 ^ 63 := Nat.lt_of_lt_of_le c1 (Nat.pow_le_pow_right (by decide) (by omega))
      obtain ⟨tp, rfl, htp⟩ : SumV K H4 t c := ht4
      refine ⟨_, rfl, rfl, _, rfl, ?_⟩
      rw [decide_eq_false (by intro z; cases z)]
      refine iteF ?_
      refine ⟨fun σ' H' => σ' = [some (.ref a), some v, some (.str (sumsD ms).shown), some (.ref tp), some (.int ((lrank ms : Nat) : Int)), none] ∧ Same H4 H', ?_, ?_⟩
      · refine ⟨_, rfl, Nat.zero_le _, fun e ne => ?_⟩
        have s5 := same_new (o := .tup []) ne
        refine ⟨_, _, dp_sum (hv.same (s34.trans s5)), dp_zero (.inl (.inl upd_same)), shaped_sumD m, shaped_sumD 0, _, rfl, ?_⟩
        refine ite2 (fun hc => ?_) (fun _ => iteF ⟨rfl, s5⟩)
        have m0 : m = 0 := eqv_sumD_iff hm (by decide) hc
        have c0 : c = 0 := by
          have : (rest 64 (elim ms).1 0 0).2 = 0 := by simp [rest, low, bts_zero]
          rw [m0] at c2
          omega
        refine ⟨_, rfl, Nat.zero_le _, fun e2 ne2 => ?_⟩
        have s6 := s5.trans (same_new (o := .tup []) ne2)
        refine ⟨_, _, dp_sum ⟨tp, rfl, sqT_same s6 htp⟩, dp_zero (.inl (.inl upd_same)), shaped_sumD c, shaped_sumD 0, _, rfl, ?_⟩
        rw [c0, eqv_sumD 0]
        exact iteF ⟨rfl, s6⟩
      · rintro σ' H5 ⟨rfl, s5⟩
        have s45 := s34.trans s5
        refine ⟨_, rfl, a, us, rfl, .inl (s45.seq hS.1), _, rfl, us.length, c, _, rfl, ⟨tp, rfl, sqT_same s5 htp⟩, by rw [lenP]; exact c1, by omega, fun H6 s6 => ?_⟩
        refine ⟨_, rfl, iteT ?_⟩
        have s46 := s5.trans s6
        have sG6 := s34.trans s46
        refine ⟨_, rfl, tp, rfl, ⟨_, sqT_same s46 htp⟩, fun D hD => ?_⟩
        refine lc_tup (K := K) (a := tp) (xs := iv (bts c)) (fun j H => ∃ zs, H D = some (.lst zs) ∧ Same H6 H ∧ Paired (SumV K H) zs (((bts c).take j).map fun k => ms.getD k 0))
          ⟨[], upd_same, same_new hD, .nil⟩ (fun j H _ ⟨_, _, s, _⟩ => sqT_same (s46.trans s) htp) ?_ ?_
        · rintro j x H hj ⟨zs, eD, s7, hz⟩
          obtain ⟨u, hu1, rfl⟩ := iv_get hj
          have hjl := (List.getElem?_eq_some_iff.mp hu1).1
          have hub : u < ms.length := bits_below c1 (List.mem_of_getElem? hu1)
          have e1 : us[u]? = some (us[u]'(by omega)) := List.getElem?_eq_getElem (by omega)
          obtain ⟨m2, hm2, hx2⟩ := Paired.get hS.2.1 e1
          have gd : ms.getD u 0 = m2 := by rw [List.getD_eq_getElem?_getD, hm2]; rfl
          have lz : zs.length = j := by
            have z := Paired.len hz
            rw [List.length_map, List.length_take] at z
            omega
          have lc := bts_len c
          refine ⟨rfl, _, rfl, _, rfl, a, us, _, _, rfl, rfl, (sG6.trans s7).seq hS.1, atI_nat e1, zs, eD, small1000 (by omega), zs ++ [us[u]'(by omega)], upd_same, same_mut s7 hD, ?_⟩
          have tk : ((bts c).take (j + 1)).map (fun k => ms.getD k 0) = ((bts c).take j).map (fun k => ms.getD k 0) ++ [m2] := by
            rw [List.take_succ_eq_append_getElem hjl, (List.getElem?_eq_some_iff.mp hu1).2, List.map_append]
            show _ ++ [ms.getD u 0] = _
            rw [gd]
          rw [tk]
          exact PySem.Paired.snoc (sums_but eD But.at_ hz) ((hx2.same (sG6.trans s7)).but eD But.at_)
        · rintro H ⟨zs, eD, s7, hz⟩
          rw [iv_len, List.take_length] at hz
          refine ⟨D, zs, _, rfl, .inl (.inl eD), hz, ?_, ?_, fun H8 v8 s8 hv8 => ?_⟩
          · intro x hx
            obtain ⟨u, _, rfl⟩ := List.mem_map.mp hx
            exact getD_lt hS.2.2.1 u
          · rw [List.length_map]
            have := bts_len c
            omega
          rw [xall_pick, pk] at hv8
          refine ⟨_, rfl, _, _, dp_sum hv8, dp_sum (hv.same ((sG6.trans s7).trans s8)), shaped_sumD m, shaped_sumD m, ?_⟩
          rw [eqv_sumD]
          exact k _ ((sG6.trans s7).trans s8)
    ·
      rw [if_neg z0] at hcase
      rw [hcase] at ht4
      have ht4 : t = .non := ht4
      subst ht4
      refine ⟨_, rfl, rfl, _, rfl, ?_⟩
      rw [decide_eq_true rfl]
      refine iteT ?_
      refine ⟨_, rfl, a, us, rfl, .inl (s34.seq hS.1), fun l2 nl2 => ?_⟩
      have s5 := s34.trans (same_new (o := .lst us) nl2)
      refine ⟨_, rfl, (by show 1 ≤ sizeLine; decide), fun l3 nl3 => ?_⟩
      have s6 := s5.trans (same_new (o := .lst [v]) nl3)
      refine ⟨l2, l3, us, [v], rfl, rfl, same_new nl3 _ _ upd_same, upd_same, ?_, fun l4 nl4 => ?_⟩
      · show us.length + 1 ≤ sizeLine
        exact Nat.le_trans (show us.length + 1 ≤ 100 by omega) (by decide)
      have s7 := s6.trans (same_new (o := .lst (us ++ [v])) nl4)
      refine ⟨l4, us ++ [v], ms ++ [m], rfl, .inl (.inl upd_same), PySem.Paired.snoc (sums_same s7 hS.2.1) (hv.same s7), ?_, by simp; omega, fun H8 s8 => ?_⟩
      · intro x hx
        rcases List.mem_append.mp hx with hx | hx
        · exact hS.2.2.1 x hx
        · have hx : x = m := by simpa using hx
          rw [hx]; exact hm
      · refine ⟨_, rfl, _, _, rfl, rfl, ?_⟩
        have ns : ¬ Spn ms m := fun z => z0 ((rest_none O.bas hm).mp z)
        have gr := (lrank_snoc hS.2.2.1 hm).2 ns
        show R (V.bl (decide (((lrank ms : Nat) : Int) < ((lrank (ms ++ [m]) : Nat) : Int)))) H8
        rw [decide_eq_true (by omega)]
        exact k _ (s7.trans s8)
end
end Es
set_option Elab.async false
set_option linter.all false
set_option maxRecDepth 100000
set_option maxHeartbeats 4000000
namespace Es
open PySem PySem.Spec PyProof.Rows L2
section
variable {P : Program} {w : World} {K : PySem.W.Frag} {mg : Str → Option Value} {base : Heap}
theorem ok_law {f : Addr} {fd : FuncData} (F : Fun K "law" "law" s_law f fd) (T : Txt mg) (c_law_bag : CalleeOf P w K mg base 1 "_law_bag" ["script"] (sp_law_bag K)) (c_law_some : CalleeOf P w K mg base 2 "_law_some" ["bag", "things"] (sp_law_some K)) (c_law_take : CalleeOf P w K mg base 1 "_law_take" ["bag", "many"] (sp_law_take K)) (c_law_any_row : CalleeOf P w K mg base 3 "_law_any_row" ["bag", "many"] (sp_law_any_row K)) (c_law_all_of : CalleeOf P w K mg base 1 "_law_all_of" ["sums"] (sp_law_all_of K)) (c_law_are_told : CalleeOf P w K mg base 6 "_law_are_told" ["bag", "many", "sums"] (sp_law_are_told K)) (c_law_is_sum_right : CalleeOf P w K mg base 6 "_law_is_sum_right" ["sums", "row"] (sp_law_is_sum_right K)) : FnG P w K mg base 7 f fd ["script"] (sp_law K) := by
  refine okG F sc_law (fun h => ?_) (fun cdv B out t0 G ys R E hr hg h => ?_)
  · obtain ⟨a, ns, rfl, _⟩ := h
    rfl
  · obtain ⟨a, ns, rfl, hS, hl, k⟩ := h
    refine ⟨_, (pss_cons
        (ps_set (i := 1) sc_law.nd rfl (Or.inr rfl) (pe_callC c_law_bag (hr.mono (by decide)) hg (by rfl) (pa_cons (pv 0) pa_nil)))
        (pss_cons
        (ps_for PassesOwn.never rfl (pi_range1 (by rfl) T.z_range (pa_cons pe_int pa_nil)) (pg_name (i := 2) sc_law.nd rfl (.inl rfl))
        (pss_cons
          (ps_asg (pe_tup (pa_cons (pe_op op_add pe_int (pe_callC c_law_some (hr.mono (by decide)) hg (by rfl) (pa_cons (pv 1) (pa_cons (pe_lst (pa_cons pe_int (pa_cons pe_int (pa_cons pe_int (pa_cons pe_int pa_nil))))) pa_nil)))) (pa_cons (pe_lst pa_nil) pa_nil))) (pg_tup (by rfl) (pgs_cons (pg_name (i := 3) sc_law.nd rfl (.inl rfl)) (pgs_cons (pg_name (i := 4) sc_law.nd rfl (.inr rfl)) pgs_nil))))
          (pss_cons
          (ps_for PassesOwn.never rfl (pi_range1 (by rfl) T.z_range (pa_cons (pe_via (pe_ifExp (pt_cmpR op_gt (pe_callC c_law_take (hr.mono (by decide)) hg (by rfl) (pa_cons (pv 1) (pa_cons pe_int pa_nil))) pe_int (nomark _)) (pe_callC c_law_some (hr.mono (by decide)) hg (by rfl) (pa_cons (pv 1) (pa_cons (pe_lst (pa_cons pe_int (pa_cons pe_int (pa_cons pe_int (pa_cons pe_int (pa_cons pe_int pa_nil)))))) pa_nil))) pe_int)) pa_nil)) (pg_name (i := 5) sc_law.nd rfl (.inl rfl))
          (pss_cons
            (ps_set (i := 6) sc_law.nd rfl (Or.inl rfl) (pe_callC c_law_take (hr.mono (by decide)) hg (by rfl) (pa_cons (pv 1) (pa_cons pe_int pa_nil))))
            (pss_cons
            (ps_set (i := 7) sc_law.nd rfl (Or.inl rfl) (pe_via (pe_ifExp (pt_cmpR op_eq (pv 6) pe_int (nomark _)) (pe_tup pa_nil) (pe_callC c_law_any_row (hr.mono (by decide)) hg (by rfl) (pa_cons (pv 1) (pa_cons (pv 3) pa_nil))))))
            (Evl.pss_cut
            (ps_if (PW.pt (pw_and (pt_cmpR op_eq (pv 6) pe_int (nomark _)) (pw_and1 (pt_cmpR (op_neD hr.units) (pv 4) (pe_lst pa_nil) (nomark _)))))
            (pss_one
              (ps_set (i := 7) sc_law.nd rfl (Or.inl rfl) (pe_callC c_law_some (hr.mono (by decide)) hg (by rfl) (pa_cons (pv 1) (pa_cons (pv 4) pa_nil)))))
            pss_nil)
            (Evl.pss_cut
            (ps_if (pt_cmpR op_eq (pv 6) pe_int (nomark _))
            (pss_one
              (ps_set (i := 7) sc_law.nd rfl (Or.inl rfl) (pe_callC c_law_all_of (hr.mono (by decide)) hg (by rfl) (pa_cons (pe_lc (own := [("one", 8)]) rfl sc_law.nd (pi_list (pv 4)) (blkOk_by (own := [("one", 8)]) (N := ["script", "bag", "turn", "many", "sums", "k", "way", "row", "one", "rows"]) (sc := defScope s_law) (by decide +kernel)) (fun _ _ _ _ _ => (pg_name (i := 8) sc_law.nd rfl (.inl rfl))) (fun _ _ _ _ _ => (pts_one (pt_cmpR op_eq (pe_callC c_law_take (hr.mono (by decide)) hg (by rfl) (pa_cons (pv 1) (pa_cons pe_int pa_nil))) pe_int (nomark _)))) (fun _ _ _ _ _ => (pv 8))) pa_nil))))
            pss_nil)
            (pss_one
            (ps_expr (pe_bm PySem.F.plainAttrs_list PySem.F.slot_list_append PySem.F.type_list_append mt_append (pv 4) (pa_cons (pv 7) pa_nil)))))))))
          (pss_cons
          (ps_set (i := 9) sc_law.nd rfl (Or.inl rfl) (pe_lst (pa_cons (pe_callC c_law_any_row (hr.mono (by decide)) hg (by rfl) (pa_cons (pv 1) (pa_cons (pv 3) pa_nil))) (pa_cons (pe_tup pa_nil) (pa_cons (pe_callC c_law_all_of (hr.mono (by decide)) hg (by rfl) (pa_cons (pe_lc (own := [("one", 8)]) rfl sc_law.nd (pi_list (pv 4)) (blkOk_by (own := [("one", 8)]) (N := ["script", "bag", "turn", "many", "sums", "k", "way", "row", "one", "rows"]) (sc := defScope s_law) (by decide +kernel)) (fun _ _ _ _ _ => (pg_name (i := 8) sc_law.nd rfl (.inl rfl))) (fun _ _ _ _ _ => (pts_one (pt_cmpR op_eq (pe_callC c_law_take (hr.mono (by decide)) hg (by rfl) (pa_cons (pv 1) (pa_cons pe_int pa_nil))) pe_int (nomark _)))) (fun _ _ _ _ _ => (pv 8))) pa_nil)) pa_nil)))))
          (pss_one
          (ps_if (PW.pt (pw_or (pt_cmpR (op_neD hr.units) (pe_lc (own := [("row", 7)]) rfl sc_law.nd (pi_list (pv 9)) (blkOk_by (own := [("row", 7)]) (N := ["script", "bag", "turn", "many", "sums", "k", "way", "row", "one", "rows"]) (sc := defScope s_law) (by decide +kernel)) (fun _ _ _ _ _ => (pg_name (i := 7) sc_law.nd rfl (.inl rfl))) (fun _ _ _ _ _ => (pts_one (pt_not (pt_val (pe_callC c_law_is_sum_right (hr.mono (by decide)) hg (by rfl) (pa_cons (pv 4) (pa_cons (pv 7) pa_nil))))))) (fun _ _ _ _ _ => (pv 7))) (pe_lst pa_nil) (nomark _)) (pw_or1 (pt_not (pt_val (pe_callC c_law_are_told (hr.mono (by decide)) hg (by rfl) (pa_cons (pv 1) (pa_cons (pv 3) (pa_cons (pv 4) pa_nil)))))))))
          (pss_one
            (ps_ret pe_bl))
          pss_nil))))))
        (pss_one
        (ps_ret pe_bl)))), ?_⟩
    refine ⟨_, rfl, a, ns, rfl, hS, hl, fun H0 b c s0 nb nc hB0 => ?_⟩
    refine ⟨4, rfl, by decide, by decide, for_range (lo := 0) (n := 4) (fun i σ H => ∃ y2 y3 y4 y5 y6 y7 y8 y9, σ = [some (.ref a), some (.ref b), y2, y3, y4, y5, y6, y7, y8, y9] ∧ BagAt K H b c)
      ⟨_, _, _, _, _, _, _, _, rfl, hB0⟩ ?_ ?_⟩
    · rintro i σ H hi ⟨y2, y3, y4, y5, y6, y7, y8, y9, rfl, hB⟩
      obtain ⟨yb, eb⟩ := hB.lst
      refine ⟨_, rfl, (by show 4 ≤ sizeLine; decide), fun l nl => ?_⟩
      have sl := same_new (o := .lst [V.int 1, V.int 3, V.int 5, V.int 11]) nl
      refine ⟨b, c, l, _, rfl, hB.same sl, (ne_of_none eb nl).symm, .inl (.inl (.inl upd_same)), by show 0 < 4; decide, by show 4 < 1073741824; decide, fun H1 r v s1 B1 hv => ?_⟩
      obtain ⟨j, rfl, j1⟩ : ∃ j : Nat, v = .int (j : Int) ∧ j ≤ 11 := by
        rcases r with _ | _ | _ | _ | r
        · exact ⟨1, (Option.some.inj hv).symm, by decide⟩
        · exact ⟨3, (Option.some.inj hv).symm, by decide⟩
        · exact ⟨5, (Option.some.inj hv).symm, by decide⟩
        · exact ⟨11, (Option.some.inj hv).symm, by decide⟩
        · simp at hv
      refine ⟨_, _, rfl, rfl, Nat.zero_le _, fun ls nls => ?_⟩
      refine ⟨(by show 2 ≤ sizeLine; decide), fun t nt => ?_⟩
      refine ⟨t, _, rfl, .inl (.inl upd_same), rfl, _, _, rfl, _, _, rfl, rfl, ?_⟩
      have bls : ls ≠ b := fun z => by
        obtain ⟨y, e⟩ := B1.lst
        rw [z] at nls
        rw [nls] at e
        cases e
      have p63 : ∀ {m : Nat}, m < 2 ^ (1 + j) → m < 2 ^ 63 := fun h => Nat.lt_of_lt_of_le h (Nat.pow_le_pow_right (by decide) (by omega))
      have S2 := (SumsAt.mk (n := 1 + j) (B1.same (same_new (o := .lst []) nls)) bls upd_same .nil (fun m hm => by cases hm)).same (same_new (o := .tup [V.int (1 + (j : Int)), V.ref ls]) nt)
      refine ⟨fun v H => ∃ q : Nat, v = .int (q : Int) ∧ q ≤ 40 ∧ SumsAt K H b c ls (1 + j) [] [], ?_, ?_⟩
      · refine ⟨_, rfl, b, c, 8, rfl, S2.bag, by decide, by decide, fun H3 r3 s3 B3 h3 => ?_⟩
        have S3 := S2.but s3 B3
        refine ⟨_, _, rfl, rfl, _, rfl, ite2 (fun _ => ?_) (fun _ => ⟨40, rfl, by decide, S3⟩)⟩
        refine ⟨_, rfl, (by show 5 ≤ sizeLine; decide), fun l2 nl2 => ?_⟩
        have sl2 := same_new (o := .lst [V.int 0, V.int 1, V.int 3, V.int 5, V.int 9]) nl2
        obtain ⟨yb3, eb3⟩ := B3.lst
        refine ⟨b, c, l2, _, rfl, B3.same sl2, (ne_of_none eb3 nl2).symm, .inl (.inl (.inl upd_same)), by show 0 < 5; decide, by show 5 < 1073741824; decide, fun H4 r4 v4 s4 B4 hv4 => ?_⟩
        have S4 := (S3.same sl2).but s4 B4
        rcases r4 with _ | _ | _ | _ | _ | r4
        · exact ⟨0, (Option.some.inj hv4).symm, by decide, S4⟩
        · exact ⟨1, (Option.some.inj hv4).symm, by decide, S4⟩
        · exact ⟨3, (Option.some.inj hv4).symm, by decide, S4⟩
        · exact ⟨5, (Option.some.inj hv4).symm, by decide, S4⟩
        · exact ⟨9, (Option.some.inj hv4).symm, by decide, S4⟩
        · simp at hv4
      rintro v H5 ⟨q, rfl, hq, S5⟩
      refine ⟨(q : Int), rfl, by omega, by omega, for_range (lo := 0) (n := q) (fun i2 σ H => ∃ us ms y5 y6 y7 y8, σ = [some (.ref a), some (.ref b), some (.int (0 + (i : Int))), some (.int ((1 + j : Nat) : Int)), some (.ref ls), y5, y6, y7, y8, y9] ∧ SumsAt K H b c ls (1 + j) us ms ∧ us.length = i2)
        ⟨[], [], _, _, _, _, rfl, S5, rfl⟩ ?_ ?_⟩
      · rintro i2 σ H hi2 ⟨us, ms, y5, y6, y7, y8, rfl, S, lu⟩
        refine ⟨_, rfl, b, c, 8, rfl, S.bag, by decide, by decide, fun H6 way s6 B6 hw => ?_⟩
        have S6 := S.but s6 B6
        refine ⟨fun v H => ∃ m, SumV K H v m ∧ m < 2 ^ (1 + j) ∧ SumsAt K H b c ls (1 + j) us ms, ?_, ?_⟩
        · refine ⟨_, rfl, rfl, _, rfl, ite2 (fun _ => ?_) (fun _ => ?_)⟩
          · refine ⟨Nat.zero_le _, fun e ne => ?_⟩
            exact ⟨0, ⟨e, rfl, .inl (.inl (by rw [bts_zero]; exact upd_same))⟩, Nat.two_pow_pos _, S6.same (same_new ne)⟩
          · refine ⟨_, rfl, _, rfl, b, c, 1 + j, rfl, S6.bag, by omega, by omega, fun H7 v7 m7 s7 B7 hv7 hm7 _ => ?_⟩
            exact ⟨m7, hv7, hm7, S6.but s7 B7⟩
        rintro v H7 ⟨m7, hv7, hm7, S7⟩
        refine ⟨fun σ' H' => ∃ v m, σ' = [some (.ref a), some (.ref b), some (.int (0 + (i : Int))), some (.int ((1 + j : Nat) : Int)), some (.ref ls), some (.int (0 + (i2 : Int))), some (.int (way : Int)), some v, y8, y9] ∧ SumV K H' v m ∧ m < 2 ^ (1 + j) ∧ SumsAt K H' b c ls (1 + j) us ms, ?_, ?_⟩
        · refine ⟨_, rfl, rfl, _, rfl, ite2 (fun _ => ?_) (fun _ => iteF ⟨v, m7, rfl, hv7, hm7, S7⟩)⟩
          refine ⟨_, rfl, Nat.zero_le _, fun e ne => ?_⟩
          have se := same_new (o := .lst []) ne
          have S8 := S7.same se
          refine ⟨_, _, dp_sums (.inl (.inl S8.at_)) S8.sums, dp_nil (.inl (.inl upd_same)), nice_shaped (nice_sumsD ms) (Nat.le_trans (depth_sumsD ms) (by decide)), rfl, _, rfl, ite2 (fun hc => ?_) (fun _ => ⟨v, m7, rfl, hv7.same se, hm7, S8⟩)⟩
          have us0 : us ≠ [] := by
            rintro rfl
            have P := S8.sums
            cases P
            cases hc
          refine ⟨_, rfl, _, rfl, b, c, ls, us, rfl, S8.bag, S8.ne, .inl (.inl (.inl S8.at_)), List.length_pos_iff.mpr us0, by omega, fun H9 r v9 s9 B9 hv9 => ?_⟩
          obtain ⟨m9, hm9, hx⟩ := Paired.get S8.sums hv9
          exact ⟨v9, m9, rfl, hx.bag S8.bag s9, S8.lt _ (List.mem_of_getElem? hm9), S8.but s9 B9⟩
        rintro σ' H8 ⟨v, m, rfl, hv, hm, S8⟩
        refine ⟨fun σ' H' => ∃ v m, σ' = [some (.ref a), some (.ref b), some (.int (0 + (i : Int))), some (.int ((1 + j : Nat) : Int)), some (.ref ls), some (.int (0 + (i2 : Int))), some (.int (way : Int)), some v, y8, y9] ∧ SumV K H' v m ∧ m < 2 ^ (1 + j) ∧ SumsAt K H' b c ls (1 + j) us ms, ?_, ?_⟩
        · refine ⟨_, rfl, rfl, _, rfl, ite2 (fun _ => ?_) (fun _ => ⟨v, m, rfl, hv, hm, S8⟩)⟩
          refine ⟨_, rfl, ls, rfl, ⟨us, .inl (.inl S8.at_)⟩, fun D hD => ?_⟩
          refine lc_list (K := K) (a := ls) (xs := us) (fun i H => ∃ zs xs, H D = some (.lst zs) ∧ Paired (SumV K H) zs xs ∧ (∀ m ∈ xs, m < 2 ^ (1 + j)) ∧ zs.length ≤ i ∧ SumsAt K H b c ls (1 + j) us ms ∧ But b H8 H)
            ⟨[], [], upd_same, .nil, (fun _ h => by cases h), Nat.le_refl _, S8.same (same_new hD), But.new hD⟩ (fun i H _ ⟨_, _, _, _, _, _, S, _⟩ => .inl (.inl S.at_)) ?_ ?_
          · rintro g x H hg' ⟨zs, xs, eD, hz, hx, lz, S9, bt⟩
            obtain ⟨mx, hmx, hxv⟩ := Paired.get S9.sums hg'
            have hgl := (List.getElem?_eq_some_iff.mp hg').1
            refine ⟨rfl, _, rfl, b, c, 2, rfl, S9.bag, by decide, by decide, fun H10 r10 s10 B10 h10 => ?_⟩
            have S10 := S9.but s10 B10
            obtain ⟨yb8, eb8⟩ := S8.bag.lst
            have nDb : D ≠ b := (ne_of_none eb8 hD).symm
            have eD' := s10 D _ nDb eD
            have hz' := sums_bag S9.bag s10 hz
            refine ⟨rfl, _, rfl, ite2 (fun _ => ?_) (fun _ => ⟨zs, xs, eD', hz', hx, by omega, S10, bt.trans s10⟩)⟩
            refine ⟨_, rfl, zs, eD', small1000 (by omega), zs ++ [x], xs ++ [mx], upd_same, PySem.Paired.snoc (sums_but eD' But.at_ hz') ((hxv.bag S9.bag s10).but eD' But.at_), ?_, by simp; omega, S10.mut S8.bag hD (ne_of_none S8.at_ hD) eD', but_mut (bt.trans s10) hD⟩
            intro m hm
            rcases List.mem_append.mp hm with hm | hm
            · exact hx m hm
            · have hm : m = mx := by simpa using hm
              rw [hm]; exact S9.lt _ (List.mem_of_getElem? hmx)
          · rintro H ⟨zs, xs, eD, hz, hx, lz, S9, bt⟩
            refine ⟨D, zs, xs, rfl, .inl (.inl eD), hz, fun m hm => p63 (hx m hm), by rw [← Paired.len hz]; omega, fun H11 v11 s11 hv11 => ?_⟩
            exact ⟨v11, xall xs, rfl, hv11, xall_below hx, S9.same s11⟩
        rintro σ' H9 ⟨v, m, rfl, hv, hm, S9⟩
        exact ⟨_, rfl, .inl ⟨rfl, _, .inl (.inl S9.at_)⟩, _, rfl, ls, us, v, rfl, rfl, S9.at_, small1000 (by omega), us ++ [v], ms ++ [m], _, _, _, _, rfl, S9.push B1 nls hv hm, by simp; omega⟩
      · rintro σ H ⟨us, ms, y5, y6, y7, y8, rfl, S, lu⟩
        refine ⟨_, rfl, _, rfl, b, c, 1 + j, rfl, S.bag, by omega, by omega, fun H7 v1 m1 s7 B7 hv1 hm1 _ => ?_⟩
        refine ⟨Nat.zero_le _, fun e ne => ?_⟩
        have S8 := (S.but s7 B7).same (same_new (o := .tup []) ne)
        have hv1' := hv1.same (same_new (o := .tup []) ne)
        have he : SumV K (upd H7 e (.tup [])) (.ref e) 0 := ⟨e, rfl, .inl (.inl (by rw [bts_zero]; exact upd_same))⟩
        generalize upd H7 e (.tup []) = H8 at S8 hv1' he ⊢
        refine ⟨_, rfl, ls, rfl, ⟨us, .inl (.inl S8.at_)⟩, fun D hD => ?_⟩
        refine lc_list (K := K) (a := ls) (xs := us) (fun i H => ∃ zs xs, H D = some (.lst zs) ∧ Paired (SumV K H) zs xs ∧ (∀ m ∈ xs, m < 2 ^ (1 + j)) ∧ zs.length ≤ i ∧ SumsAt K H b c ls (1 + j) us ms ∧ But b H8 H)
          ⟨[], [], upd_same, .nil, (fun _ h => by cases h), Nat.le_refl _, S8.same (same_new hD), But.new hD⟩ (fun i H _ ⟨_, _, _, _, _, _, S, _⟩ => .inl (.inl S.at_)) ?_ ?_
        · rintro g x H hg' ⟨zs, xs, eD, hz, hx, lz, S9, bt⟩
          obtain ⟨mx, hmx, hxv⟩ := Paired.get S9.sums hg'
          have hgl := (List.getElem?_eq_some_iff.mp hg').1
          refine ⟨rfl, _, rfl, b, c, 2, rfl, S9.bag, by decide, by decide, fun H10 r10 s10 B10 h10 => ?_⟩
          have S10 := S9.but s10 B10
          obtain ⟨yb8, eb8⟩ := S8.bag.lst
          have nDb : D ≠ b := (ne_of_none eb8 hD).symm
          have eD' := s10 D _ nDb eD
          have hz' := sums_bag S9.bag s10 hz
          refine ⟨rfl, _, rfl, ite2 (fun _ => ?_) (fun _ => ⟨zs, xs, eD', hz', hx, by omega, S10, bt.trans s10⟩)⟩
          refine ⟨_, rfl, zs, eD', small1000 (by omega), zs ++ [x], xs ++ [mx], upd_same, PySem.Paired.snoc (sums_but eD' But.at_ hz') ((hxv.bag S9.bag s10).but eD' But.at_), ?_, by simp; omega, S10.mut S8.bag hD (ne_of_none S8.at_ hD) eD', but_mut (bt.trans s10) hD⟩
          intro m hm
          rcases List.mem_append.mp hm with hm | hm
          · exact hx m hm
          · have hm : m = mx := by simpa using hm
            rw [hm]; exact S9.lt _ (List.mem_of_getElem? hmx)
        · rintro H ⟨zs, xs, eD, hz, hx, lz, S9, bt⟩
          refine ⟨D, zs, xs, rfl, .inl (.inl eD), hz, fun m hm => p63 (hx m hm), by rw [← Paired.len hz]; omega, fun H11 v11 s11 hv11 => ?_⟩
          refine ⟨(by show 3 ≤ sizeLine; decide), fun lr nlr => ?_⟩
          have sF := s11.trans (same_new (o := .lst [v1, V.ref e, v11]) nlr)
          have SF := S9.same sF
          have P12 : Paired (SumV K _) [v1, V.ref e, v11] [m1, 0, xall xs] := .cons ((hv1'.bag S8.bag bt).same sF) (.cons ((he.bag S8.bag bt).same sF) (.cons (hv11.same (same_new (o := .lst [v1, V.ref e, v11]) nlr)) .nil))
          have elr : (upd H11 lr (.lst [v1, V.ref e, v11])) lr = some (.lst [v1, V.ref e, v11]) := upd_same
          have l3 : ∀ m ∈ [m1, 0, xall xs], m < 2 ^ 63 := fun m hm => by
            rcases List.mem_cons.mp hm with rfl | hm
            · exact p63 hm1
            rcases List.mem_cons.mp hm with rfl | hm
            · exact p63 (Nat.two_pow_pos _)
            rcases List.mem_cons.mp hm with rfl | hm
            · exact p63 (xall_below hx)
            · cases hm
          generalize upd H11 lr (.lst [v1, V.ref e, v11]) = HF at SF P12 elr ⊢
          refine ⟨_, rfl, lr, rfl, ⟨_, .inl (.inl elr)⟩, fun D2 hD2 => ?_⟩
          refine lc_list (K := K) (a := lr) (xs := [v1, V.ref e, v11]) (fun i H => H D2 = some (.lst []) ∧ Same HF H) ⟨upd_same, same_new hD2⟩ (fun i H _ ⟨_, s⟩ => .inl (.inl (s _ _ elr))) ?_ ?_
          · rintro g x H hg' ⟨eD2, s⟩
            obtain ⟨mx, hmx, hxv⟩ := Paired.get P12 hg'
            refine ⟨rfl, _, rfl, _, rfl, ls, us, ms, x, mx, rfl, (SF.same s).few (by omega) (by omega), hxv.same s, l3 _ (List.mem_of_getElem? hmx), fun H13 s13 => ?_⟩
            refine ⟨_, rfl, ?_⟩
            exact iteF ⟨s13 _ _ eD2, s.trans s13⟩
          · rintro H ⟨eD2, s⟩
            refine ⟨Nat.zero_le _, fun e2 ne2 => ?_⟩
            refine ⟨_, _, dp_nil (.inl (.inl (same_new ne2 _ _ eD2))), dp_nil (.inl (.inl upd_same)), rfl, rfl, _, rfl, ?_⟩
            have SE := SF.same (s.trans (same_new (o := .lst []) ne2))
            refine iteF ?_
            refine ⟨_, rfl, _, rfl, _, rfl, b, c, ls, us, ms, 1 + j, rfl, SE.bag, SE.ne, SE.at_, SE.few (by omega) (by omega), SE.lt, by omega, fun H14 s14 B14 => ?_⟩
            refine ⟨_, rfl, iteF ?_⟩
            exact ⟨_, _, _, _, _, _, _, _, rfl, B14⟩
    · rintro σ H ⟨y2, y3, y4, y5, y6, y7, y8, y9, rfl, hB⟩
      exact k _
end
end Es
namespace Es
open PySem PySem.Spec PyProof.Rows L2
theorem all_mk {l : PySem.W.OpenLaw} {w : World} {K : PySem.W.Frag} {h : Heap} {mg : Str → Option Value} {fa f1 f2 f3 f4 f5 f6 f7 f8 f9 f10 f11 f12 f13 f14 f15 f16 f17 f18 f19 f20 f21 f22 f23 f24 f25 f26 f27 f28 f29 : Addr} (X : K.In h) (G : h.Ns mainGlobals mg) (hfa : mg "law" = some (.ref fa))
    {od1 an1 od2 an2 od3 an3 od4 an4 od5 an5 od6 an6 od7 an7 od8 an8 od9 an9 od10 an10 od11 an11 od12 an12 od13 an13 od14 an14 od15 an15 od16 an16 od17 an17 od18 an18 od19 an19 od20 an20 od21 an21 od22 an22 od23 an23 od24 an24 od25 an25 od26 an26 od27 an27 od28 an28 od29 an29 : Option Addr} {sl1 sl2 sl3 sl4 sl5 sl6 sl7 sl8 sl9 sl10 sl11 sl12 sl13 sl14 sl15 sl16 sl17 sl18 sl19 sl20 sl21 sl22 sl23 sl24 sl25 sl26 sl27 sl28 sl29 : Array (Option Value)} {oc1 kV1 dc1 pm1 cd1 ct1 oc2 kV2 dc2 pm2 cd2 ct2 oc3 kV3 dc3 pm3 cd3 ct3 oc4 kV4 dc4 pm4 cd4 ct4 oc5 kV5 dc5 pm5 cd5 ct5 oc6 kV6 dc6 pm6 cd6 ct6 oc7 kV7 dc7 pm7 cd7 ct7 oc8 kV8 dc8 pm8 cd8 ct8 oc9 kV9 dc9 pm9 cd9 ct9 oc10 kV10 dc10 pm10 cd10 ct10 oc11 kV11 dc11 pm11 cd11 ct11 oc12 kV12 dc12 pm12 cd12 ct12 oc13 kV13 dc13 pm13 cd13 ct13 oc14 kV14 dc14 pm14 cd14 ct14 oc15 kV15 dc15 pm15 cd15 ct15 oc16 kV16 dc16 pm16 cd16 ct16 oc17 kV17 dc17 pm17 cd17 ct17 oc18 kV18 dc18 pm18 cd18 ct18 oc19 kV19 dc19 pm19 cd19 ct19 oc20 kV20 dc20 pm20 cd20 ct20 oc21 kV21 dc21 pm21 cd21 ct21 oc22 kV22 dc22 pm22 cd22 ct22 oc23 kV23 dc23 pm23 cd23 ct23 oc24 kV24 dc24 pm24 cd24 ct24 oc25 kV25 dc25 pm25 cd25 ct25 oc26 kV26 dc26 pm26 cd26 ct26 oc27 kV27 dc27 pm27 cd27 ct27 oc28 kV28 dc28 pm28 cd28 ct28 oc29 kV29 dc29 pm29 cd29 ct29 : Value}
    (a1 : PySem.W.nsIn K mainGlobals "_law_bag" = some (some (.ref f1))) (l1 : K.lookup f1 = some ⟨oc1, od1, .func (PySem.W.fnOf "_law_bag" "_law_bag" (defArgs s_law_bag) (defBody s_law_bag) (defScope s_law_bag) .none kV1 dc1 pm1 an1 cd1 ct1), sl1⟩) (c1 : PySem.W.codeIn K cd1 "_law_bag" = true) (k1 : PySem.W.keepIn K (.ref f1) = true)
    (a2 : PySem.W.nsIn K mainGlobals "_law_take" = some (some (.ref f2))) (l2 : K.lookup f2 = some ⟨oc2, od2, .func (PySem.W.fnOf "_law_take" "_law_take" (defArgs s_law_take) (defBody s_law_take) (defScope s_law_take) .none kV2 dc2 pm2 an2 cd2 ct2), sl2⟩) (c2 : PySem.W.codeIn K cd2 "_law_take" = true) (k2 : PySem.W.keepIn K (.ref f2) = true)
    (a3 : PySem.W.nsIn K mainGlobals "_law_some" = some (some (.ref f3))) (l3 : K.lookup f3 = some ⟨oc3, od3, .func (PySem.W.fnOf "_law_some" "_law_some" (defArgs s_law_some) (defBody s_law_some) (defScope s_law_some) .none kV3 dc3 pm3 an3 cd3 ct3), sl3⟩) (c3 : PySem.W.codeIn K cd3 "_law_some" = true) (k3 : PySem.W.keepIn K (.ref f3) = true)
    (a4 : PySem.W.nsIn K mainGlobals "_law_row" = some (some (.ref f4))) (l4 : K.lookup f4 = some ⟨oc4, od4, .func (PySem.W.fnOf "_law_row" "_law_row" (defArgs s_law_row) (defBody s_law_row) (defScope s_law_row) .none kV4 dc4 pm4 an4 cd4 ct4), sl4⟩) (c4 : PySem.W.codeIn K cd4 "_law_row" = true) (k4 : PySem.W.keepIn K (.ref f4) = true)
    (a5 : PySem.W.nsIn K mainGlobals "_law_any_row" = some (some (.ref f5))) (l5 : K.lookup f5 = some ⟨oc5, od5, .func (PySem.W.fnOf "_law_any_row" "_law_any_row" (defArgs s_law_any_row) (defBody s_law_any_row) (defScope s_law_any_row) .none kV5 dc5 pm5 an5 cd5 ct5), sl5⟩) (c5 : PySem.W.codeIn K cd5 "_law_any_row" = true) (k5 : PySem.W.keepIn K (.ref f5) = true)
    (a6 : PySem.W.nsIn K mainGlobals "_law_all_of" = some (some (.ref f6))) (l6 : K.lookup f6 = some ⟨oc6, od6, .func (PySem.W.fnOf "_law_all_of" "_law_all_of" (defArgs s_law_all_of) (defBody s_law_all_of) (defScope s_law_all_of) .none kV6 dc6 pm6 an6 cd6 ct6), sl6⟩) (c6 : PySem.W.codeIn K cd6 "_law_all_of" = true) (k6 : PySem.W.keepIn K (.ref f6) = true)
    (a7 : PySem.W.nsIn K mainGlobals "_law_mask" = some (some (.ref f7))) (l7 : K.lookup f7 = some ⟨oc7, od7, .func (PySem.W.fnOf "_law_mask" "_law_mask" (defArgs s_law_mask) (defBody s_law_mask) (defScope s_law_mask) .none kV7 dc7 pm7 an7 cd7 ct7), sl7⟩) (c7 : PySem.W.codeIn K cd7 "_law_mask" = true) (k7 : PySem.W.keepIn K (.ref f7) = true)
    (a8 : PySem.W.nsIn K mainGlobals "_law_flat_of" = some (some (.ref f8))) (l8 : K.lookup f8 = some ⟨oc8, od8, .func (PySem.W.fnOf "_law_flat_of" "_law_flat_of" (defArgs s_law_flat_of) (defBody s_law_flat_of) (defScope s_law_flat_of) .none kV8 dc8 pm8 an8 cd8 ct8), sl8⟩) (c8 : PySem.W.codeIn K cd8 "_law_flat_of" = true) (k8 : PySem.W.keepIn K (.ref f8) = true)
    (a9 : PySem.W.nsIn K mainGlobals "_law_rank" = some (some (.ref f9))) (l9 : K.lookup f9 = some ⟨oc9, od9, .func (PySem.W.fnOf "_law_rank" "_law_rank" (defArgs s_law_rank) (defBody s_law_rank) (defScope s_law_rank) .none kV9 dc9 pm9 an9 cd9 ct9), sl9⟩) (c9 : PySem.W.codeIn K cd9 "_law_rank" = true) (k9 : PySem.W.keepIn K (.ref f9) = true)
    (a10 : PySem.W.nsIn K mainGlobals "_law_alike" = some (some (.ref f10))) (l10 : K.lookup f10 = some ⟨oc10, od10, .func (PySem.W.fnOf "_law_alike" "_law_alike" (defArgs s_law_alike) (defBody s_law_alike) (defScope s_law_alike) .none kV10 dc10 pm10 an10 cd10 ct10), sl10⟩) (c10 : PySem.W.codeIn K cd10 "_law_alike" = true) (k10 : PySem.W.keepIn K (.ref f10) = true)
    (a11 : PySem.W.nsIn K mainGlobals "together" = some (some (.ref f11))) (l11 : K.lookup f11 = some ⟨oc11, od11, .func (PySem.W.fnOf "together" "together" (defArgs s_together) (defBody s_together) (defScope s_together) .none kV11 dc11 pm11 an11 cd11 ct11), sl11⟩) (c11 : PySem.W.codeIn K cd11 "together" = true) (k11 : PySem.W.keepIn K (.ref f11) = true)
    (a12 : PySem.W.nsIn K mainGlobals "_rest" = some (some (.ref f12))) (l12 : K.lookup f12 = some ⟨oc12, od12, .func (PySem.W.fnOf "_rest" "_rest" (defArgs s_rest) (defBody s_rest) (defScope s_rest) .none kV12 dc12 pm12 an12 cd12 ct12), sl12⟩) (c12 : PySem.W.codeIn K cd12 "_rest" = true) (k12 : PySem.W.keepIn K (.ref f12) = true)
    (a13 : PySem.W.nsIn K mainGlobals "_eliminated" = some (some (.ref f13))) (l13 : K.lookup f13 = some ⟨oc13, od13, .func (PySem.W.fnOf "_eliminated" "_eliminated" (defArgs s_eliminated) (defBody s_eliminated) (defScope s_eliminated) .none kV13 dc13 pm13 an13 cd13 ct13), sl13⟩) (c13 : PySem.W.codeIn K cd13 "_eliminated" = true) (k13 : PySem.W.keepIn K (.ref f13) = true)
    (a14 : PySem.W.nsIn K mainGlobals "independent_among" = some (some (.ref f14))) (l14 : K.lookup f14 = some ⟨oc14, od14, .func (PySem.W.fnOf "independent_among" "independent_among" (defArgs s_independent_among) (defBody s_independent_among) (defScope s_independent_among) .none kV14 dc14 pm14 an14 cd14 ct14), sl14⟩) (c14 : PySem.W.codeIn K cd14 "independent_among" = true) (k14 : PySem.W.keepIn K (.ref f14) = true)
    (a15 : PySem.W.nsIn K mainGlobals "rank_of" = some (some (.ref f15))) (l15 : K.lookup f15 = some ⟨oc15, od15, .func (PySem.W.fnOf "rank_of" "rank_of" (defArgs s_rank_of) (defBody s_rank_of) (defScope s_rank_of) .none kV15 dc15 pm15 an15 cd15 ct15), sl15⟩) (c15 : PySem.W.codeIn K cd15 "rank_of" = true) (k15 : PySem.W.keepIn K (.ref f15) = true)
    (a16 : PySem.W.nsIn K mainGlobals "_law_worth" = some (some (.ref f16))) (l16 : K.lookup f16 = some ⟨oc16, od16, .func (PySem.W.fnOf "_law_worth" "_law_worth" (defArgs s_law_worth) (defBody s_law_worth) (defScope s_law_worth) .none kV16 dc16 pm16 an16 cd16 ct16), sl16⟩) (c16 : PySem.W.codeIn K cd16 "_law_worth" = true) (k16 : PySem.W.keepIn K (.ref f16) = true)
    (a17 : PySem.W.nsIn K mainGlobals "worth_of" = some (some (.ref f17))) (l17 : K.lookup f17 = some ⟨oc17, od17, .func (PySem.W.fnOf "worth_of" "worth_of" (defArgs s_worth_of) (defBody s_worth_of) (defScope s_worth_of) .none kV17 dc17 pm17 an17 cd17 ct17), sl17⟩) (c17 : PySem.W.codeIn K cd17 "worth_of" = true) (k17 : PySem.W.keepIn K (.ref f17) = true)
    (a18 : PySem.W.nsIn K mainGlobals "dependent_lots" = some (some (.ref f18))) (l18 : K.lookup f18 = some ⟨oc18, od18, .func (PySem.W.fnOf "dependent_lots" "dependent_lots" (defArgs s_dependent_lots) (defBody s_dependent_lots) (defScope s_dependent_lots) .none kV18 dc18 pm18 an18 cd18 ct18), sl18⟩) (c18 : PySem.W.codeIn K cd18 "dependent_lots" = true) (k18 : PySem.W.keepIn K (.ref f18) = true)
    (a19 : PySem.W.nsIn K mainGlobals "dependent_lot" = some (some (.ref f19))) (l19 : K.lookup f19 = some ⟨oc19, od19, .func (PySem.W.fnOf "dependent_lot" "dependent_lot" (defArgs s_dependent_lot) (defBody s_dependent_lot) (defScope s_dependent_lot) .none kV19 dc19 pm19 an19 cd19 ct19), sl19⟩) (c19 : PySem.W.codeIn K cd19 "dependent_lot" = true) (k19 : PySem.W.keepIn K (.ref f19) = true)
    (a20 : PySem.W.nsIn K mainGlobals "_law_is_whole" = some (some (.ref f20))) (l20 : K.lookup f20 = some ⟨oc20, od20, .func (PySem.W.fnOf "_law_is_whole" "_law_is_whole" (defArgs s_law_is_whole) (defBody s_law_is_whole) (defScope s_law_is_whole) .none kV20 dc20 pm20 an20 cd20 ct20), sl20⟩) (c20 : PySem.W.codeIn K cd20 "_law_is_whole" = true) (k20 : PySem.W.keepIn K (.ref f20) = true)
    (a21 : PySem.W.nsIn K mainGlobals "_law_is_in" = some (some (.ref f21))) (l21 : K.lookup f21 = some ⟨oc21, od21, .func (PySem.W.fnOf "_law_is_in" "_law_is_in" (defArgs s_law_is_in) (defBody s_law_is_in) (defScope s_law_is_in) .none kV21 dc21 pm21 an21 cd21 ct21), sl21⟩) (c21 : PySem.W.codeIn K cd21 "_law_is_in" = true) (k21 : PySem.W.keepIn K (.ref f21) = true)
    (a22 : PySem.W.nsIn K mainGlobals "_law_is_sum" = some (some (.ref f22))) (l22 : K.lookup f22 = some ⟨oc22, od22, .func (PySem.W.fnOf "_law_is_sum" "_law_is_sum" (defArgs s_law_is_sum) (defBody s_law_is_sum) (defScope s_law_is_sum) .none kV22 dc22 pm22 an22 cd22 ct22), sl22⟩) (c22 : PySem.W.codeIn K cd22 "_law_is_sum" = true) (k22 : PySem.W.keepIn K (.ref f22) = true)
    (a23 : PySem.W.nsIn K mainGlobals "_law_are_some" = some (some (.ref f23))) (l23 : K.lookup f23 = some ⟨oc23, od23, .func (PySem.W.fnOf "_law_are_some" "_law_are_some" (defArgs s_law_are_some) (defBody s_law_are_some) (defScope s_law_are_some) .none kV23 dc23 pm23 an23 cd23 ct23), sl23⟩) (c23 : PySem.W.codeIn K cd23 "_law_are_some" = true) (k23 : PySem.W.keepIn K (.ref f23) = true)
    (a24 : PySem.W.nsIn K mainGlobals "_law_are_told" = some (some (.ref f24))) (l24 : K.lookup f24 = some ⟨oc24, od24, .func (PySem.W.fnOf "_law_are_told" "_law_are_told" (defArgs s_law_are_told) (defBody s_law_are_told) (defScope s_law_are_told) .none kV24 dc24 pm24 an24 cd24 ct24), sl24⟩) (c24 : PySem.W.codeIn K cd24 "_law_are_told" = true) (k24 : PySem.W.keepIn K (.ref f24) = true)
    (a25 : PySem.W.nsIn K mainGlobals "used_by" = some (some (.ref f25))) (l25 : K.lookup f25 = some ⟨oc25, od25, .func (PySem.W.fnOf "used_by" "used_by" (defArgs s_used_by) (defBody s_used_by) (defScope s_used_by) .none kV25 dc25 pm25 an25 cd25 ct25), sl25⟩) (c25 : PySem.W.codeIn K cd25 "used_by" = true) (k25 : PySem.W.keepIn K (.ref f25) = true)
    (a26 : PySem.W.nsIn K mainGlobals "basis_of" = some (some (.ref f26))) (l26 : K.lookup f26 = some ⟨oc26, od26, .func (PySem.W.fnOf "basis_of" "basis_of" (defArgs s_basis_of) (defBody s_basis_of) (defScope s_basis_of) .none kV26 dc26 pm26 an26 cd26 ct26), sl26⟩) (c26 : PySem.W.codeIn K cd26 "basis_of" = true) (k26 : PySem.W.keepIn K (.ref f26) = true)
    (a27 : PySem.W.nsIn K mainGlobals "sum_by" = some (some (.ref f27))) (l27 : K.lookup f27 = some ⟨oc27, od27, .func (PySem.W.fnOf "sum_by" "sum_by" (defArgs s_sum_by) (defBody s_sum_by) (defScope s_sum_by) .none kV27 dc27 pm27 an27 cd27 ct27), sl27⟩) (c27 : PySem.W.codeIn K cd27 "sum_by" = true) (k27 : PySem.W.keepIn K (.ref f27) = true)
    (a28 : PySem.W.nsIn K mainGlobals "_law_is_sum_right" = some (some (.ref f28))) (l28 : K.lookup f28 = some ⟨oc28, od28, .func (PySem.W.fnOf "_law_is_sum_right" "_law_is_sum_right" (defArgs s_law_is_sum_right) (defBody s_law_is_sum_right) (defScope s_law_is_sum_right) .none kV28 dc28 pm28 an28 cd28 ct28), sl28⟩) (c28 : PySem.W.codeIn K cd28 "_law_is_sum_right" = true) (k28 : PySem.W.keepIn K (.ref f28) = true)
    (a29 : PySem.W.nsIn K mainGlobals "law" = some (some (.ref f29))) (l29 : K.lookup f29 = some ⟨oc29, od29, .func (PySem.W.fnOf "law" "law" (defArgs s_law) (defBody s_law) (defScope s_law) .none kV29 dc29 pm29 an29 cd29 ct29), sl29⟩) (c29 : PySem.W.codeIn K cd29 "law" = true) (k29 : PySem.W.keepIn K (.ref f29) = true)
    (z1 : PySem.W.nsIn K mainGlobals "tuple" = some none)
    (z2 : PySem.W.nsIn K mainGlobals "sorted" = some none)
    (z3 : PySem.W.nsIn K mainGlobals "sum" = some none)
    (z4 : PySem.W.nsIn K mainGlobals "len" = some none)
    (z5 : PySem.W.nsIn K mainGlobals "range" = some none)
    (z6 : PySem.W.nsIn K mainGlobals "list" = some none)
    (z7 : PySem.W.nsIn K mainGlobals "enumerate" = some none)
    (z8 : PySem.W.nsIn K mainGlobals "abs" = some none)
    (z9 : PySem.W.nsIn K mainGlobals "int" = some none)
    (z10 : PySem.W.nsIn K mainGlobals "repr" = some none)
    (z11 : PySem.W.nsIn K mainGlobals "isinstance" = some none)
    (z12 : PySem.W.nsIn K mainGlobals "bool" = some none)
    (z13 : PySem.W.nsIn K mainGlobals "set" = some none) :
    ∃ fd : FuncData, (∀ (s : Shared) (v : Value), BindsTo s fd ⟨[v], []⟩ [("script", v)]) ∧ ∀ base : Heap, K.In base → base.Ns mainGlobals mg → FnG l.prog w K mg base 7 fa fd ["script"] (sp_law K) := by
  have e := hfa.symm.trans (PySem.W.mg_of X G a29)
  cases e
  have F1 := fun_mk (st := s_law_bag) l1 c1 k1
  have b1 := F1.binds (ps := ["script"]) fun _ _ _ _ _ _ us hl => match us, hl with | [_], _ => rfl
  have F2 := fun_mk (st := s_law_take) l2 c2 k2
  have b2 := F2.binds (ps := ["bag", "many"]) fun _ _ _ _ _ _ us hl => match us, hl with | [_, _], _ => rfl
  have F3 := fun_mk (st := s_law_some) l3 c3 k3
  have b3 := F3.binds (ps := ["bag", "things"]) fun _ _ _ _ _ _ us hl => match us, hl with | [_, _], _ => rfl
  have F4 := fun_mk (st := s_law_row) l4 c4 k4
  have b4 := F4.binds (ps := ["mask"]) fun _ _ _ _ _ _ us hl => match us, hl with | [_], _ => rfl
  have F5 := fun_mk (st := s_law_any_row) l5 c5 k5
  have b5 := F5.binds (ps := ["bag", "many"]) fun _ _ _ _ _ _ us hl => match us, hl with | [_, _], _ => rfl
  have F6 := fun_mk (st := s_law_all_of) l6 c6 k6
  have b6 := F6.binds (ps := ["sums"]) fun _ _ _ _ _ _ us hl => match us, hl with | [_], _ => rfl
  have F7 := fun_mk (st := s_law_mask) l7 c7 k7
  have b7 := F7.binds (ps := ["row"]) fun _ _ _ _ _ _ us hl => match us, hl with | [_], _ => rfl
  have F8 := fun_mk (st := s_law_flat_of) l8 c8 k8
  have b8 := F8.binds (ps := ["lines"]) fun _ _ _ _ _ _ us hl => match us, hl with | [_], _ => rfl
  have F9 := fun_mk (st := s_law_rank) l9 c9 k9
  have b9 := F9.binds (ps := ["rows"]) fun _ _ _ _ _ _ us hl => match us, hl with | [_], _ => rfl
  have F10 := fun_mk (st := s_law_alike) l10 c10 k10
  have b10 := F10.binds (ps := ["found", "due"]) fun _ _ _ _ _ _ us hl => match us, hl with | [_, _], _ => rfl
  have F11 := fun_mk (st := s_together) l11 c11 k11
  have b11 := F11.binds (ps := ["sums"]) fun _ _ _ _ _ _ us hl => match us, hl with | [_], _ => rfl
  have F12 := fun_mk (st := s_rest) l12 c12 k12
  have b12 := F12.binds (ps := ["basis", "row", "used"]) fun _ _ _ _ _ _ us hl => match us, hl with | [_, _, _], _ => rfl
  have F13 := fun_mk (st := s_eliminated) l13 c13 k13
  have b13 := F13.binds (ps := ["sums"]) fun _ _ _ _ _ _ us hl => match us, hl with | [_], _ => rfl
  have F14 := fun_mk (st := s_independent_among) l14 c14 k14
  have b14 := F14.binds (ps := ["sums"]) fun _ _ _ _ _ _ us hl => match us, hl with | [_], _ => rfl
  have F15 := fun_mk (st := s_rank_of) l15 c15 k15
  have b15 := F15.binds (ps := ["sums"]) fun _ _ _ _ _ _ us hl => match us, hl with | [_], _ => rfl
  have F16 := fun_mk (st := s_law_worth) l16 c16 k16
  have b16 := F16.binds (ps := ["row", "bits"]) fun _ _ _ _ _ _ us hl => match us, hl with | [_, _], _ => rfl
  have F17 := fun_mk (st := s_worth_of) l17 c17 k17
  have b17 := F17.binds (ps := ["row", "bits"]) fun _ _ _ _ _ _ us hl => match us, hl with | [_, _], _ => rfl
  have F18 := fun_mk (st := s_dependent_lots) l18 c18 k18
  have b18 := F18.binds (ps := ["sums"]) fun _ _ _ _ _ _ us hl => match us, hl with | [_], _ => rfl
  have F19 := fun_mk (st := s_dependent_lot) l19 c19 k19
  have b19 := F19.binds (ps := ["sums"]) fun _ _ _ _ _ _ us hl => match us, hl with | [_], _ => rfl
  have F20 := fun_mk (st := s_law_is_whole) l20 c20 k20
  have b20 := F20.binds (ps := ["thing"]) fun _ _ _ _ _ _ us hl => match us, hl with | [_], _ => rfl
  have F21 := fun_mk (st := s_law_is_in) l21 c21 k21
  have b21 := F21.binds (ps := ["thing", "many"]) fun _ _ _ _ _ _ us hl => match us, hl with | [_, _], _ => rfl
  have F22 := fun_mk (st := s_law_is_sum) l22 c22 k22
  have b22 := F22.binds (ps := ["many", "thing"]) fun _ _ _ _ _ _ us hl => match us, hl with | [_, _], _ => rfl
  have F23 := fun_mk (st := s_law_are_some) l23 c23 k23
  have b23 := F23.binds (ps := ["many", "thing"]) fun _ _ _ _ _ _ us hl => match us, hl with | [_, _], _ => rfl
  have F24 := fun_mk (st := s_law_are_told) l24 c24 k24
  have b24 := F24.binds (ps := ["bag", "many", "sums"]) fun _ _ _ _ _ _ us hl => match us, hl with | [_, _, _], _ => rfl
  have F25 := fun_mk (st := s_used_by) l25 c25 k25
  have b25 := F25.binds (ps := ["basis", "row"]) fun _ _ _ _ _ _ us hl => match us, hl with | [_, _], _ => rfl
  have F26 := fun_mk (st := s_basis_of) l26 c26 k26
  have b26 := F26.binds (ps := ["sums"]) fun _ _ _ _ _ _ us hl => match us, hl with | [_], _ => rfl
  have F27 := fun_mk (st := s_sum_by) l27 c27 k27
  have b27 := F27.binds (ps := ["sums", "row"]) fun _ _ _ _ _ _ us hl => match us, hl with | [_, _], _ => rfl
  have F28 := fun_mk (st := s_law_is_sum_right) l28 c28 k28
  have b28 := F28.binds (ps := ["sums", "row"]) fun _ _ _ _ _ _ us hl => match us, hl with | [_, _], _ => rfl
  have F29 := fun_mk (st := s_law) l29 c29 k29
  have T : Txt mg := ⟨PySem.W.mg_none_of X G z1, PySem.W.mg_none_of X G z2, PySem.W.mg_none_of X G z3, PySem.W.mg_none_of X G z4, PySem.W.mg_none_of X G z5, PySem.W.mg_none_of X G z6, PySem.W.mg_none_of X G z7, PySem.W.mg_none_of X G z8, PySem.W.mg_none_of X G z9, PySem.W.mg_none_of X G z10, PySem.W.mg_none_of X G z11, PySem.W.mg_none_of X G z12, PySem.W.mg_none_of X G z13⟩
  refine ⟨PySem.W.fnOf "law" "law" (defArgs s_law) (defBody s_law) (defScope s_law) .none kV29 dc29 pm29 an29 cd29 ct29, fun s v => .of_eq rfl, fun base _ _ => ?_⟩
  have y1 : CalleeOf l.prog w K mg base 1 "_law_bag" ["script"] (sp_law_bag K) := ⟨f1, _, ok_law_bag F1 T , PySem.W.mg_of X G a1, k1, b1⟩
  have y2 : CalleeOf l.prog w K mg base 1 "_law_take" ["bag", "many"] (sp_law_take K) := ⟨f2, _, ok_law_take F2 T , PySem.W.mg_of X G a2, k2, b2⟩
  have y3 : CalleeOf l.prog w K mg base 2 "_law_some" ["bag", "things"] (sp_law_some K) := ⟨f3, _, ok_law_some F3 T y2, PySem.W.mg_of X G a3, k3, b3⟩
  have y4 : CalleeOf l.prog w K mg base 1 "_law_row" ["mask"] (sp_law_row K) := ⟨f4, _, ok_law_row F4 T , PySem.W.mg_of X G a4, k4, b4⟩
  have y5 : CalleeOf l.prog w K mg base 3 "_law_any_row" ["bag", "many"] (sp_law_any_row K) := ⟨f5, _, ok_law_any_row F5 T y3 y2 y4, PySem.W.mg_of X G a5, k5, b5⟩
  have y6 : CalleeOf l.prog w K mg base 1 "_law_all_of" ["sums"] (sp_law_all_of K) := ⟨f6, _, ok_law_all_of F6 T , PySem.W.mg_of X G a6, k6, b6⟩
  have y7 : CalleeOf l.prog w K mg base 1 "_law_mask" ["row"] (sp_law_mask K) := ⟨f7, _, ok_law_mask F7 T , PySem.W.mg_of X G a7, k7, b7⟩
  have y8 : CalleeOf l.prog w K mg base 2 "_law_flat_of" ["lines"] (sp_law_flat_of K) := ⟨f8, _, ok_law_flat_of F8 T y7 y4, PySem.W.mg_of X G a8, k8, b8⟩
  have y9 : CalleeOf l.prog w K mg base 3 "_law_rank" ["rows"] (sp_law_rank K) := ⟨f9, _, ok_law_rank F9 T y8, PySem.W.mg_of X G a9, k9, b9⟩
  have y10 : CalleeOf l.prog w K mg base 1 "_law_alike" ["found", "due"] (sp_law_alike K) := ⟨f10, _, ok_law_alike F10 T , PySem.W.mg_of X G a10, k10, b10⟩
  have y11 : CalleeOf l.prog w K mg base 1 "together" ["sums"] (sp_together K) := ⟨f11, _, ok_together F11 T , PySem.W.mg_of X G a11, k11, b11⟩
  have y12 : CalleeOf l.prog w K mg base 2 "_rest" ["basis", "row", "used"] (sp_rest K) := ⟨f12, _, ok_rest F12 T y11, PySem.W.mg_of X G a12, k12, b12⟩
  have y13 : CalleeOf l.prog w K mg base 3 "_eliminated" ["sums"] (sp_eliminated K) := ⟨f13, _, ok_eliminated F13 T y12, PySem.W.mg_of X G a13, k13, b13⟩
  have y14 : CalleeOf l.prog w K mg base 4 "independent_among" ["sums"] (sp_independent_among K) := ⟨f14, _, ok_independent_among F14 T y13, PySem.W.mg_of X G a14, k14, b14⟩
  have y15 : CalleeOf l.prog w K mg base 5 "rank_of" ["sums"] (sp_rank_of K) := ⟨f15, _, ok_rank_of F15 T y14, PySem.W.mg_of X G a15, k15, b15⟩
  have y16 : CalleeOf l.prog w K mg base 1 "_law_worth" ["row", "bits"] (sp_law_worth K) := ⟨f16, _, ok_law_worth F16 T , PySem.W.mg_of X G a16, k16, b16⟩
  have y17 : CalleeOf l.prog w K mg base 1 "worth_of" ["row", "bits"] (sp_worth_of K) := ⟨f17, _, ok_worth_of F17 T , PySem.W.mg_of X G a17, k17, b17⟩
  have y18 : CalleeOf l.prog w K mg base 4 "dependent_lots" ["sums"] (sp_dependent_lots K) := ⟨f18, _, ok_dependent_lots F18 T y13, PySem.W.mg_of X G a18, k18, b18⟩
  have y19 : CalleeOf l.prog w K mg base 5 "dependent_lot" ["sums"] (sp_dependent_lot K) := ⟨f19, _, ok_dependent_lot F19 T y18, PySem.W.mg_of X G a19, k19, b19⟩
  have y20 : CalleeOf l.prog w K mg base 1 "_law_is_whole" ["thing"] (sp_law_is_whole K) := ⟨f20, _, ok_law_is_whole F20 T , PySem.W.mg_of X G a20, k20, b20⟩
  have y21 : CalleeOf l.prog w K mg base 2 "_law_is_in" ["thing", "many"] (sp_law_is_in K) := ⟨f21, _, ok_law_is_in F21 T y20, PySem.W.mg_of X G a21, k21, b21⟩
  have y22 : CalleeOf l.prog w K mg base 3 "_law_is_sum" ["many", "thing"] (sp_law_is_sum K) := ⟨f22, _, ok_law_is_sum F22 T y21, PySem.W.mg_of X G a22, k22, b22⟩
  have y23 : CalleeOf l.prog w K mg base 4 "_law_are_some" ["many", "thing"] (sp_law_are_some K) := ⟨f23, _, ok_law_are_some F23 T y22, PySem.W.mg_of X G a23, k23, b23⟩
  have y24 : CalleeOf l.prog w K mg base 6 "_law_are_told" ["bag", "many", "sums"] (sp_law_are_told K) := ⟨f24, _, ok_law_are_told F24 T y9 y2 y6 y10 y15 y11 y16 y17 y19 y23 y14, PySem.W.mg_of X G a24, k24, b24⟩
  have y25 : CalleeOf l.prog w K mg base 3 "used_by" ["basis", "row"] (sp_used_by K) := ⟨f25, _, ok_used_by F25 T y12, PySem.W.mg_of X G a25, k25, b25⟩
  have y26 : CalleeOf l.prog w K mg base 4 "basis_of" ["sums"] (sp_basis_of K) := ⟨f26, _, ok_basis_of F26 T y13, PySem.W.mg_of X G a26, k26, b26⟩
  have y27 : CalleeOf l.prog w K mg base 5 "sum_by" ["sums", "row"] (sp_sum_by K) := ⟨f27, _, ok_sum_by F27 T y25 y26, PySem.W.mg_of X G a27, k27, b27⟩
  have y28 : CalleeOf l.prog w K mg base 6 "_law_is_sum_right" ["sums", "row"] (sp_law_is_sum_right K) := ⟨f28, _, ok_law_is_sum_right F28 T y9 y27 y10 y6 y23, PySem.W.mg_of X G a28, k28, b28⟩
  exact ok_law F29 T y1 y3 y2 y5 y6 y24 y28
end Es
open PySem PySem.W PyProof.Rows
set_option maxHeartbeats 0 in
theorem PySem.Challenge.cw_eithersums_k02_whole_sums_put_together_holds : PySem.Challenge.rw_eithersums_k02_whole_sums_put_together.Holds := by
  w_on; o_law; k_head; (case hw => w_witness2)
  k_fill
  refine Es.walkG (l := PySem.Challenge.rw_eithersums_k02_whole_sums_put_together) (n := 63) (k := 7) (x := "script") (sp := Es.sp_law) rfl (by decide) rfl ⟨rfl, by decide, by decide⟩ (fun w h Y => PySem.W.kIn_of Y) ?F (fun _ _ a ns hl hS => ⟨a, ns, rfl, hS, hl, fun _ => rfl⟩)
  case F =>
    intro w mg fa h KX G hmg
    refine' Es.all_mk KX G hmg ?a1 ?l1 ?c1 ?k1 ?a2 ?l2 ?c2 ?k2 ?a3 ?l3 ?c3 ?k3 ?a4 ?l4 ?c4 ?k4 ?a5 ?l5 ?c5 ?k5 ?a6 ?l6 ?c6 ?k6 ?a7 ?l7 ?c7 ?k7 ?a8 ?l8 ?c8 ?k8 ?a9 ?l9 ?c9 ?k9 ?a10 ?l10 ?c10 ?k10 ?a11 ?l11 ?c11 ?k11 ?a12 ?l12 ?c12 ?k12 ?a13 ?l13 ?c13 ?k13 ?a14 ?l14 ?c14 ?k14 ?a15 ?l15 ?c15 ?k15 ?a16 ?l16 ?c16 ?k16 ?a17 ?l17 ?c17 ?k17 ?a18 ?l18 ?c18 ?k18 ?a19 ?l19 ?c19 ?k19 ?a20 ?l20 ?c20 ?k20 ?a21 ?l21 ?c21 ?k21 ?a22 ?l22 ?c22 ?k22 ?a23 ?l23 ?c23 ?k23 ?a24 ?l24 ?c24 ?k24 ?a25 ?l25 ?c25 ?k25 ?a26 ?l26 ?c26 ?k26 ?a27 ?l27 ?c27 ?k27 ?a28 ?l28 ?c28 ?k28 ?a29 ?l29 ?c29 ?k29 ?z1 ?z2 ?z3 ?z4 ?z5 ?z6 ?z7 ?z8 ?z9 ?z10 ?z11 ?z12 ?z13
    (case a1 => k_is)
    (case l1 => k_is)
    (case c1 => k_is)
    (case k1 => k_is)
    (case a2 => k_is)
    (case l2 => k_is)
    (case c2 => k_is)
    (case k2 => k_is)
    (case a3 => k_is)
    (case l3 => k_is)
    (case c3 => k_is)
    (case k3 => k_is)
    (case a4 => k_is)
    (case l4 => k_is)
    (case c4 => k_is)
    (case k4 => k_is)
    (case a5 => k_is)
    (case l5 => k_is)
    (case c5 => k_is)
    (case k5 => k_is)
    (case a6 => k_is)
    (case l6 => k_is)
    (case c6 => k_is)
    (case k6 => k_is)
    (case a7 => k_is)
    (case l7 => k_is)
    (case c7 => k_is)
    (case k7 => k_is)
    (case a8 => k_is)
    (case l8 => k_is)
    (case c8 => k_is)
    (case k8 => k_is)
    (case a9 => k_is)
    (case l9 => k_is)
    (case c9 => k_is)
    (case k9 => k_is)
    (case a10 => k_is)
    (case l10 => k_is)
    (case c10 => k_is)
    (case k10 => k_is)
    (case a11 => k_is)
    (case l11 => k_is)
    (case c11 => k_is)
    (case k11 => k_is)
    (case a12 => k_is)
    (case l12 => k_is)
    (case c12 => k_is)
    (case k12 => k_is)
    (case a13 => k_is)
    (case l13 => k_is)
    (case c13 => k_is)
    (case k13 => k_is)
    (case a14 => k_is)
    (case l14 => k_is)
    (case c14 => k_is)
    (case k14 => k_is)
    (case a15 => k_is)
    (case l15 => k_is)
    (case c15 => k_is)
    (case k15 => k_is)
    (case a16 => k_is)
    (case l16 => k_is)
    (case c16 => k_is)
    (case k16 => k_is)
    (case a17 => k_is)
    (case l17 => k_is)
    (case c17 => k_is)
    (case k17 => k_is)
    (case a18 => k_is)
    (case l18 => k_is)
    (case c18 => k_is)
    (case k18 => k_is)
    (case a19 => k_is)
    (case l19 => k_is)
    (case c19 => k_is)
    (case k19 => k_is)
    (case a20 => k_is)
    (case l20 => k_is)
    (case c20 => k_is)
    (case k20 => k_is)
    (case a21 => k_is)
    (case l21 => k_is)
    (case c21 => k_is)
    (case k21 => k_is)
    (case a22 => k_is)
    (case l22 => k_is)
    (case c22 => k_is)
    (case k22 => k_is)
    (case a23 => k_is)
    (case l23 => k_is)
    (case c23 => k_is)
    (case k23 => k_is)
    (case a24 => k_is)
    (case l24 => k_is)
    (case c24 => k_is)
    (case k24 => k_is)
    (case a25 => k_is)
    (case l25 => k_is)
    (case c25 => k_is)
    (case k25 => k_is)
    (case a26 => k_is)
    (case l26 => k_is)
    (case c26 => k_is)
    (case k26 => k_is)
    (case a27 => k_is)
    (case l27 => k_is)
    (case c27 => k_is)
    (case k27 => k_is)
    (case a28 => k_is)
    (case l28 => k_is)
    (case c28 => k_is)
    (case k28 => k_is)
    (case a29 => k_is)
    (case l29 => k_is)
    (case c29 => k_is)
    (case k29 => k_is)
    (case z1 => k_is)
    (case z2 => k_is)
    (case z3 => k_is)
    (case z4 => k_is)
    (case z5 => k_is)
    (case z6 => k_is)
    (case z7 => k_is)
    (case z8 => k_is)
    (case z9 => k_is)
    (case z10 => k_is)
    (case z11 => k_is)
    (case z12 => k_is)
    (case z13 => k_is)
