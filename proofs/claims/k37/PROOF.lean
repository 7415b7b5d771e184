import PyProof.Rows.All
import Wide.All
import OpenK.AllK
import Wide.FinOn
import HandS.Base
import HandS.Call
import HandS.List
import HandS.Ends
import HandS.Wide
import HandS.Iter
import HandS.Conv
import HandS.ForMost
import HandS.ForExc
import HandS.SortInts
import HandS.SortKw
import HandS.SetFor
import HandS.Style
import HandS.Codes
import HandS.Strs
import HandS.Walk
import HandS.IsInst
import HandS.NoneIn
import HandS.Deep
import HandS.More
import HandS.GenBody
import HandS.GenYield
import HandS.GenCall
import HandS.GenList
import KE.KDictZip
import KE.GoesEnumKw
import HandS.Star
import HandS.Gcd
import KE.KRevSl
import HandS.RaiseMore
import HandS.WideMore
import HandS.WideBits
import HandS.Exc
import HandS.ExcOwn
import HandS.ExcInit
import HandS.ExcField
import HandS.ExcIs
import HandS.WordsExc
import HandS.ExcCtx
import HandS.HotCalls
import HandS.ExcInitHot
import KE.KExcIs
import PySem.Challenge.RW_sortstretches_k37_errors_of_repeating
set_option maxHeartbeats 20000000
set_option Elab.async false
set_option linter.all false
set_option maxRecDepth 100000
namespace Xk
open PySem PySem.Spec PyProof.Rows L2

/-- a def's promise where no list is being written out around the call -/
structure FnG (P : Program) (w : World) (K : PySem.W.Frag) (mg : Str → Option Value) (B : Heap) (CX : CXT) (n : Nat) (g : Addr) (fd : FuncData) (ps : List Str) (sp : Sp) : Prop where
  cnt : ∀ vs H Q E, sp vs H Q E → vs.length = ps.length
  go : ∀ (A : Around) (ou : List Env) (t : Shared) (H : Hp) (ar : Args) (us : List Value) (vs : List V) (Q : VK) (E : XK),
    A.guards = some [] → Room n A → Env0 P w K mg B A ou t H → BindsTo t fd ar (ps.zip us) → Vals vs us → sp vs H Q E →
      codeAny (model P w) A (.call (.ref g) ar) (CR CX ou P w H t Q E) t

theorem FnG.of {P : Program} {w : World} {K : PySem.W.Frag} {mg : Str → Option Value} {B : Heap} {CX : CXT} {n : Nat} {g : Addr} {fd : FuncData} {ps : List Str} {sp : Sp}
    (F : FnOk P w K mg B CX n g fd ps sp) : FnG P w K mg B CX n g fd ps sp :=
  ⟨F.len, fun A ou t H ar us vs Q E _ room env bi rv hs => F.run A ou t H ar us vs Q E room env bi rv hs⟩

section
variable {X : Cx} {CX : CXT} {n : Nat} {g : Addr} {fd : FuncData} {ps ks : List Str} {sp : Sp} {dvs : List V} {ds : List Value} {E : XK} {x : Str} {p pos : Pos} {e : Expr} {es : List Expr} {kws : List Keyword} {t tk : TA}

theorem endG {pins : List (Addr × Obj)} {σ : L2.St} {H : Hp} {s s' : Shared} {Q : VK} {r : Result} (pas : Passes CX X E) (I : Inv X pins σ H s)
    (z : CR CX X.stack X.prog X.w H s Q E r s') :
    (match r with | .ok (.ret u) => EP X pins σ Q u s' | .ok _ => False | .error er => X.xe er s') := by
  match r, z with
  | .error er, z => exact pas pins σ H s er s' I z
  | .ok (.ret u), z => exact I.after z
  | .ok .next, z => exact z.elim
  | .ok .brk, z => exact z.elim
  | .ok .cont, z => exact z.elim

theorem goG {pins : List (Addr × Obj)} {σ : L2.St} {H : Hp} {s : Shared} {Q : VK} {us : List Value} {vs : List V} (F : FnG X.prog X.w X.K X.mg X.base CX n g fd ps sp)
    (hG : X.A.guards = some []) (room : Room n X.A) (bi : Binds X.K fd ps ds) (dv : Vals dvs ds) (pas : Passes CX X E) (I : Inv X pins σ H s) (rv : Vals vs us) (z : sp (vs ++ dvs) H Q E) :
    wpAny (model X.prog X.w) X.A (PySem.call (.ref g) us) (EP X pins σ Q) X.xe s := by
  have rv2 := rv.append dv
  have hlen : (us ++ ds).length = ps.length := rv2.length ▸ F.cnt _ _ _ _ z
  exact wpAny_call (codeAny_mono (F.go X.A X.stack s H ⟨us, []⟩ _ _ Q E hG room I.env0 (bi s us I.kIn hlen) rv2 z) fun r s' y => by
    have := endG pas I y
    revert this
    cases r with
    | error _ => exact id
    | ok fl => cases fl <;> exact id)

theorem pe_callG (F : FnG X.prog X.w X.K X.mg X.base CX n g fd ps sp) (hG : X.A.guards = some []) (room : Room n X.A) (gx : Gl X x) (at' : X.mg x = some (.ref g)) (kp : PySem.W.keepIn X.K (.ref g) = true)
    (bi : Binds X.K fd ps ds) (dv : Vals dvs ds) (pas : Passes CX X E) (ha : PA X (e :: es) t) (hdb : (x == ("__debug__" : Str)) = false := by decide)
    (he : starEach (e :: es) X.env = (false, eval e X.env) :: starEach es X.env := by rfl) (hpl : (backTo pos (starEach es X.env)).any (·.1) = false := by rfl) : PE X (.Call (.Name x p) (e :: es) [] pos) (tCall sp dvs E t) :=
  ⟨fun pins s σ H Q I z => wpAny_Call_Name_kw (ld_glob I gx at'
    (PySem.W.callWith_K (h₀ := X.base) I.ok.mod.kin kp (thn (ha.run pos pins s σ H _ I z) fun us s1 ⟨vs, H1, I1, r, q⟩ => ⟨I1.kIn, goG F hG room bi dv pas I1 r q⟩) he hpl) hdb)⟩

variable {ff : List Value → List Value → List Value} {fV : List V → List V → List V}
theorem goGK {pins : List (Addr × Obj)} {σ : L2.St} {H : Hp} {s : Shared} {Q : VK} {us ws : List Value} {vs zs : List V} (F : FnG X.prog X.w X.K X.mg X.base CX n g fd ps sp)
    (hG : X.A.guards = some []) (room : Room n X.A) (bi : KBinds X.K fd ps ks ff fV) (pas : Passes CX X E) (I : Inv X pins σ H s) (rv : Vals vs us) (rw' : Vals zs ws) (z : sp (fV vs zs) H Q E) :
    wpAny (model X.prog X.w) X.A (PySem.call (.ref g) us (ks.zip ws)) (EP X pins σ Q) X.xe s := by
  have rv2 := bi.rel rv rw'
  have hlen : (ff us ws).length = ps.length := rv2.length ▸ F.cnt _ _ _ _ z
  exact wpAny_call (codeAny_mono (F.go X.A X.stack s H ⟨us, ks.zip ws⟩ _ _ Q E hG room I.env0 (bi.to s us ws I.kIn hlen) rv2 z) fun r s' y => by
    have := endG pas I y
    revert this
    cases r with
    | error _ => exact id
    | ok fl => cases fl <;> exact id)

/-- f(e, .., k = v, ..) -/
theorem pe_callKG (F : FnG X.prog X.w X.K X.mg X.base CX n g fd ps sp) (hG : X.A.guards = some []) (room : Room n X.A) (gx : Gl X x) (at' : X.mg x = some (.ref g)) (kp : PySem.W.keepIn X.K (.ref g) = true)
    (bi : KBinds X.K fd ps ks ff fV) (pas : Passes CX X E) (ha : PA X (e :: es) t) (hkw : PK X kws tk) (hdb : (x == ("__debug__" : Str)) = false := by decide)
    (all' : (backToKw pos (keywordEach kws X.env)).all (·.1.isSome) = true := by rfl) (nms : (backToKw pos (keywordEach kws X.env)).filterMap (·.1) = ks := by rfl)
    (he : starEach (e :: es) X.env = (false, eval e X.env) :: starEach es X.env := by rfl)
    (hpl : ((backTo pos (starEach (e :: es) X.env)).any (·.1) || (backToKw pos (keywordEach kws X.env)).any (·.1.isNone)) = false := by rfl) :
    PE X (.Call (.Name x p) (e :: es) kws pos) (tCallK sp fV E t tk) := by
  subst nms
  exact ⟨fun pins s σ H Q I z => wpAny_Call_Name_kw (ld_glob I gx at'
    (PySem.W.callWith_KW (h₀ := X.base) I.ok.mod.kin kp all' (thn (ha.run pos pins s σ H _ I z) fun us s1 ⟨vs, H1, I1, r, q⟩ =>
      thn (hkw.run pos pins s1 σ H1 _ I1 q) fun ws s2 ⟨zs, H2, I2, rz, q2⟩ => ⟨I2.kIn, goGK F hG room bi pas I2 r rz q2⟩) hpl he) hdb)⟩
/-- f(k = v, ..) -/
theorem pe_callKG0 (F : FnG X.prog X.w X.K X.mg X.base CX n g fd ps sp) (hG : X.A.guards = some []) (room : Room n X.A) (gx : Gl X x) (at' : X.mg x = some (.ref g)) (kp : PySem.W.keepIn X.K (.ref g) = true)
    (bi : KBinds X.K fd ps ks ff fV) (pas : Passes CX X E) (hkw : PK X kws tk) (hdb : (x == ("__debug__" : Str)) = false := by decide)
    (all' : (backToKw pos (keywordEach kws X.env)).all (·.1.isSome) = true := by rfl) (nms : (backToKw pos (keywordEach kws X.env)).filterMap (·.1) = ks := by rfl)
    (hpl : ((backTo pos (starEach [] X.env)).any (·.1) || (backToKw pos (keywordEach kws X.env)).any (·.1.isNone)) = false := by rfl) :
    PE X (.Call (.Name x p) [] kws pos) (tCallK sp fV E tNil tk) := by
  subst nms
  exact ⟨fun pins s σ H Q I z => wpAny_Call_Name_kw (ld_glob I gx at'
    (PySem.W.callWith_KW0 (h₀ := X.base) I.ok.mod.kin kp all' (thn (hkw.run pos pins s σ H _ I z) fun ws s2 ⟨zs, H2, I2, rz, q2⟩ => ⟨I2.kIn, goGK F hG room bi pas I2 .nil rz q2⟩) hpl) hdb)⟩
end

/-- a def of the text by its body, the guards known -/
theorem fnG_of {P : Program} {w : World} {K : PySem.W.Frag} {mg : Str → Option Value} {B : Heap} {CX : CXT} {n : Nat} {g : Addr} {nm qual : Str} {pars : Arguments} {bd : List Stmt} {sc : Scope} {dV kV doc pm cdv ct oc : Value} {an od : Option Addr}
    {osl : Array (Option Value)} {N ps : List Str} {sp : Sp} (lk : K.lookup g = some ⟨oc, od, .func (PySem.W.fnOf nm qual pars bd sc dV kV doc pm an cdv ct), osl⟩) (hcd : PySem.W.codeIn K cdv qual = true) (S : FnScope N ps sc)
    (cnt : ∀ vs H Q E, sp vs H Q E → vs.length = ps.length)
    (body : ∀ (A : Around) (ou : List Env) (t : Shared) (H : Hp) (vs : List V) (Q : VK) (E : XK), A.guards = some [] → Room n (A.deeper (envOfC qual sc t.heap.objs.size g cdv)) → sp vs H Q E →
      ∃ r, PSs (cxOf CX P w K mg B N qual sc g cdv A ou t H E) bd r ∧ r { nx := fun _ H' => Q .non H', rt := Q } (L2.start N vs) H) :
    FnG P w K mg B CX (n + 1) g (PySem.W.fnOf nm qual pars bd sc dV kV doc pm an cdv ct) ps sp where
  cnt := cnt
  go A ou t H ar us vs Q E hG room env bi rv z := by
    have kin := env.mod.kin.keeps fun b o e => (env.bs b o e).1
    have lim := env.mod.nolimit.keeps fun b o e => (env.bs b o e).1
    have kinds : ∀ y ∈ ps.zip us, sc.names.lookup y.1 = some .local ∨ (sc.names.lookup y.1 = some .cell ∧ ((cellsFrom (t.heap.objs.size + 1) sc.names []).lookup y.1).isSome = true) := fun y hy =>
      (S.par y.1 (List.of_mem_zip (a := y.1) (b := y.2) hy).1).imp id fun q => ⟨q, PySem.W.cellsFrom_some _ _ _ (.inl q)⟩
    refine codeAny_call_function room.depth (kin _ _ lk) rfl S.co S.gen rfl (PySem.W.codeRec_of kin hcd) (bi _ _ _ _ (wpAny_newFunctionEnv_cells S.kind kinds fun env' he t1 x => ?_))
    subst he
    obtain ⟨r, hr, hq⟩ := body A ou t H vs Q E hG (room.deeper _) z
    refine ⟨lim.keeps x.toInCall.keep, codeAny_func (wpAny_mono (hr.run [] t1 (L2.start N vs) H _ (inv_start S room.hd env (cnt _ _ _ _ z) rv x) hq) (fun fl t' y => ?_) fun e t' y => y)⟩
    match fl, y with
    | .ret u, ⟨v, σ', H', J, ru, q⟩ => exact ⟨v, H', J.os, J.bare, J.base, J.hok, ru, q⟩
    | .next, ⟨σ', H', J, q⟩ => exact ⟨V.non, H', J.os, J.bare, J.base, J.hok, rfl, q⟩
    | .brk, ⟨_, _, _, q⟩ => exact q.elim
    | .cont, ⟨_, _, _, q⟩ => exact q.elim

/-- the law's call at the claim's caller, over an abstract heap that tracks the script at most -/
theorem lawG0 {P : Program} {w : World} {K : PySem.W.Frag} {mg mb : Str → Option Value} {CX : CXT} {n : Nat} {fa a : Addr} {fd : FuncData} {x : Str} {sp : Sp} {t : Shared} {vs : List Value} {H : Hp}
    (kin : K.In t.heap) (hm : t.heap.Ns mainGlobals mg) (hb : t.heap.Ns builtinsNs mb) (hbb : ∀ y : Str, y ≠ "__name__" → mb y = bootBuiltins y) (lim : t.heap.NoLimit) (gens : t.gens = #[])
    (ha : t.heap.get? a = some { cls := .type "list", data := .seq vs.toArray }) (room : Room n callerA)
    (F : ∀ B : Heap, K.In B → B.Ns mainGlobals mg → FnG P w K mg B CX n fa fd [x] sp) (bi : ∀ (s : Shared) (u : Value), BindsTo s fd ⟨[u], []⟩ [(x, u)])
    (z : sp [.ref a] H (fun v _ => v = .bl true) fun _ _ _ => False) (noX : ∀ H e s', CX [] H t (fun _ _ _ => False) e s' → False)
    (only : Only H) (hok : HOk P w H t.heap) (hA : ∀ b, H b ≠ none → b = a) (hK : H a ≠ none → K.lookup a = none) :
    codeAny (model P w) callerA (.call (.ref fa) ⟨[.ref a], []⟩) (fun r s' => r = .ok (.ret (.bool true)) ∧ OldK t.heap s'.heap ∧ s'.os = t.os ∧ AllBare s'.gens) t := by
  have free : ∀ {b : Addr}, b ≠ a → H b = none := fun {b} hne => Classical.byContradiction fun q => hne (hA b q)
  have low : ∀ {b : Addr} {o : Obj}, t.heap.get? b = some o → H b = none → (hidT t.heap H).get? b = some o := fun e q => hidT_get e q
  have dict : ∀ {b : Addr} {o : Obj} {es : Array DictEntry} {ep : Nat}, t.heap.get? b = some o → o.data = .dict es ep → H b = none := fun {b o es ep} e d => free fun q => by
    subst q
    rw [ha] at e
    cases e
    exact nomatch (show Data.seq vs.toArray _ = Data.dict es ep from d)
  have ns : ∀ {b : Addr} {m : Str → Option Value}, t.heap.Ns b m → (hidT t.heap H).Ns b m := fun ⟨o, es, ep, e, d, r⟩ => ⟨o, es, ep, low e (dict e d), d, r⟩
  have kb : K.In (hidT t.heap H) := fun b o e => low (kin b o e) (by
    by_cases q : b = a
    · subst q
      exact Classical.byContradiction fun y => by rw [hK y] at e; cases e
    · exact free q)
  obtain ⟨mc, l1, l2⟩ := lim
  have env : Env0 P w K mg (hidT t.heap H) callerA [] t H :=
    { frames := rfl, mod := ⟨kb, ns hm, ⟨mb, ns hb, hbb⟩, ⟨mc, ns l1, l2⟩⟩, bs := fun b o e => of_hidT e, bsz := Nat.le_of_eq (hidT_size _ _), funs := trivial,
      frf := fun b q => absurd (show b ∈ ([] : List Addr) from q) (by simp), hok := hok, bare := .of_eq gens }
  refine codeAny_mono ((F _ kb (ns hm)).go callerA [] t H ⟨[.ref a], []⟩ [.ref a] [.ref a] _ _ rfl room env (bi t (.ref a)) (.cons rfl .nil) z) fun r s' y => ?_
  match r, y with
  | .error e, y => exact (noX H e s' y).elim
  | .ok (.ret u), ⟨v, H', os, bare, un, hok', ru, q⟩ =>
    cases (show v = .bl true from q)
    cases (show u = Value.bool true from ru)
    refine ⟨rfl, OldK.of_keep fun b o e => ?_, os, bare⟩
    match hq : H b with
    | none => exact un.keep b o e hq (by intro q; exact absurd (show b ∈ ([] : List Addr) from q) (by simp)) (by simp)
    | some u =>
      rcases only b with q | ⟨ob, xs, q⟩
      · rw [hq] at q; cases q
      · obtain ⟨e1, _⟩ := hok b _ q
        obtain ⟨e2, _⟩ := hok' b _ (un.frzs b ob _ q)
        rw [e] at e1; cases e1
        exact e2

theorem lawG {P : Program} {w : World} {K : PySem.W.Frag} {mg mb : Str → Option Value} {CX : CXT} {n : Nat} {fa a : Addr} {fd : FuncData} {x : Str} {sp : Sp} {t : Shared} {vs : List Value} {ns : List Int}
    (kin : K.In t.heap) (hm : t.heap.Ns mainGlobals mg) (hb : t.heap.Ns builtinsNs mb) (hbb : ∀ y : Str, y ≠ "__name__" → mb y = bootBuiltins y) (lim : t.heap.NoLimit) (gens : t.gens = #[])
    (ha : t.heap.get? a = some { cls := .type "list", data := .seq vs.toArray }) (hi : IntsAre vs ns) (hl : ns.length ≤ sizeLine) (room : Room n callerA)
    (F : ∀ B : Heap, K.In B → B.Ns mainGlobals mg → FnG P w K mg B CX n fa fd [x] sp) (bi : ∀ (s : Shared) (u : Value), BindsTo s fd ⟨[u], []⟩ [(x, u)])
    (z : ∀ H : Hp, Only H → SqL K H a (ns.map V.int) → sp [.ref a] H (fun v _ => v = .bl true) fun _ _ _ => False) (noX : ∀ H e s', CX [] H t (fun _ _ _ => False) e s' → False) :
    codeAny (model P w) callerA (.call (.ref fa) ⟨[.ref a], []⟩) (fun r s' => r = .ok (.ret (.bool true)) ∧ OldK t.heap s'.heap ∧ s'.os = t.os ∧ AllBare s'.gens) t := by
  have rv := vals_ints hi
  match hk : K.lookup a with
  | some o =>
    have e := kin a o hk
    rw [ha] at e
    cases e
    have on : Only fun _ => none := fun _ => .inl rfl
    exact lawG0 kin hm hb hbb lim gens ha room F bi (z _ on (.inr ⟨_, vs.toArray, _, hk, rfl, rfl, rfl, by rw [List.size_toArray, hi.length]; exact hl, by simpa using rv⟩)) noX on
      (fun b u q => nomatch (show (none : Option HO) = some u from q)) (fun b q => absurd rfl q) fun q => absurd rfl q
  | none =>
    have at0 : ∀ {b : Addr}, b ≠ a → (if b = a then some (HO.frz { cls := .type "list", data := .seq vs.toArray } (.lst (ns.map V.int))) else none) = none := fun q => if_neg q
    have on : Only fun b => if b = a then some (HO.frz { cls := .type "list", data := .seq vs.toArray } (.lst (ns.map V.int))) else none := fun b => by
      by_cases q : b = a
      · exact .inr ⟨_, _, if_pos q⟩
      · exact .inl (if_neg q)
    refine lawG0 kin hm hb hbb lim gens ha room F bi (z _ on (.inl (.inr ⟨_, if_pos rfl⟩))) noX on (fun b u q => ?_) (fun b q => Classical.byContradiction fun y => q (if_neg y)) fun _ => hk
    by_cases y : b = a
    · subst y
      cases (if_pos rfl).symm.trans q
      exact ⟨ha, by rw [List.length_map]; exact hl, vs, _, rv, ha⟩
    · cases (at0 y).symm.trans q

/-- the goal that the head leaves, from the law's promise -/
theorem walkG {l : PySem.W.OpenLaw} {m n : Nat} {q : Program} {loose : List Str} {XP : (Str → Option Value) → Heap → Prop} {YP : World → Heap → Prop} {d : DefRec} {K : Params → PySem.W.Frag} {CX : CXT} {sp : PySem.W.Frag → Sp} {x : Str}
    (hn : l.most = some m) (hm : m ≤ sizeLine) (hdf : d.params.defaults = []) (room : Room n callerA) (hY : ∀ (w : World) (h : Heap), YP w h → (K w.params).In h)
    (F : ∀ (w : World) (mg : Str → Option Value) (fa : Addr) (h : Heap), (K w.params).In h → h.Ns mainGlobals mg → mg d.name = some (.ref fa) →
      ∃ fd : FuncData, (∀ (s : Shared) (u : Value), BindsTo s fd ⟨[u], []⟩ [(x, u)]) ∧
        ∀ B : Heap, (K w.params).In B → B.Ns mainGlobals mg → FnG l.prog w (K w.params) mg B CX n fa fd [x] (sp (K w.params)))
    (z : ∀ (K : PySem.W.Frag) (H : Hp) (a : Addr) (ns : List Int), ns.length ≤ m → Only H → SqL K H a (ns.map V.int) → sp K [.ref a] H (fun v _ => v = .bl true) fun _ _ _ => False)
    (noX : ∀ (H : Hp) (s : Shared) (e : Value) (s' : Shared), CX [] H s (fun _ _ _ => False) e s' → False) : PySem.W.WalkO q loose XP YP l.row.toRowW d [] (fun f vs => PySem.call f vs) :=
  Att.attach_call hn hdf fun w s0 s1 mg mb fa o pm cd doc a vs ns G Y ho hd hcd hmg hobj hints hlen hg =>
    have ⟨fd, hb, hF⟩ := F w mg fa _ (hY w _ Y) G.T.g hmg
    lawG (hY w _ Y) G.T.g G.T.b G.T.builtins G.T.nolimit hg hobj hints (Nat.le_trans hlen hm) room hF hb (fun H hO hS => z (K w.params) H a ns hlen hO hS) fun H e s' => noX H s1 e s'
end Xk

set_option Elab.async false
set_option linter.all false
set_option maxRecDepth 100000
namespace Xk
open PySem PySem.Spec PyProof.Rows L2

/-- ** with a whole exponent: base's bits times exponent within 2^27 -/
def CPowW (i j : Int) : Prop := 0 ≤ j ∧ (Builtin.Int.intBits i : Int) * j ≤ 2 ^ 27
section
variable {X : Cx}
theorem op_powW : OpR X (binaryOp .Pow) (rI CPowW fun i j => .int (i ^ j.toNat)) := opI fun _ _ _ _ _ _ _ hc q => pow_int hc.1 hc.2 q
end
theorem bits_le {i : Int} {n : Nat} (h : i.natAbs < 2 ^ n) : Builtin.Int.intBits i ≤ n := by
  unfold Builtin.Int.intBits
  split
  · omega
  · rename_i h0
    have h0' : i.natAbs ≠ 0 := by
      intro z
      apply h0
      simp [Int.natAbs_eq_zero.mp z]
    have := (Nat.log2_lt h0').mpr h
    omega
theorem powW {i : Int} {n : Nat} {j : Int} (h : i.natAbs < 2 ^ n) (h0 : 0 ≤ j) (hj : j ≤ 3) (hn : n ≤ 40000000) : CPowW i j := by
  refine ⟨h0, ?_⟩
  have h1 := bits_le h
  have : (Builtin.Int.intBits i : Int) * j ≤ 40000000 * 3 := by
    refine Int.mul_le_mul ?_ hj h0 (by omega)
    omega
  refine Int.le_trans this (by decide)

/-! ### xs[i] read for op= -/
section
variable {X : Cx}
theorem get_list : PGet X (rIxL X.K) := by
  intro pins s σ H o i ov iv Q I ro ri h
  obtain ⟨p, xs, k, z, rfl, rfl, hq, he, q⟩ := h
  cases ro
  obtain ⟨t, rfl⟩ := ri
  obtain ⟨its, r, pl, hz⟩ := I.list hq
  obtain ⟨j, h1, h2, h3, h4, h5⟩ := atI_get he
  obtain ⟨u, eu, ru⟩ := r.get h2
  have hl := r.length
  have hn := line63
  by_cases h0 : 0 ≤ k
  · have hj : k.toNat = j := by
      rw [seqIndex_of h0 h5] at h1
      exact Option.some.inj h1
    exact wpAny_getItem_list pl.isList h0 (by omega) (by rw [hj]; simpa using eu) ⟨z, H, I, ru, q⟩
  · have hj : (k + (its.toArray.size : Int)).toNat = j := by
      rw [seqIndex_neg (by omega) h4] at h1
      rw [List.size_toArray, ← hl]
      exact Option.some.inj h1
    exact wpAny_getItem_list_neg pl.isList (by omega) (by rw [List.size_toArray] <;> omega) (by omega) (by rw [hj]; simpa using eu) ⟨z, H, I, ru, q⟩
end

/-! ### xs[a:c] = ys -/
section
variable {X : Cx} {o : Expr} {lo hi : Option Expr} {to : TE} {tl th : TO} {p2 pos : Pos}
def gSlc (to : TE) (tl th : TO) : TG := fun v σ H Q => to σ H fun x H1 => tl σ H1 fun l H2 => th σ H2 fun u H3 =>
  ∃ (p b : Addr) (xs ys : List V) (a c : Int), x = .ref p ∧ v = .ref b ∧ l = some a ∧ u = some c ∧ H3 p = some (.lst xs) ∧ H3 b = some (.lst ys) ∧ p ≠ b ∧ 0 ≤ a ∧ a ≤ c ∧ c ≤ xs.length ∧ xs.length + ys.length ≤ sizeLine ∧
    Q σ (upd H3 p (.lst (xs.take a.toNat ++ ys ++ xs.drop c.toNat)))
theorem pg_slc (ho : PE X o to) (hl : PO X lo tl) (hu : PO X hi th) : PG X (.Subscript o (.Slice lo hi none p2) pos) (gSlc to tl th) := by
  refine ⟨fun pins s σ H v u Q I r z => ?_⟩
  rw [arm_assign_Subscript]
  refine wpAny_bind (wpAny_holding (thn (ho.run pins s σ H _ I z) fun ov s1 ⟨x, H1, I1, r1, q1⟩ => ?_))
  refine wpAny_bind (wpAny_holding (wpAny_Slice (thn (hl.run pins s1 σ H1 _ I1 q1) fun vl s2 ⟨l, H2, I2, pl, q2⟩ => thn (hu.run pins s2 σ H2 _ I2 q2) fun vu s3 ⟨c', H3, I3, pu, q3⟩ => ?_)))
  rw [evalPart_none]
  refine wpAny_pure ?_
  obtain ⟨p, b, xs, ys, a, c, rfl, rfl, rfl, rfl, hp, hb, hne, h0, hac, hc, hz, q⟩ := q3
  cases r1
  cases r
  cases pl with
  | int _ ta =>
    cases pu with
    | int _ tc =>
      have I4 : Inv X pins σ H3 { s3 with heap := s3.heap.push { cls := .type "slice", data := .fields #[.int a ta, .int c tc, .none] } } := I3.kept (t' := s3.toks) fun b ob q => Heap.get?_push_of_some _ q
      refine wpAny_bind (wpAny_standAt (wpAny_bind (wpAny_holding (set_slice I4 hp hb hne (Heap.IsSliceOf.new ..) ⟨ta, rfl⟩ ⟨tc, rfl⟩ h0 hac hc hz fun s' I5 => ?_))))
      exact wpAny_release ⟨σ, _, I5, q⟩
end

/-! ### repr of lists -/
section
variable {X : Cx}
mutual
theorem dp_nodict {K : PySem.W.Frag} {H : Hp} : ∀ (d : PyData) (v : V), Dp K H v d → d.hasDict = false
  | .none, _, _ => rfl
  | .bool _, _, _ => rfl
  | .int _, _, _ => rfl
  | .str _, _, _ => rfl
  | .list ds, _, h => by
    cases h with
    | lst _ a => exact dp_nodictAll ds _ a
  | .tuple ds, _, h => by
    cases h with
    | tup _ a => exact dp_nodictAll ds _ a
  | .dict _, _, h => by cases h
theorem dp_nodictAll {K : PySem.W.Frag} {H : Hp} : ∀ (ds : List PyData) (vs : List V), DpAll K H vs ds → PyData.hasDictAll ds = false
  | [], _, _ => rfl
  | d :: ds, _, h => by
    cases h with
    | cons a b =>
      show (d.hasDict || PyData.hasDictAll ds) = false
      rw [dp_nodict d _ a, dp_nodictAll ds _ b]
      rfl
end
def rReprD (K : PySem.W.Frag) : List V → Hp → VK → Prop := fun xs H Q => ∃ a d, xs = [.ref a] ∧ Dp K H (.ref a) d ∧ d.showable = true ∧ d.depth ≤ 60 ∧ d.shown.length ≤ sizeLine ∧ Q (.str d.shown) H
theorem call_reprD (hG : X.A.guards = some []) (hu : X.A.units + 64 < cLine) : CallR X (.builtin "repr") (rReprD X.K) := by
  intro pins s σ H xs us Q I r h
  obtain ⟨a, d, rfl, hd, hs, hdp, hz, q⟩ := h
  obtain ⟨u, rfl, rfl⟩ := vals1 r
  obtain ⟨as, rd⟩ := Dp.reads I d _ _ hd rfl
  exact repr_of_reads' rd hs (fun z => by rw [dp_nodict d _ hd] at z; cases z) hG (by omega) (fun b o e => e) (fun h' u tk k => ⟨.str d.shown, H, I.kept k, ⟨u, rfl⟩, q⟩) hz
end
end Xk

set_option Elab.async false
set_option linter.all false
set_option maxRecDepth 100000
namespace Xk
open PySem PySem.Spec PyProof.Rows L2
/-! ### list(range(a, b, c)) -/
def rg3V (i c : Int) (n : Nat) : List V := (List.range n).map fun k => V.int (i + (k : Nat) * c)
theorem rg3V_length (i c : Int) (n : Nat) : (rg3V i c n).length = n := by unfold rg3V; simp
theorem vals_rg3 {i c : Int} {n : Nat} {acc : Array Value} (h : ItemsOf (fun k v => ∃ t, v = .int (i + k * c) t) acc n) : Vals (rg3V i c n) acc.toList := by
  have e : acc.toList.length = n := by rw [Array.length_toList]; exact h.1
  unfold rg3V
  rw [← e]
  refine vals_of_get _ (fun k => V.int (i + (k : Nat) * c)) fun j u hu => ?_
  exact h.2 j u (by simpa using hu)
def tLst3 (ta : TA) : TE := fun σ H Q => ta σ H fun vs H1 => ∃ (i j c : Int) (n : Nat), vs = [.int i, .int j, .int c] ∧ RgC i j c n ∧ n ≤ 2 ^ 24 ∧ ∀ q, H1 q = none → Q (.ref q) (upd H1 q (.lst (rg3V i c n)))
section
variable {X : Cx} {a b c : Expr} {ta : TA} {p pos p1 pos1 : Pos}
theorem pe_listRg3 (calm : X.calm = true) (hl : Gl X "list") (ml : X.mg "list" = none) (hg : Gl X "range") (hm : X.mg "range" = none) (ha : PA X [a, b, c] ta)
    (hs : starEach [a, b, c] X.env = (false, eval a X.env) :: starEach [b, c] X.env := by rfl) (hpl : (backTo pos (starEach [b, c] X.env)).any (·.1) = false := by rfl)
    (na : starEach [Expr.Call (.Name "range" p) [a, b, c] [] pos] X.env = (false, eval (Expr.Call (.Name "range" p) [a, b, c] [] pos) X.env) :: starEach [] X.env := by rfl) :
    PE X (.Call (.Name "list" p1) [.Call (.Name "range" p) [a, b, c] [] pos] [] pos1) (tLst3 ta) := by
  refine ⟨fun pins s σ H Q I z => ?_⟩
  refine Call_ (ld_blt I hl ml boot_list (PyProof.Rows.callWith_type1 (args_cons (Call_ (ld_blt I hg hm boot_range (PyProof.Rows.callWith_type1 (thn (ha.run pos pins s σ H _ I z) fun us s1 ⟨vs, H1, I1, r1, q1⟩ => ?_) hs hpl))) na) na))
  obtain ⟨i, j, k, n, e, ⟨c0, c1, c2, c3⟩, hn, q⟩ := q1
  subst e
  cases r1 with
  | cons r rr =>
    cases rr with
    | cons r' rr =>
      cases rr with
      | cons r'' rr =>
        cases rr
        obtain ⟨t, rfl⟩ := r
        obtain ⟨t', rfl⟩ := r'
        obtain ⟨t'', rfl⟩ := r''
        refine call_range_3 c0 (args_nil ?_) (.inl (PyProof.noPylong_small c1))
        have I2 : Inv X pins σ H1 { s1 with heap := s1.heap.push { cls := .type "range", data := .fields #[.int i t, .int j t', .int k t''] }, toks := s1.toks } := I1.kept fun b o e => Heap.get?_push_of_some _ e
        refine call_list_range (n := n) (I2.ok.hd calm) (IsRange.new ..) c2 c3 hn fun h' tk acc c' hk e' hi => ?_
        refine ⟨.ref _, upd H1 _ (.lst (rg3V i k n)), I2.laid hk (Nat.le_refl _) (show ObjOk X.prog X.w _ _ _ (.lst (rg3V i k n)) from ⟨?_, acc.toList, c', vals_rg3 hi, ?_⟩), rfl, q _ (I2.hok.fresh (Nat.le_refl _))⟩
        · rw [rg3V_length]; exact hn
        · rw [Array.toArray_toList]; exact e'
end
end Xk

set_option Elab.async false
set_option linter.all false
set_option maxRecDepth 100000
namespace Xk
open PySem PySem.Spec PyProof.Rows L2

section
variable {P : Program} {w : World} {K : PySem.W.Frag} {mg : Str → Option Value} {base : Heap}
/-- a def by its body, the guards known, nothing raised -/
theorem okG {x qual : Str} {st : Stmt} {f : Addr} {fd : FuncData} {N ps : List Str} {k : Nat} {sp : Sp} (F : Fun K x qual st f fd) (S : FnScope N ps (defScope st)) (cnt : ∀ vs H Q E, sp vs H Q E → vs.length = ps.length)
    (body : ∀ (cdv : Value) (A : Around) (ou : List Env) (t : Shared) (H : Hp) (vs : List V) (Q : VK) (E : XK), A.guards = some [] → Room k (A.deeper (envOfC qual (defScope st) t.heap.objs.size f cdv)) → sp vs H Q E →
      ∃ r, PSs (cxOf CX0 P w K mg base N qual (defScope st) f cdv A ou t H E).nox (defBody st) r ∧ r ⟨fun _ H' => Q .non H', Q, fun _ _ => False, fun _ _ => False⟩ (L2.start N vs) H) : FnG P w K mg base CX0 (k + 1) f fd ps sp := by
  obtain ⟨oc, od, kV, doc, pm, an, cdv, ct, osl, rfl, lk, hcd⟩ := F.ex
  refine fnG_of lk hcd S cnt fun A ou t H vs Q E hG hr hsp => ?_
  obtain ⟨r, h, q⟩ := body cdv A ou t H vs Q E hG hr hsp
  exact ⟨r, h.nox, q⟩
end

/-! ### words -/
section
variable {X : Cx} {x : Str} {pos pos' : Pos} {e : Expr} {te : TE} {op : Operator} {ti : TIp}
theorem sset (i : Nat) (nd : X.N.Nodup) (he : PE X e te) (hi : X.N[i]? = some x := by rfl) (hx : Loc X.env.scope x := by first | exact Or.inl rfl | exact Or.inr rfl)
    (hs : swapsWith e (some (.Name x pos')) pos.line X.env = pure false := by rfl) (hf : X.fn x = true ∨ X.env.scope.names.lookup x = some .local := by first | exact Or.inl rfl | exact Or.inr rfl) : PS X (.Assign [.Name x pos'] e pos) (tAsg te (gName i)) := ps_set nd hi hx he hs hf
theorem gset (i : Nat) (nd : X.N.Nodup) (hi : X.N[i]? = some x := by rfl) (hx : Loc X.env.scope x := by first | exact Or.inl rfl | exact Or.inr rfl) (hf : X.fn x = true ∨ X.env.scope.names.lookup x = some .local := by first | exact Or.inl rfl | exact Or.inr rfl) : PG X (.Name x pos) (gName i) := pg_name nd hi hx hf
theorem saug (i : Nat) (nd : X.N.Nodup) (he : PE X e te) (ho : PIp X op ti) (hi : X.N[i]? = some x := by rfl) (hx : Loc X.env.scope x := by first | exact Or.inl rfl | exact Or.inr rfl) (hf : X.fn x = true ∨ X.env.scope.names.lookup x = some .local := by first | exact Or.inl rfl | exact Or.inr rfl) : PS X (.AugAssign (.Name x pos') op e pos) (tAug i te ti) := ps_aug nd hi hx he ho hf
end
/-! ### the rules that speak of the written part, the part given -/
section
variable {X : Cx} (K : PySem.W.Frag) {e a b l o : Expr} {es ts : List Expr} {te ta tb tl to : TE} {t : TA} {g : TGs} {pos cpos apos p p1 p2 p3 tpos : Pos} {tg : Expr} {T id : String} {name : Str}
theorem ix_listK (hK : X.K = K := by rfl) : IxR X (rIxL K) := hK ▸ ix_list
theorem ix_tupK (hK : X.K = K := by rfl) : IxR X (rIxT K) := hK ▸ ix_tup
theorem sl_listK (hK : X.K = K := by rfl) : SlR X (rSlL K) := hK ▸ sl_list
theorem sl_tupK (hK : X.K = K := by rfl) : SlR X (rSlT K) := hK ▸ sl_tup
def rLen (K : PySem.W.Frag) : List V → Hp → VK → Prop := fun xs H Q => ∃ p ys, xs = [.ref p] ∧ (SqL K H p ys ∨ SqT K H p ys) ∧ Q (.int ys.length) H
theorem lenK (hK : X.K = K := by rfl) : CallR X (.builtin "len") (rLen K) := hK ▸ call_len_seq
def rListOf (K : PySem.W.Frag) : List V → Hp → VK → Prop := fun xs H Q => ∃ p ys, xs = [.ref p] ∧ (SqL K H p ys ∨ SqT K H p ys) ∧ ∀ l, H l = none → Q (.ref l) (upd H l (.lst ys))
theorem listK (hK : X.K = K := by rfl) : CallR X (.type "list") (rListOf K) := hK ▸ call_list_of
def rTupOf (K : PySem.W.Frag) : List V → Hp → VK → Prop := fun xs H Q => ∃ p ys, xs = [.ref p] ∧ ((SqL K H p ys ∧ ∀ l, H l = none → Q (.ref l) (upd H l (.tup ys))) ∨ (SqT K H p ys ∧ Q (.ref p) H))
theorem tupleK (hK : X.K = K := by rfl) : CallR X (.type "tuple") (rTupOf K) := hK ▸ call_tuple_of
theorem sumK (hc : X.calm = true) (hK : X.K = K := by rfl) : CallR X (.builtin "sum") (rSum K) := hK ▸ cr_sum hc
theorem minK (hc : X.calm = true) (hK : X.K = K := by rfl) : CallR X (.builtin "min") (rMin K) := hK ▸ cr_min hc
theorem maxK (hc : X.calm = true) (hK : X.K = K := by rfl) : CallR X (.builtin "max") (rMax K) := hK ▸ cr_max hc
theorem allK (hc : X.calm = true) (hK : X.K = K := by rfl) : CallR X (.builtin "all") (rAll K) := hK ▸ cr_all hc
theorem anyK (hc : X.calm = true) (hK : X.K = K := by rfl) : CallR X (.builtin "any") (rAny K) := hK ▸ cr_any hc
theorem sortedK (hK : X.K = K := by rfl) : CallR X (.builtin "sorted") (rSortedI K) := hK ▸ cr_sortedI
theorem sortedRK (hK : X.K = K := by rfl) : CallRK X (.builtin "sorted") [Str.ofString "reverse"] (rSortedKw K true [.bl true]) := hK ▸ cr_sortedRev
theorem reprK (hG : X.A.guards = some []) (hu : X.A.units + 64 < cLine) (hK : X.K = K := by rfl) : CallR X (.builtin "repr") (rReprD K) := hK ▸ call_reprD hG hu
theorem eqDK (hu : X.A.units + 64 < cLine) (hK : X.K = K := by rfl) : OpR X (compareOp .Eq) (rEqD K) := hK ▸ op_eqD hu
theorem neDK (hu : X.A.units + 64 < cLine) (hK : X.K = K := by rfl) : OpR X (compareOp .NotEq) (rNeD K) := hK ▸ op_neD hu
theorem inK (hK : X.K = K := by rfl) : OpR X (compareOp .In) (rIn K false) := hK ▸ op_in_seq
theorem notInK (hK : X.K = K := by rfl) : OpR X (compareOp .NotIn) (rIn K true) := hK ▸ op_notIn_seq
theorem lcountK (hK : X.K = K := by rfl) : MtR X "list.count" (rCntI K) := hK ▸ mt_lcount
theorem lindexK (hK : X.K = K := by rfl) : MtR X "list.index" (rIndex K) := hK ▸ mt_index
theorem getK (hK : X.K = K := by rfl) : PGet X (rIxL K) := hK ▸ get_list
theorem pi_listK (h : PE X l tl) (hK : X.K = K := by rfl) : PI X tg l (iList K tl) := hK ▸ pi_list h
theorem pi_tupK (h : PE X l tl) (hK : X.K = K := by rfl) : PI X tg l (iTup K tl) := hK ▸ pi_tup h
theorem pi_enumK {elts : List Expr} {kk : Nat} (hg : Gl X "enumerate") (hm : X.mg "enumerate" = none) (ha : PA X [e] t) (hs : starEach [e] X.env = [(false, eval e X.env)] := by rfl) (hK : X.K = K := by rfl) :
    PI X (.Tuple elts kk tpos) (.Call (.Name "enumerate" p) [e] [] pos) (iEnum K t) := hK ▸ pi_enum hg hm ha hs
theorem pi_reversedK (hg : Gl X "reversed") (hm : X.mg "reversed" = none) (ha : PA X [e] t) (hs : starEach [e] X.env = [(false, eval e X.env)] := by rfl) (hK : X.K = K := by rfl) : PI X tg (.Call (.Name "reversed" p) [e] [] pos) (iRev K t) := hK ▸ pi_reversed hg hm ha hs
theorem pe_revLK {k : Nat} (he : PE X e te) (hK : X.K = K := by rfl) : PE X (.Subscript e (.Slice none none (some (.UnaryOp .USub (.Constant (.int 1) k p1) p2)) p3) pos) (tRevL K te) := hK ▸ pe_revL he
theorem pg_tupK {k : Nat} (n : Nat) (hc : X.calm = true) (h : PGs X es g) (hn : (assignEach es X.env).length = n := by rfl) (hst : (assignEach es X.env).findIdx? (·.1) = none := by rfl) (hK : X.K = K := by rfl) : PG X (.Tuple es k pos) (gTup K n g) := hK ▸ pg_tup hc h hn hst
theorem pi_zipK {e2 : Expr} {elts : List Expr} {kk : Nat} (hg : Gl X "zip") (hm : X.mg "zip" = none) (ha : PA X [e, e2] t)
    (hs : starEach [e, e2] X.env = (false, eval e X.env) :: starEach [e2] X.env := by rfl) (hpl : (backTo pos (starEach [e2] X.env)).any (·.1) = false := by rfl) (hK : X.K = K := by rfl) :
    PI X (.Tuple elts kk tpos) (.Call (.Name "zip" p) [e, e2] [] pos) (iZip K t) := hK ▸ pi_zip hg hm ha hs hpl
theorem pe_bmK {r : V → List V → Hp → VK → Prop} (pa : PlainAttrs T) (slot : Slot T name id) (hty : typeOf (.builtin id) = pure (.type "method_descriptor")) (hm : MtR X id r) (ho : PE X o to) (ha : PA X (e :: es) t)
    (hbase : attributeBase o name X.env (eval o X.env) = eval o X.env := by rfl)
    (hfew : ((backTo cpos (starEach (e :: es) X.env)).all (fun x => !x.1) && (backToKw cpos (keywordEach [] X.env)).all (fun x => x.1.isSome) && decide ((e :: es).length + ([] : List Keyword).length + (if ([] : List Keyword).isEmpty then 0 else 1) < 30)) = true := by rfl)
    (hline : (apos.endLine == cpos.line) = true := by rfl) (hs : starEach (e :: es) X.env = (false, eval e X.env) :: starEach es X.env := by rfl) (hplain : (backTo cpos (starEach es X.env)).any (·.1) = false := by rfl) (hK : X.K = K := by rfl) :
    PE X (.Call (.Attribute o name apos) (e :: es) [] cpos) (tBM K T r to t) := hK ▸ pe_bm pa slot hty hm ho ha hbase hfew hline hs hplain
theorem pe_bm0K {r : V → List V → Hp → VK → Prop} (pa : PlainAttrs T) (slot : Slot T name id) (hty : typeOf (.builtin id) = pure (.type "method_descriptor")) (hm : MtR X id r) (ho : PE X o to)
    (hbase : attributeBase o name X.env (eval o X.env) = eval o X.env := by rfl) (hline : (apos.endLine == cpos.line) = true := by rfl) (hK : X.K = K := by rfl) : PE X (.Call (.Attribute o name apos) [] [] cpos) (tBM0 K T r to) := hK ▸ pe_bm0 pa slot hty hm ho hbase hline
def tTruth (K : PySem.W.Frag) (ta : TE) : TT := fun σ H Q => ta σ H fun x H' => ∃ k, TruV K x H' k ∧ Q k H'
theorem pt_truthK (ha : PE X a ta) (he : ∀ whole, isTrue a X.env whole = (do let v ← whole; standAt a.pos; holding [v] (truthy v)) := by intro _; rfl) (hK : X.K = K := by rfl) : PT X a (tTruth K ta) := hK ▸ pt_truth ha he
end
end Xk

set_option Elab.async false
set_option linter.all false
set_option maxRecDepth 100000
namespace Xk
open PySem PySem.Spec PyProof.Rows L2

section
variable {K : PySem.W.Frag} {σ : L2.St} {H : Hp} {Q : VK} {R : List V → Hp → Prop} {ta tb te tc tv : TE} {tA : TA} {t u : TT} {v x y : V} {i j : Int} {Qb : Bool → Hp → Prop}
  {nx bk ct : L2.St → Hp → Prop} {rt : VK} {s1 s2 : TS} {g g1 : TG} {gs : TGs}
/-! ### expressions -/
theorem r_var {n : Nat} (h : σ[n]? = some (some v)) (q : Q v H) : tVar n σ H Q := ⟨v, h, q⟩
theorem r_c (q : Q v H) : tC v σ H Q := q
theorem r_op {r : R2} (h : ta σ H fun x H1 => tb σ H1 fun y H2 => r x y H2 Q) : tOp r ta tb σ H Q := h
theorem r_un {r : V → Hp → VK → Prop} (h : ta σ H fun x H1 => r x H1 Q) : tUn r ta σ H Q := h
theorem r_I0 {f : Int → Int → V} (q : Q (f i j) H) : rI0 f (.int i) (.int j) H Q := ⟨i, j, rfl, rfl, q⟩
theorem r_I {C : Int → Int → Prop} {f : Int → Int → V} (hc : C i j) (q : Q (f i j) H) : rI C f (.int i) (.int j) H Q := ⟨i, j, rfl, rfl, hc, q⟩
theorem r_U {f : Int → V} (q : Q (f i) H) : rU f (.int i) H Q := ⟨i, rfl, q⟩
theorem r_ixL {p : Addr} {xs : List V} (h : SqL K H p xs) (ha : atI xs i = some v) (q : Q v H) : rIxL K (.ref p) (.int i) H Q := ⟨p, xs, i, v, rfl, rfl, h, ha, q⟩
theorem r_ixT {p : Addr} {xs : List V} (h : SqT K H p xs) (ha : atI xs i = some v) (q : Q v H) : rIxT K (.ref p) (.int i) H Q := ⟨p, xs, i, v, rfl, rfl, h, ha, q⟩
theorem r_nil (q : R [] H) : tNil σ H R := q
theorem r_cons (h : ta σ H fun x H1 => tA σ H1 fun xs H2 => R (x :: xs) H2) : tCons ta tA σ H R := h
theorem r_lst (h : tA σ H fun xs H1 => xs.length ≤ sizeLine ∧ ∀ p, H1 p = none → Q (.ref p) (upd H1 p (.lst xs))) : tLst tA σ H Q := h
theorem r_tup (h : tA σ H fun xs H1 => xs.length ≤ sizeLine ∧ ∀ p, H1 p = none → Q (.ref p) (upd H1 p (.tup xs))) : tTup tA σ H Q := h
theorem r_call {sp : Sp} {dvs : List V} {E : XK} (h : tA σ H fun vs H1 => sp (vs ++ dvs) H1 Q E) : tCall sp dvs E tA σ H Q := h
theorem r_callK {sp : Sp} {gV : List V → List V → List V} {E : XK} {tk : TA} (h : tA σ H fun vs H1 => tk σ H1 fun zs H2 => sp (gV vs zs) H2 Q E) : tCallK sp gV E tA tk σ H Q := h
theorem r_cb {r : List V → Hp → VK → Prop} (h : tA σ H fun vs H1 => r vs H1 Q) : tCB r tA σ H Q := h
theorem r_ckw {r : List V → List V → Hp → VK → Prop} {tk : TA} (h : tA σ H fun vs H1 => tk σ H1 fun zs H2 => r vs zs H2 Q) : tCKw r tA tk σ H Q := h
theorem r_sl {r : V → Option Int → Option Int → Hp → VK → Prop} {tl th : TO} (h : te σ H fun x H1 => tl σ H1 fun l H2 => th σ H2 fun u H3 => r x l u H3 Q) : tSl r te tl th σ H Q := h
theorem r_part {Qo : Option Int → Hp → Prop} (h : te σ H fun x H1 => ∃ i, x = .int i ∧ Qo (some i) H1) : tPart te σ H Qo := h
theorem r_nopart {Qo : Option Int → Hp → Prop} (h : Qo none H) : tNoPart σ H Qo := h
theorem r_exi {Qo : Int → Prop} (h : Qo i) : ∃ j, V.int i = .int j ∧ Qo j := ⟨i, rfl, h⟩
theorem r_exb {b : Bool} {Qo : Bool → Prop} (h : Qo b) : ∃ j, V.bl b = .bl j ∧ Qo j := ⟨b, rfl, h⟩
theorem r_slL {p : Addr} {xs : List V} {lo hi : Option Int} (h : SqL K H p xs) (q : ∀ n, H n = none → Q (.ref n) (upd H n (.lst (cutV xs lo hi)))) : rSlL K (.ref p) lo hi H Q := ⟨p, xs, rfl, h, q⟩
theorem r_bm {T : String} {r : V → List V → Hp → VK → Prop} (h : te σ H fun x H1 => tyV K T x H1 ∧ tA σ H1 fun xs H2 => r x xs H2 Q) : tBM K T r te tA σ H Q := h
theorem r_bm0 {T : String} {r : V → List V → Hp → VK → Prop} (h : te σ H fun x H1 => tyV K T x H1 ∧ r x [] H1 Q) : tBM0 K T r te σ H Q := h
theorem ty_list {p : Addr} {xs : List V} (h : SqL K H p xs) : tyV K "list" (.ref p) H := .inl ⟨rfl, xs, h⟩
theorem r_append {p : Addr} {xs : List V} {y : V} (h : H p = some (.lst xs)) (hz : xs.length < sizeLine) (q : Q .non (upd H p (.lst (xs ++ [y])))) : rAppend (.ref p) [y] H Q := ⟨p, xs, y, rfl, rfl, h, hz, q⟩
theorem r_if {tif : TT} (h : tif σ H fun c H1 => if c = true then ta σ H1 Q else tb σ H1 Q) : tIf tif ta tb σ H Q := h
theorem r_andV (h : ta σ H fun x H1 => ∃ c, x = .bl c ∧ if c = true then tb σ H1 Q else Q (.bl false) H1) : tAndV ta tb σ H Q := h
theorem r_orV (h : ta σ H fun x H1 => ∃ c, x = .bl c ∧ if c = true then Q (.bl true) H1 else tb σ H1 Q) : tOrV ta tb σ H Q := h
theorem r_notV (h : ta σ H fun x H1 => ∃ c, x = .bl c ∧ Q (.bl (!c)) H1) : tNotV ta σ H Q := h
theorem r_eqI (q : Q (.bl (decide (i = j))) H) : rEq (.int i) (.int j) H Q := by
  refine ⟨rfl, ?_⟩
  have : decide (V.int i = V.int j) = decide (i = j) := by simp
  rw [this]
  exact q
theorem r_neI (q : Q (.bl (!decide (i = j))) H) : rNe (.int i) (.int j) H Q := by
  refine ⟨rfl, ?_⟩
  have : decide (V.int i = V.int j) = decide (i = j) := by simp
  rw [this]
  exact q
theorem r_eqS {a b : Str} (q : Q (.bl (decide (a = b))) H) : rEq (.str a) (.str b) H Q := by
  refine ⟨rfl, ?_⟩
  have : decide (V.str a = V.str b) = decide (a = b) := by simp
  rw [this]
  exact q
theorem r_neS {a b : Str} (q : Q (.bl (!decide (a = b))) H) : rNe (.str a) (.str b) H Q := by
  refine ⟨rfl, ?_⟩
  have : decide (V.str a = V.str b) = decide (a = b) := by simp
  rw [this]
  exact q
theorem r_len {p : Addr} {xs : List V} (h : SqL K H p xs) (q : Q (.int xs.length) H) : Xk.rLen K [.ref p] H Q := ⟨p, xs, rfl, .inl h, q⟩
theorem r_listOf {p : Addr} {xs : List V} (h : SqL K H p xs) (q : ∀ l, H l = none → Q (.ref l) (upd H l (.lst xs))) : rListOf K [.ref p] H Q := ⟨p, xs, rfl, .inl h, q⟩
theorem r_sum {p : Addr} {ns : List Int} (h : SqL K H p (ns.map V.int)) (q : Q (.int ns.sum) H) : rSum K [.ref p] H Q := ⟨p, ns, rfl, h, q⟩
theorem r_notT {A B : Prop} (h : B) : if (!true) = true then A else B := by simpa using h
theorem r_notF {A B : Prop} (h : A) : if (!false) = true then A else B := by simpa using h
/-! ### tests -/
theorem r_test (h : te σ H fun x H' => ∃ k, x = .bl k ∧ Qb k H') : tTest te σ H Qb := h
theorem r_tB (h : te σ H fun x H' => ∃ k, x = .bl k ∧ Qb k H') : tB te σ H Qb := h
theorem r_tand (h : t σ H fun c H1 => if c = true then u σ H1 Qb else Qb false H1) : tAnd t u σ H Qb := h
theorem r_tor (h : t σ H fun c H1 => if c = true then Qb true H1 else u σ H1 Qb) : tOr t u σ H Qb := h
theorem r_tnot (h : t σ H fun c H1 => Qb (!c) H1) : tNot t σ H Qb := h
theorem r_yes (h : Qb true H) : tYes σ H Qb := h
theorem r_dec {p : Prop} [Decidable p] {A B : Prop} (h1 : p → A) (h2 : ¬p → B) : if decide p = true then A else B := by
  by_cases h : p
  · rw [decide_eq_true h]; exact h1 h
  · rw [decide_eq_false h]; exact h2 h
theorem r_ndec {p : Prop} [Decidable p] {A B : Prop} (h1 : ¬p → A) (h2 : p → B) : if (!decide p) = true then A else B := by
  by_cases h : p
  · rw [decide_eq_true h]; exact h2 h
  · rw [decide_eq_false h]; exact h1 h
theorem r_itT {A B : Prop} (h : A) : if true = true then A else B := by rw [if_pos rfl]; exact h
theorem r_itF {A B : Prop} (h : B) : if false = true then A else B := by rw [if_neg Bool.false_ne_true]; exact h
/-! ### statements -/
theorem r_seq (h : s1 ⟨s2 ⟨nx, rt, bk, ct⟩, rt, bk, ct⟩ σ H) : tSeq s1 s2 ⟨nx, rt, bk, ct⟩ σ H := h
theorem r_cut {u : TS} (Mid : L2.St → Hp → Prop) (h : s1 ⟨Mid, rt, bk, ct⟩ σ H) (g : ∀ σ' H', Mid σ' H' → u ⟨nx, rt, bk, ct⟩ σ' H') : C8.tCut s1 u ⟨nx, rt, bk, ct⟩ σ H := ⟨Mid, h, g⟩
theorem r_next (h : nx σ H) : tNext ⟨nx, rt, bk, ct⟩ σ H := h
theorem r_asg (h : te σ H fun x H1 => g x σ H1 nx) : tAsg te g ⟨nx, rt, bk, ct⟩ σ H := h
theorem r_ret (h : te σ H rt) : tRet te ⟨nx, rt, bk, ct⟩ σ H := h
theorem r_drop (h : te σ H fun _ H1 => nx σ H1) : tDrop te ⟨nx, rt, bk, ct⟩ σ H := h
theorem r_ifS (h : t σ H fun b H1 => if b = true then s1 ⟨nx, rt, bk, ct⟩ σ H1 else s2 ⟨nx, rt, bk, ct⟩ σ H1) : tIfS t s1 s2 ⟨nx, rt, bk, ct⟩ σ H := h
theorem r_par {a b : Nat} (h : tA σ H fun vs H1 => ∃ v w, vs = [v, w] ∧ nx ((σ.set a (some v)).set b (some w)) H1) : tPar a b tA ⟨nx, rt, bk, ct⟩ σ H := h
theorem r_ex2 {f : V → V → Prop} (h : f x y) : ∃ v w, [x, y] = [v, w] ∧ f v w := ⟨x, y, rfl, h⟩
theorem r_brk (h : bk σ H) : tBreak ⟨nx, rt, bk, ct⟩ σ H := h
theorem r_cont (h : ct σ H) : tCont ⟨nx, rt, bk, ct⟩ σ H := h
theorem r_aug {n : Nat} {ti : TIp} (h : σ[n]? = some (some x)) (q : te σ H fun y H1 => ti x y H1 fun z H2 => nx (σ.set n (some z)) H2) : tAug n te ti ⟨nx, rt, bk, ct⟩ σ H := ⟨x, h, q⟩
theorem r_ipI {f : Int → Int → Int} (q : Q (.int (f i j)) H) : ipI f (.int i) (.int j) H Q := ⟨i, j, rfl, rfl, q⟩
theorem r_for {wi : TI} (h : wi σ H fun J H1 => ∃ W : Nat → Nat → L2.St → Hp → Prop, (∃ m, W 0 m σ H1) ∧ ∀ i m σ H, W i m σ H → (J.stop i H ∧ nx σ H) ∨ (J.go i H ∧ ∃ N : L2.St → Hp → Prop, (∀ σ' H', N σ' H' → ∃ m', m' < m ∧ W (i + 1) m' σ' H') ∧
    ∀ x H', J.yld i H x H' → g x σ H' fun σ2 H2 => s1 ⟨N, rt, nx, N⟩ σ2 H2)) : tFor wi g s1 ⟨nx, rt, bk, ct⟩ σ H := h
theorem r_augS {tget : V → V → Hp → VK → Prop} {ti : TIp} {ts : TSet} (h : ta σ H fun o H1 => tb σ H1 fun i H2 => tget o i H2 fun x H3 => te σ H3 fun y H4 => ti x y H4 fun z H5 => ts o i z H5 fun H6 => nx σ H6) : tAugS ta tb te tget ti ts ⟨nx, rt, bk, ct⟩ σ H := h
/-! ### targets -/
variable {Qs : L2.St → Hp → Prop}
theorem r_name {n : Nat} (q : Qs (σ.set n (some v)) H) : gName n v σ H Qs := q
theorem r_gtup {n : Nat} {p : Addr} {xs : List V} (h : SqT K H p xs) (hl : xs.length = n) (q : gs xs σ H Qs) : gTup K n gs (.ref p) σ H Qs := ⟨p, xs, rfl, h, hl, q⟩
theorem r_gcons {vs : List V} (q : g v σ H fun σ' H' => gs vs σ' H' Qs) : gCons g gs (v :: vs) σ H Qs := ⟨v, vs, rfl, q⟩
theorem r_gnil (q : Qs σ H) : gNil [] σ H Qs := ⟨rfl, q⟩
theorem r_gsub {ts : TSet} (h : te σ H fun o H1 => tv σ H1 fun i H2 => ts o i v H2 fun H3 => Qs σ H3) : gSub te tv ts v σ H Qs := h
theorem r_gslc {tl th : TO} (h : te σ H fun x H1 => tl σ H1 fun l H2 => th σ H2 fun u H3 => ∃ (p b : Addr) (xs ys : List V) (a c : Int), x = .ref p ∧ v = .ref b ∧ l = some a ∧ u = some c ∧ H3 p = some (.lst xs) ∧ H3 b = some (.lst ys) ∧ p ≠ b ∧ 0 ≤ a ∧ a ≤ c ∧ c ≤ xs.length ∧ xs.length + ys.length ≤ sizeLine ∧
    Qs σ (upd H3 p (.lst (xs.take a.toNat ++ ys ++ xs.drop c.toNat)))) : gSlc te tl th v σ H Qs := h
theorem r_setL {Qh : Hp → Prop} {p : Addr} {xs : List V} {n : Nat} (h : H p = some (.lst xs)) (hi : ixN xs.length i = some n) (q : Qh (upd H p (.lst (xs.set n v)))) : rSetL (.ref p) (.int i) v H Qh := ⟨p, xs, i, n, rfl, rfl, h, hi, q⟩
end
theorem szL {n : Nat} (h : Nat.ble n 16777216 = true) : n ≤ sizeLine := Nat.le_of_ble_eq_true h
theorem at_0 {x : V} {xs : List V} : atI (x :: xs) 0 = some x := at_of (j := 0) rfl rfl
theorem at_1 {x y : V} {xs : List V} : atI (x :: y :: xs) 1 = some y := at_of (j := 1) rfl rfl
theorem at_2 {x y z : V} {xs : List V} : atI (x :: y :: z :: xs) 2 = some z := at_of (j := 2) rfl rfl
theorem at_3 {x y z u : V} {xs : List V} : atI (x :: y :: z :: u :: xs) 3 = some u := at_of (j := 3) rfl rfl
theorem sq {K : PySem.W.Frag} {H : Hp} {p : Addr} {xs : List V} (h : H p = some (.lst xs)) : SqL K H p xs := .inl (.inl h)
theorem sqT {K : PySem.W.Frag} {H : Hp} {p : Addr} {xs : List V} (h : H p = some (.tup xs)) : SqT K H p xs := .inl (.inl h)

section
variable {w : World} {H : Hp} {σ : L2.St} {Q : VK} {te : TE} {tA : TA} {a : Addr} {k : Int} {S : Int → Bool} {n : Nat}
theorem r_set0 (q : ∀ p, H p = none → Q (.ref p) (upd H p (SetO w p (fun _ => false) 0))) : rSet0 w [] H Q := ⟨rfl, q⟩
theorem r_sin (h : H a = some (SetO w a S n)) (q : Q (.bl (S k)) H) : rSIn w (.int k) (.ref a) H Q := ⟨k, a, S, n, rfl, rfl, h, q⟩
theorem r_snotin (h : H a = some (SetO w a S n)) (q : Q (.bl (!S k)) H) : rSNotIn w (.int k) (.ref a) H Q := ⟨k, a, S, n, rfl, rfl, h, q⟩
theorem r_sadd0 (h : te σ H fun x H1 => (∃ a S n, x = V.ref a ∧ H1 a = some (SetO w a S n)) ∧ tA σ H1 fun xs H2 => rSAdd w x xs H2 Q) : tSAdd w te tA σ H Q := h
theorem r_sadd (h : H a = some (SetO w a S n)) (hn : n + 1 < 4096) (q : Q .non (upd H a (SetO w a (fun j => S j || decide (j = k)) (if S k = true then n else n + 1)))) : rSAdd w (.ref a) [.int k] H Q := ⟨a, k, S, n, rfl, rfl, h, hn, q⟩
end
/-! ### what a for walks -/
section
variable {K : PySem.W.Frag} {σ : L2.St} {H : Hp} {tA : TA} {te : TE} {R : L2.It → Hp → Prop}
theorem r_iEnum (h : tA σ H fun vs H1 => ∃ a xs, vs = [.ref a] ∧ SqL K H1 a xs ∧ R (Ite K a) H1) : iEnum K tA σ H R := h
theorem r_iList (h : te σ H fun x H1 => ∃ a, x = .ref a ∧ (∃ xs, SqL K H1 a xs) ∧ R (Itl K a) H1) : iList K te σ H R := h
theorem r_iTup (h : te σ H fun x H1 => ∃ a, x = .ref a ∧ (∃ xs, SqT K H1 a xs) ∧ R (Itt K a) H1) : iTup K te σ H R := h
theorem r_iRng1 (h : tA σ H fun vs H1 => ∃ j : Int, vs = [.int j] ∧ -(2 ^ 62) ≤ j ∧ j < 2 ^ 62 ∧ R (Itr 0 j.toNat) H1) : iRng1 tA σ H R := h
theorem r_iRng2 (h : tA σ H fun vs H1 => ∃ i j : Int, vs = [.int i, .int j] ∧ (-(2 ^ 62) ≤ i ∧ i < 2 ^ 62 ∧ -(2 ^ 62) ≤ j ∧ j < 2 ^ 62) ∧ R (Itr i (j - i).toNat) H1) : iRng2 tA σ H R := h
theorem r_iRng3 (h : tA σ H fun vs H1 => ∃ (i j c : Int) (n : Nat), vs = [.int i, .int j, .int c] ∧ RgC i j c n ∧ R (Itc i c n) H1) : iRng3 tA σ H R := h
theorem r_iZip (h : tA σ H fun vs H1 => ∃ a b xs ys, vs = [.ref a, .ref b] ∧ SqL K H1 a xs ∧ SqL K H1 b ys ∧ R (Itz K a b) H1) : iZip K tA σ H R := h
theorem r_lc {wi : TI} {g : TG} {tt : TT} {vs : List Nat} {Q : VK} (h : wi σ H fun J H1 => ∀ D, H1 D = none → ∃ W : Nat → Nat → Hp → Prop, (∃ m, W 0 m (upd H1 D (.lst []))) ∧ ∀ i m H, W i m H →
  (J.stop i H ∧ Q (.ref D) H) ∨ (J.go i H ∧ ∃ Nx : Hp → Prop, (∀ H', Nx H' → ∃ m', m' < m ∧ W (i + 1) m' H') ∧ ∀ x H', J.yld i H x H' → g x (wipe σ vs) H' fun σ2 H2 => wipe σ2 vs = wipe σ vs ∧ tt σ2 H2 fun b H3 =>
    if b = true then te σ2 H3 fun y H4 => ∃ acc, H4 D = some (.lst acc) ∧ acc.length < sizeLine ∧ Nx (upd H4 D (.lst (acc ++ [y]))) else Nx H3)) : tLc wi g tt te vs σ H Q := h
theorem r_lrg {tr : L2.St → Hp → (Int → Int → Hp → Prop) → Prop} {Q : VK} (h : tr σ H fun a b H1 => RgOk a b ∧ ∀ q, H1 q = none → Q (.ref q) (upd H1 q (.lst (rgV a b)))) : tLstRg tr σ H Q := h
theorem r_rg1 {Q : Int → Int → Hp → Prop} (h : te σ H fun x H1 => ∃ n, x = .int n ∧ Q 0 n H1) : tRg1 te σ H Q := h
theorem r_rg2 {tb : TE} {Q : Int → Int → Hp → Prop} (h : te σ H fun x H1 => tb σ H1 fun y H2 => ∃ i j, x = .int i ∧ y = .int j ∧ Q i j H2) : tRg2 te tb σ H Q := h
theorem r_l3 {Q : VK} (h : tA σ H fun vs H1 => ∃ (i j c : Int) (n : Nat), vs = [.int i, .int j, .int c] ∧ RgC i j c n ∧ n ≤ 2 ^ 24 ∧ ∀ q, H1 q = none → Q (.ref q) (upd H1 q (.lst (rg3V i c n)))) : tLst3 tA σ H Q := h
theorem r_revL {Q : VK} (h : te σ H fun x H1 => ∃ a xs, x = .ref a ∧ SqL K H1 a xs ∧ ∀ p, H1 p = none → Q (.ref p) (upd H1 p (.lst xs.reverse))) : tRevL K te σ H Q := h
theorem r_exr {a : Addr} {f : Addr → Prop} (h : f a) : ∃ b, V.ref a = .ref b ∧ f b := ⟨a, rfl, h⟩
end
section
variable {σ : L2.St} {H : Hp} {c : TT} {tb : TS} {nx bk ct : L2.St → Hp → Prop} {rt : VK}
theorem r_while (W : Nat → L2.St → Hp → Prop) (m : Nat) (h0 : W m σ H) (hs : ∀ m σ H, W m σ H → c σ H fun b H1 => if b = true then ∃ N : L2.St → Hp → Prop, (∀ σ' H', N σ' H' → ∃ m', m' < m ∧ W m' σ' H') ∧ tb ⟨N, rt, nx, N⟩ σ H1 else nx σ H1) : tWhile c tb ⟨nx, rt, bk, ct⟩ σ H :=
  ⟨W, ⟨m, h0⟩, hs⟩
theorem r_turn {W : Nat → L2.St → Hp → Prop} {m : Nat} (h : tb ⟨fun σ' H' => ∃ m', m' < m ∧ W m' σ' H', rt, nx, fun σ' H' => ∃ m', m' < m ∧ W m' σ' H'⟩ σ H) : ∃ N : L2.St → Hp → Prop, (∀ σ' H', N σ' H' → ∃ m', m' < m ∧ W m' σ' H') ∧ tb ⟨N, rt, nx, N⟩ σ H :=
  ⟨_, fun _ _ h => h, h⟩
theorem r_itD {p : Prop} [Decidable p] {A B : Prop} (hp : p) (h : A) : if decide p = true then A else B := by rw [decide_eq_true hp]; exact h
theorem r_itDF {p : Prop} [Decidable p] {A B : Prop} (hp : ¬p) (h : B) : if decide p = true then A else B := by rw [decide_eq_false hp]; exact h
theorem r_itN {p : Prop} [Decidable p] {A B : Prop} (hp : ¬p) (h : A) : if (!decide p) = true then A else B := by rw [decide_eq_false hp]; exact h
theorem r_itNF {p : Prop} [Decidable p] {A B : Prop} (hp : p) (h : B) : if (!decide p) = true then A else B := by rw [decide_eq_true hp]; exact h
theorem r_popAt {l : Addr} {xs : List V} {i : Int} {k : Nat} {y : V} {Q : VK} (h : H l = some (.lst xs)) (e : i = (k : Int)) (hk : xs[k]? = some y) (hz : k < 2 ^ 63) (q : Q y (upd H l (.lst (xs.eraseIdx k)))) : rPopAt (.ref l) [.int i] H Q := by
  subst e
  have hl : k < xs.length := (List.getElem?_eq_some_iff.mp hk).1
  exact ⟨l, xs, k, k, y, rfl, rfl, h, by omega, by omega, seqIndex_of (by omega) (by omega), hk, q⟩
end
/-! ### what stands in a heap -/
/-- all but r stands as it was -/
def Sx (r : Addr) (H H' : Hp) : Prop := ∀ b o, b ≠ r → H b = some o → H' b = some o
section
variable {H H' : Hp} {a b r : Addr} {o u : HO}
theorem upd_old (np : H a = none) (h : H b = some u) : upd H a o b = some u := (upd_ne (ne_of_none h np)).trans h
theorem upd_to (n : b ≠ a) (h : H b = some u) : upd H a o b = some u := (upd_ne n).trans h
theorem same_to (s : Same H H') (h : H b = some u) : H' b = some u := s b u h
theorem sx_to (s : Sx r H H') (n : b ≠ r) (h : H b = some u) : H' b = some u := s b u n h
theorem sx_of (s : Same H H') : Sx r H H' := fun b o _ h => s b o h
theorem same_new (np : H a = none) : Same H (upd H a o) := fun b u h => upd_old np h
theorem same_old {H0 : Hp} (s : Same H0 H) (n : H0 a = none) : Same H0 (upd H a o) := fun b u h => upd_to (ne_of_none h n) (s b u h)
theorem Sx.refl : Sx r H H := fun _ _ _ h => h
theorem Sx.trans {H1 : Hp} (s : Sx r H H1) (t : Sx r H1 H') : Sx r H H' := fun b o n h => t b o n (s b o n h)
theorem Sx.put : Sx r H (L2.upd H r o) := fun b u n h => upd_to n h
theorem Sx.new (np : H a = none) : Sx r H (L2.upd H a o) := fun b u _ h => upd_old np h
theorem Sx.old {H0 : Hp} (s : Sx r H0 H) (n : H0 a = none) : Sx r H0 (L2.upd H a o) := fun b u hb h => upd_to (ne_of_none h n) (s b u hb h)
theorem Sx.same {H1 : Hp} (s : Sx r H H1) (t : Same H1 H') : Sx r H H' := s.trans (sx_of t)
theorem Sx.free (s : Sx r H H') (hr : H' r = some u) (h : H' a = none) : H a = none := by
  cases q : H a with
  | none => rfl
  | some o =>
    by_cases e : a = r
    · subst e; rw [hr] at h; cases h
    · rw [s a o e q] at h; cases h
end
end Xk
/-- one step whose answer is known -/
local macro_rules | `(tactic| fail "one") => `(tactic| with_reducible first
  | refine Xk.r_c ?_ | refine Xk.r_op ?_ | refine Xk.r_un ?_ | refine Xk.r_I0 ?_ | refine Xk.r_U ?_ | refine Xk.r_nil ?_ | refine Xk.r_cons ?_ | refine Xk.r_lst ?_ | refine Xk.r_tup ?_
  | refine Xk.r_call ?_ | refine Xk.r_callK ?_ | refine Xk.r_cb ?_ | refine Xk.r_ckw ?_ | refine Xk.r_sl ?_ | refine Xk.r_part ?_ | refine Xk.r_nopart ?_ | refine Xk.r_exi ?_ | refine Xk.r_exb ?_ | refine Xk.r_bm ?_ | refine Xk.r_bm0 ?_
  | refine Xk.r_if ?_ | refine Xk.r_andV ?_ | refine Xk.r_orV ?_ | refine Xk.r_notV ?_ | refine Xk.r_eqI ?_ | refine Xk.r_neI ?_ | refine Xk.r_eqS ?_ | refine Xk.r_neS ?_
  | refine Xk.r_test ?_ | refine Xk.r_tB ?_ | refine Xk.r_tand ?_ | refine Xk.r_tor ?_ | refine Xk.r_tnot ?_ | refine Xk.r_yes ?_ | refine Xk.r_itT ?_ | refine Xk.r_itF ?_ | refine Xk.r_notT ?_ | refine Xk.r_notF ?_
  | refine Xk.r_seq ?_ | refine Xk.r_next ?_ | refine Xk.r_asg ?_ | refine Xk.r_ret ?_ | refine Xk.r_drop ?_ | refine Xk.r_ifS ?_ | refine Xk.r_par ?_ | refine Xk.r_ex2 ?_ | refine Xk.r_brk ?_ | refine Xk.r_cont ?_ | refine Xk.r_ipI ?_ | refine Xk.r_for ?_
  | refine Xk.r_augS ?_ | refine Xk.r_sadd0 ?_ | refine Xk.r_iEnum ?_ | refine Xk.r_iList ?_ | refine Xk.r_iTup ?_ | refine Xk.r_iRng1 ?_ | refine Xk.r_iRng2 ?_ | refine Xk.r_iRng3 ?_ | refine Xk.r_iZip ?_ | refine Xk.r_lc ?_ | refine Xk.r_lrg ?_ | refine Xk.r_rg1 ?_ | refine Xk.r_rg2 ?_ | refine Xk.r_l3 ?_ | refine Xk.r_revL ?_ | refine Xk.r_exr ?_
  | refine Xk.r_name ?_ | refine Xk.r_gcons ?_ | refine Xk.r_gnil ?_ | refine Xk.r_gsub ?_ | refine Xk.r_gslc ?_)
local macro_rules | `(tactic| fail "ne") => `(tactic| first | assumption | (apply Ne.symm; assumption) | (exact L2.ne_of_none (by assumption) (by assumption)) | (apply Ne.symm; exact L2.ne_of_none (by assumption) (by assumption)))
/-- what stands at an address -/
local macro_rules | `(tactic| fail "hp") => `(tactic| with_reducible first
  | assumption | exact L2.upd_same
  | ((refine' Xk.upd_old ?np ?_); (case np => assumption); fail "hp")
  | ((refine' Xk.same_to ?hs ?_); (case hs => assumption); fail "hp")
  | ((refine' Xk.sx_to ?hs ?hn ?_); (case hs => assumption); (case hn => fail "ne"); fail "hp")
  | ((refine' Xk.upd_to ?hn ?_); (case hn => fail "ne"); fail "hp"))
local macro_rules | `(tactic| fail "sq") => `(tactic| ((with_reducible show L2.SqL _ _ _ _); first | (with_reducible assumption) | exact Xk.sq (by fail "hp") | (with_reducible exact L2.Same.seq (by assumption) (by assumption))))
local macro_rules | `(tactic| fail "sd") => `(tactic| first | assumption | omega | decide)
local macro_rules | `(tactic| fail "at") => `(tactic| first
  | (with_reducible exact Xk.at_0) | (with_reducible exact Xk.at_1) | (with_reducible exact Xk.at_2) | (with_reducible exact Xk.at_3)
  | ((with_reducible show L2.atI (List.set (_ :: _) _ _) _ = _); exact rfl))
local macro_rules | `(tactic| fail "ix") => `(tactic| ((with_reducible show L2.ixN (List.length (_ :: _)) _ = _); exact rfl))
local macro_rules | `(tactic| fail "two") => `(tactic| first
  | ((with_reducible refine' Xk.r_var ?hv ?_); (case hv => exact rfl))
  | ((with_reducible refine' Xk.r_aug ?hv ?_); (case hv => exact rfl))
  | ((with_reducible refine' Xk.r_ixL ?hv ?hw ?_); (case hv => fail "sq"); (case hw => fail "at"))
  | ((with_reducible refine' Xk.r_setL ?hv ?hw ?_); (case hv => fail "hp"); (case hw => fail "ix"))
  | ((with_reducible refine' Xk.r_slL ?hv ?_); (case hv => fail "sq"))
  | ((with_reducible refine' Xk.r_gtup ?hv ?hw ?_); (case hv => exact Xk.sqT (by fail "hp")); (case hw => exact rfl))
  | ((with_reducible refine' ⟨Xk.ty_list (K := _) (xs := _) ?hv, ?_⟩); (case hv => fail "sq"))
  | ((with_reducible refine' Xk.r_append ?hv ?hw ?_); (case hv => fail "hp"); (case hw => fail "sd"))
  | ((with_reducible refine' Xk.r_I (C := fun _ j => 0 < j) ?hv ?_); (case hv => (first | omega | (show (0 : Int) < _; omega) | decide)))
  | ((with_reducible refine' Xk.r_len ?hv ?_); (case hv => fail "sq"))
  | ((with_reducible refine' Xk.r_listOf ?hv ?_); (case hv => fail "sq"))
  | ((with_reducible refine' Xk.r_I (C := Xk.CPowW) ?hv ?_); (case hv => exact ⟨by decide, by decide⟩))
  | (with_reducible refine ⟨Xk.szL (by with_unfolding_all rfl), ?_⟩)
  | ((with_reducible refine' ⟨_, _, rfl, ?hv, ?_⟩); (case hv => ((with_reducible show L2.SqL _ _ _ _); fail "sq")))
  | ((with_reducible refine' ⟨⟨_, ?hv⟩, ?_⟩); (case hv => fail "sq"))
  | (with_reducible refine Or.inl ⟨_, rfl, ?_⟩) | (with_reducible refine Or.inr ⟨_, rfl, ?_⟩)
  | (with_reducible refine ⟨_, _, rfl, rfl, ?_⟩) | (with_reducible refine ⟨_, rfl, ?_⟩) | (with_reducible refine ⟨_, _, rfl, ?_⟩))
local macro_rules | `(tactic| fail "g") => `(tactic| repeat (first | fail "one" | fail "two"))

set_option Elab.async false
set_option linter.all false
set_option maxRecDepth 100000
namespace Xk
open PySem PySem.Spec PyProof.Rows L2
/-! ### slices by numbers -/
theorem cut_from {xs : List V} {z : Int} {a : Nat} (h : z = (a : Int)) : cutV xs (some z) none = xs.drop a := by
  subst h
  unfold cutV
  rw [show HT.sIx xs.length 0 (some (a : Int)) = min a xs.length from HT.sIx_nat xs.length 0 a, HT.sIx_none]
  by_cases q : a ≤ xs.length
  · rw [Nat.min_eq_left q]; exact List.take_of_length_le (by rw [List.length_drop]; omega)
  · rw [Nat.min_eq_right (by omega), List.drop_of_length_le (by omega), List.drop_of_length_le (by omega)]; simp
theorem cut_to {xs : List V} {z : Int} {b : Nat} (h : z = (b : Int)) : cutV xs none (some z) = xs.take b := by
  subst h
  unfold cutV
  rw [show HT.sIx xs.length xs.length (some (b : Int)) = min b xs.length from HT.sIx_nat xs.length xs.length b, HT.sIx_none]
  show (xs.take (min b xs.length - 0)) = _
  rw [Nat.sub_zero]
  by_cases q : b ≤ xs.length
  · rw [Nat.min_eq_left q]
  · rw [Nat.min_eq_right (by omega), List.take_of_length_le (by omega), List.take_of_length_le (by omega)]
theorem cut_mid {xs : List V} {z y : Int} {a b : Nat} (h : z = (a : Int)) (g : y = (b : Int)) (hb : b ≤ xs.length) : cutV xs (some z) (some y) = (xs.drop a).take (b - a) := by
  subst h; subst g
  unfold cutV
  rw [show HT.sIx xs.length 0 (some (a : Int)) = min a xs.length from HT.sIx_nat xs.length 0 a, show HT.sIx xs.length xs.length (some (b : Int)) = min b xs.length from HT.sIx_nat xs.length xs.length b, Nat.min_eq_left hb]
  by_cases q : a ≤ xs.length
  · rw [Nat.min_eq_left q]
  · rw [Nat.min_eq_right (by omega), show b - xs.length = 0 by omega, show b - a = 0 by omega]; rfl
theorem map_drop' {α β : Type} (f : α → β) (l : List α) (n : Nat) : (l.map f).drop n = (l.drop n).map f := by simp
theorem at_map {ns : List Int} {z : Int} {j : Nat} (e : z = (j : Int)) (h : j < ns.length) : atI (ns.map V.int) z = some (.int ns[j]) :=
  at_of e (by simp [h])
theorem ix_of {n j : Nat} {z : Int} (e : z = (j : Int)) (h : j < n) : ixN n z = some j := by
  subst e; unfold ixN; rw [if_pos (by omega), if_pos (by omega)]; simp
theorem map_set' (ns : List Int) (j : Nat) (x : Int) : (ns.map V.int).set j (V.int x) = (ns.set j x).map V.int := by simp
theorem map_snoc (ns : List Int) (x : Int) : ns.map V.int ++ [V.int x] = (ns ++ [x]).map V.int := by simp
theorem size_lt {n : Nat} (h : n < 16777216) : n < sizeLine := h
theorem size_le {n : Nat} (h : n ≤ 16777216) : n ≤ sizeLine := h

/-! ### comprehensions whose turns leave what stood -/
section
variable {J : It} {n : Nat} {G : Hp → Prop} {Y : Nat → Hp → V → Hp → Prop}
theorem forI (w : Walk J n G Y) {g : TG} {tb : TS} {nx : L2.St → Hp → Prop} {rt : VK} {σ : L2.St} {H : Hp} (Pv : Nat → L2.St → Hp → Prop) (h0 : Pv 0 σ H) (hG : ∀ i σ H, i ≤ n → Pv i σ H → G H)
    (hs : ∀ i x σ H H', i < n → Pv i σ H → Y i H x H' → g x σ H' fun σ2 H2 => tb ⟨Pv (i + 1), rt, nx, Pv (i + 1)⟩ σ2 H2) (hd : ∀ σ H, Pv n σ H → nx σ H) :
    ∃ W : Nat → Nat → L2.St → Hp → Prop, (∃ m, W 0 m σ H) ∧ ∀ i m σ H, W i m σ H →
      (J.stop i H ∧ nx σ H) ∨ (J.go i H ∧ ∃ N : L2.St → Hp → Prop, (∀ σ' H', N σ' H' → ∃ m', m' < m ∧ W (i + 1) m' σ' H') ∧ ∀ x H', J.yld i H x H' → g x σ H' fun σ2 H2 => tb ⟨N, rt, nx, N⟩ σ2 H2) :=
  for_it (D := ⟨nx, rt, fun _ _ => False, fun _ _ => False⟩) w Pv h0 hG hs hd
theorem forA {xs : List V} (w : Walk J xs.length G (YAt xs)) {g : TG} {tb : TS} {nx : L2.St → Hp → Prop} {rt : VK} {σ : L2.St} {H : Hp} (Pv : Nat → L2.St → Hp → Prop) (h0 : Pv 0 σ H) (hG : ∀ i σ H, i ≤ xs.length → Pv i σ H → G H)
    (hs : ∀ i σ H (hi : i < xs.length), Pv i σ H → g xs[i] σ H fun σ2 H2 => tb ⟨Pv (i + 1), rt, nx, Pv (i + 1)⟩ σ2 H2) (hd : ∀ σ H, Pv xs.length σ H → nx σ H) :
    ∃ W : Nat → Nat → L2.St → Hp → Prop, (∃ m, W 0 m σ H) ∧ ∀ i m σ H, W i m σ H →
      (J.stop i H ∧ nx σ H) ∨ (J.go i H ∧ ∃ N : L2.St → Hp → Prop, (∀ σ' H', N σ' H' → ∃ m', m' < m ∧ W (i + 1) m' σ' H') ∧ ∀ x H', J.yld i H x H' → g x σ H' fun σ2 H2 => tb ⟨N, rt, nx, N⟩ σ2 H2) :=
  forI w Pv h0 hG (fun i x σ H H' hi p y => by
    obtain ⟨rfl, e⟩ := y
    rw [List.getElem?_eq_getElem hi] at e
    cases e
    exact hs i σ H' hi p) hd
theorem forAI {ns : List Int} (w : Walk J (ns.map V.int).length G (YAt (ns.map V.int))) {g : TG} {tb : TS} {nx : L2.St → Hp → Prop} {rt : VK} {σ : L2.St} {H : Hp} (Pv : Nat → L2.St → Hp → Prop) (h0 : Pv 0 σ H) (hG : ∀ i σ H, i ≤ (ns.map V.int).length → Pv i σ H → G H)
    (hs : ∀ i σ H (hi : i < ns.length), Pv i σ H → g (.int ns[i]) σ H fun σ2 H2 => tb ⟨Pv (i + 1), rt, nx, Pv (i + 1)⟩ σ2 H2) (hd : ∀ σ H, Pv (ns.map V.int).length σ H → nx σ H) :
    ∃ W : Nat → Nat → L2.St → Hp → Prop, (∃ m, W 0 m σ H) ∧ ∀ i m σ H, W i m σ H →
      (J.stop i H ∧ nx σ H) ∨ (J.go i H ∧ ∃ N : L2.St → Hp → Prop, (∀ σ' H', N σ' H' → ∃ m', m' < m ∧ W (i + 1) m' σ' H') ∧ ∀ x H', J.yld i H x H' → g x σ H' fun σ2 H2 => tb ⟨N, rt, nx, N⟩ σ2 H2) :=
  forI w Pv h0 hG (fun i x σ H H' hi p y => by
    obtain ⟨rfl, e⟩ := y
    have hi' : i < ns.length := by simpa using hi
    rw [List.getElem?_map, List.getElem?_eq_getElem hi'] at e
    cases e
    exact hs i σ H' hi' p) hd
theorem forF {f : Nat → V} (w : Walk J n G (YFn f)) {g : TG} {tb : TS} {nx : L2.St → Hp → Prop} {rt : VK} {σ : L2.St} {H : Hp} (Pv : Nat → L2.St → Hp → Prop) (h0 : Pv 0 σ H) (hG : ∀ i σ H, i ≤ n → Pv i σ H → G H)
    (hs : ∀ i σ H, i < n → Pv i σ H → g (f i) σ H fun σ2 H2 => tb ⟨Pv (i + 1), rt, nx, Pv (i + 1)⟩ σ2 H2) (hd : ∀ σ H, Pv n σ H → nx σ H) :
    ∃ W : Nat → Nat → L2.St → Hp → Prop, (∃ m, W 0 m σ H) ∧ ∀ i m σ H, W i m σ H →
      (J.stop i H ∧ nx σ H) ∨ (J.go i H ∧ ∃ N : L2.St → Hp → Prop, (∀ σ' H', N σ' H' → ∃ m', m' < m ∧ W (i + 1) m' σ' H') ∧ ∀ x H', J.yld i H x H' → g x σ H' fun σ2 H2 => tb ⟨N, rt, nx, N⟩ σ2 H2) :=
  forI w Pv h0 hG (fun i x σ H H' hi p y => by
    obtain ⟨rfl, rfl⟩ := y
    exact hs i σ H' hi p) hd
theorem forP {f1 f2 : Nat → Option V} (w : Walk J n G (YPair f1 f2)) {g : TG} {tb : TS} {nx : L2.St → Hp → Prop} {rt : VK} {σ : L2.St} {H : Hp} (Pv : Nat → L2.St → Hp → Prop) (h0 : Pv 0 σ H) (hG : ∀ i σ H, i ≤ n → Pv i σ H → G H)
    (hs : ∀ i σ H T x y, i < n → Pv i σ H → f1 i = some x → f2 i = some y → H T = none → g (.ref T) σ (upd H T (.tup [x, y])) fun σ2 H2 => tb ⟨Pv (i + 1), rt, nx, Pv (i + 1)⟩ σ2 H2) (hd : ∀ σ H, Pv n σ H → nx σ H) :
    ∃ W : Nat → Nat → L2.St → Hp → Prop, (∃ m, W 0 m σ H) ∧ ∀ i m σ H, W i m σ H →
      (J.stop i H ∧ nx σ H) ∨ (J.go i H ∧ ∃ N : L2.St → Hp → Prop, (∀ σ' H', N σ' H' → ∃ m', m' < m ∧ W (i + 1) m' σ' H') ∧ ∀ x H', J.yld i H x H' → g x σ H' fun σ2 H2 => tb ⟨N, rt, nx, N⟩ σ2 H2) :=
  forI w Pv h0 hG (fun i x σ H H' hi p y => by
    obtain ⟨T, x, y, rfl, nT, rfl, e1, e2⟩ := y
    exact hs i σ H T x y hi p e1 e2 nT) hd
theorem forEI {ns : List Int} (w : Walk J (ns.map V.int).length G (YPair (fun i => some (.int (i : Nat))) (fun i => (ns.map V.int)[i]?))) {g : TG} {tb : TS} {nx : L2.St → Hp → Prop} {rt : VK} {σ : L2.St} {H : Hp} (Pv : Nat → L2.St → Hp → Prop) (h0 : Pv 0 σ H) (hG : ∀ i σ H, i ≤ (ns.map V.int).length → Pv i σ H → G H)
    (hs : ∀ i σ H T (hi : i < ns.length), Pv i σ H → H T = none → g (.ref T) σ (upd H T (.tup [.int (i : Nat), .int ns[i]])) fun σ2 H2 => tb ⟨Pv (i + 1), rt, nx, Pv (i + 1)⟩ σ2 H2) (hd : ∀ σ H, Pv (ns.map V.int).length σ H → nx σ H) :
    ∃ W : Nat → Nat → L2.St → Hp → Prop, (∃ m, W 0 m σ H) ∧ ∀ i m σ H, W i m σ H →
      (J.stop i H ∧ nx σ H) ∨ (J.go i H ∧ ∃ N : L2.St → Hp → Prop, (∀ σ' H', N σ' H' → ∃ m', m' < m ∧ W (i + 1) m' σ' H') ∧ ∀ x H', J.yld i H x H' → g x σ H' fun σ2 H2 => tb ⟨N, rt, nx, N⟩ σ2 H2) :=
  forI w Pv h0 hG (fun i x σ H H' hi p y => by
    obtain ⟨T, x, y, rfl, nT, rfl, e1, e2⟩ := y
    have hi' : i < ns.length := by simpa using hi
    cases e1
    simp only [List.getElem?_map, List.getElem?_eq_getElem hi'] at e2
    cases e2
    exact hs i σ H T hi' p nT) hd
theorem lc_same (w : Walk J n G Y) {g : TG} {tt : TT} {te : TE} {vs : List Nat} {σ : L2.St} {H0 H1 : Hp} {D : Addr} {Qd : Hp → Prop} (acc : Nat → List V) (hD : H1 D = none) (h01 : Same H0 H1) (a0 : acc 0 = [])
    (hG : ∀ H, Same H0 H → G H)
    (hs : ∀ i x H H', i < n → Same H0 H ∧ H D = some (.lst (acc i)) → Y i H x H' → g x (wipe σ vs) H' fun σ2 H2 => wipe σ2 vs = wipe σ vs ∧ tt σ2 H2 fun b H3 =>
      if b = true then te σ2 H3 fun y H4 => ∃ l, H4 D = some (.lst l) ∧ l.length < sizeLine ∧ Same H0 (upd H4 D (.lst (l ++ [y]))) ∧ (upd H4 D (.lst (l ++ [y]))) D = some (.lst (acc (i + 1))) else Same H0 H3 ∧ H3 D = some (.lst (acc (i + 1))))
    (hd : ∀ H, Same H0 H → H D = some (.lst (acc n)) → Qd H) :
    ∃ W : Nat → Nat → Hp → Prop, (∃ m, W 0 m (upd H1 D (.lst []))) ∧ ∀ i m H, W i m H →
      (J.stop i H ∧ Qd H) ∨ (J.go i H ∧ ∃ Nx : Hp → Prop, (∀ H', Nx H' → ∃ m', m' < m ∧ W (i + 1) m' H') ∧ ∀ x H', J.yld i H x H' → g x (wipe σ vs) H' fun σ2 H2 => wipe σ2 vs = wipe σ vs ∧ tt σ2 H2 fun b H3 =>
        if b = true then te σ2 H3 fun y H4 => ∃ acc, H4 D = some (.lst acc) ∧ acc.length < sizeLine ∧ Nx (upd H4 D (.lst (acc ++ [y]))) else Nx H3) :=
  lc_it w (fun i H => Same H0 H ∧ H D = some (.lst (acc i))) ⟨same_old h01 (h01.free hD), by rw [a0]; exact upd_same⟩ (fun i H _ p => hG H p.1) hs (fun H p => hd H p.1 p.2)
theorem lc_sameAI {ns : List Int} (w : Walk J (ns.map V.int).length G (YAt (ns.map V.int))) {g : TG} {tt : TT} {te : TE} {vs : List Nat} {σ : L2.St} {H0 H1 : Hp} {D : Addr} {Qd : Hp → Prop} (acc : Nat → List V) (hD : H1 D = none) (h01 : Same H0 H1) (a0 : acc 0 = [])
    (hG : ∀ H, Same H0 H → G H)
    (hs : ∀ i H (hi : i < ns.length), Same H0 H ∧ H D = some (.lst (acc i)) → g (.int ns[i]) (wipe σ vs) H fun σ2 H2 => wipe σ2 vs = wipe σ vs ∧ tt σ2 H2 fun b H3 =>
      if b = true then te σ2 H3 fun y H4 => ∃ l, H4 D = some (.lst l) ∧ l.length < sizeLine ∧ Same H0 (upd H4 D (.lst (l ++ [y]))) ∧ (upd H4 D (.lst (l ++ [y]))) D = some (.lst (acc (i + 1))) else Same H0 H3 ∧ H3 D = some (.lst (acc (i + 1))))
    (hd : ∀ H, Same H0 H → H D = some (.lst (acc ns.length)) → Qd H) :
    ∃ W : Nat → Nat → Hp → Prop, (∃ m, W 0 m (upd H1 D (.lst []))) ∧ ∀ i m H, W i m H →
      (J.stop i H ∧ Qd H) ∨ (J.go i H ∧ ∃ Nx : Hp → Prop, (∀ H', Nx H' → ∃ m', m' < m ∧ W (i + 1) m' H') ∧ ∀ x H', J.yld i H x H' → g x (wipe σ vs) H' fun σ2 H2 => wipe σ2 vs = wipe σ vs ∧ tt σ2 H2 fun b H3 =>
        if b = true then te σ2 H3 fun y H4 => ∃ acc, H4 D = some (.lst acc) ∧ acc.length < sizeLine ∧ Nx (upd H4 D (.lst (acc ++ [y]))) else Nx H3) :=
  lc_same w acc hD h01 a0 hG (fun i x H H' hi p y => by
    obtain ⟨rfl, e⟩ := y
    have hi' : i < ns.length := by simpa using hi
    rw [List.getElem?_map, List.getElem?_eq_getElem hi'] at e
    cases e
    exact hs i H' hi' p) (fun H p q => hd H p (by simpa using q))
theorem lc_sameEI {ns : List Int} (w : Walk J (ns.map V.int).length G (YPair (fun i => some (.int (i : Nat))) (fun i => (ns.map V.int)[i]?))) {g : TG} {tt : TT} {te : TE} {vs : List Nat} {σ : L2.St} {H0 H1 : Hp} {D : Addr} {Qd : Hp → Prop} (acc : Nat → List V) (hD : H1 D = none) (h01 : Same H0 H1) (a0 : acc 0 = [])
    (hG : ∀ H, Same H0 H → G H)
    (hs : ∀ i H T (hi : i < ns.length), Same H0 H ∧ H D = some (.lst (acc i)) → H T = none → g (.ref T) (wipe σ vs) (upd H T (.tup [.int (i : Nat), .int ns[i]])) fun σ2 H2 => wipe σ2 vs = wipe σ vs ∧ tt σ2 H2 fun b H3 =>
      if b = true then te σ2 H3 fun y H4 => ∃ l, H4 D = some (.lst l) ∧ l.length < sizeLine ∧ Same H0 (upd H4 D (.lst (l ++ [y]))) ∧ (upd H4 D (.lst (l ++ [y]))) D = some (.lst (acc (i + 1))) else Same H0 H3 ∧ H3 D = some (.lst (acc (i + 1))))
    (hd : ∀ H, Same H0 H → H D = some (.lst (acc ns.length)) → Qd H) :
    ∃ W : Nat → Nat → Hp → Prop, (∃ m, W 0 m (upd H1 D (.lst []))) ∧ ∀ i m H, W i m H →
      (J.stop i H ∧ Qd H) ∨ (J.go i H ∧ ∃ Nx : Hp → Prop, (∀ H', Nx H' → ∃ m', m' < m ∧ W (i + 1) m' H') ∧ ∀ x H', J.yld i H x H' → g x (wipe σ vs) H' fun σ2 H2 => wipe σ2 vs = wipe σ vs ∧ tt σ2 H2 fun b H3 =>
        if b = true then te σ2 H3 fun y H4 => ∃ acc, H4 D = some (.lst acc) ∧ acc.length < sizeLine ∧ Nx (upd H4 D (.lst (acc ++ [y]))) else Nx H3) :=
  lc_same w acc hD h01 a0 hG (fun i x H H' hi p y => by
    obtain ⟨T, x, y, rfl, nT, rfl, e1, e2⟩ := y
    have hi' : i < ns.length := by simpa using hi
    cases e1
    simp only [List.getElem?_map, List.getElem?_eq_getElem hi'] at e2
    cases e2
    exact hs i H T hi' p nT) (fun H p q => hd H p (by simpa using q))
theorem lc_sameF {n : Nat} {f : Nat → V} (w : Walk J n G (YFn f)) {g : TG} {tt : TT} {te : TE} {vs : List Nat} {σ : L2.St} {H0 H1 : Hp} {D : Addr} {Qd : Hp → Prop} (acc : Nat → List V) (hD : H1 D = none) (h01 : Same H0 H1) (a0 : acc 0 = [])
    (hG : ∀ H, Same H0 H → G H)
    (hs : ∀ i H, i < n → Same H0 H ∧ H D = some (.lst (acc i)) → g (f i) (wipe σ vs) H fun σ2 H2 => wipe σ2 vs = wipe σ vs ∧ tt σ2 H2 fun b H3 =>
      if b = true then te σ2 H3 fun y H4 => ∃ l, H4 D = some (.lst l) ∧ l.length < sizeLine ∧ Same H0 (upd H4 D (.lst (l ++ [y]))) ∧ (upd H4 D (.lst (l ++ [y]))) D = some (.lst (acc (i + 1))) else Same H0 H3 ∧ H3 D = some (.lst (acc (i + 1))))
    (hd : ∀ H, Same H0 H → H D = some (.lst (acc n)) → Qd H) :
    ∃ W : Nat → Nat → Hp → Prop, (∃ m, W 0 m (upd H1 D (.lst []))) ∧ ∀ i m H, W i m H →
      (J.stop i H ∧ Qd H) ∨ (J.go i H ∧ ∃ Nx : Hp → Prop, (∀ H', Nx H' → ∃ m', m' < m ∧ W (i + 1) m' H') ∧ ∀ x H', J.yld i H x H' → g x (wipe σ vs) H' fun σ2 H2 => wipe σ2 vs = wipe σ vs ∧ tt σ2 H2 fun b H3 =>
        if b = true then te σ2 H3 fun y H4 => ∃ acc, H4 D = some (.lst acc) ∧ acc.length < sizeLine ∧ Nx (upd H4 D (.lst (acc ++ [y]))) else Nx H3) :=
  lc_same w acc hD h01 a0 hG (fun i x H H' hi p y => by
    obtain ⟨rfl, rfl⟩ := y
    exact hs i H' hi p) hd
theorem lc_add {H0 H H4 : Hp} {D : Addr} {a a' : List V} {y : V} (p : Same H0 H ∧ H D = some (.lst a)) (s : Same H H4) (hD : H0 D = none) (e : a' = a ++ [y]) (hz : a.length < sizeLine) :
    ∃ l, H4 D = some (.lst l) ∧ l.length < sizeLine ∧ Same H0 (upd H4 D (.lst (l ++ [y]))) ∧ (upd H4 D (.lst (l ++ [y]))) D = some (.lst a') :=
  ⟨a, s _ _ p.2, hz, same_old (p.1.trans s) hD, by rw [e]; exact upd_same⟩
theorem lc_skip {H0 H H4 : Hp} {D : Addr} {a a' : List V} (p : Same H0 H ∧ H D = some (.lst a)) (s : Same H H4) (e : a' = a) : Same H0 H4 ∧ H4 D = some (.lst a') := ⟨p.1.trans s, by rw [e]; exact s _ _ p.2⟩
theorem take_one {α : Type} {l : List α} {i : Nat} (hi : i < l.length) : l.take (i + 1) = l.take i ++ [l[i]] := by rw [List.take_add_one, List.getElem?_eq_getElem hi]; rfl
theorem acc_filtT {l : List Int} {f : Int → Bool} {i : Nat} (hi : i < l.length) (h : f l[i] = true) : ((l.take (i + 1)).filter f).map V.int = ((l.take i).filter f).map V.int ++ [.int l[i]] := by
  rw [take_one hi, List.filter_append, List.map_append]; simp [h]
theorem acc_filtF {l : List Int} {f : Int → Bool} {i : Nat} (hi : i < l.length) (h : f l[i] = false) : ((l.take (i + 1)).filter f).map V.int = ((l.take i).filter f).map V.int := by
  rw [take_one hi, List.filter_append, List.map_append]; simp [h]
theorem filt_len {l : List Int} {f : Int → Bool} {i : Nat} (h : l.length ≤ 1000000) : (((l.take i).filter f).map V.int).length < sizeLine := by
  rw [List.length_map]
  refine Nat.lt_of_le_of_lt (Nat.le_trans (List.length_filter_le _ _) (List.length_take_le' _ _)) (size_lt (by omega))
end
theorem erase_map {α β : Type} (f : α → β) : ∀ (l : List α) (j : Nat), (l.map f).eraseIdx j = (l.eraseIdx j).map f
  | [], _ => rfl
  | x :: r, 0 => rfl
  | x :: r, j + 1 => congrArg (f x :: ·) (erase_map f r j)
theorem erase_perm {α : Type} : ∀ (l : List α) (j : Nat) (h : j < l.length), (l[j] :: l.eraseIdx j).Perm l
  | x :: r, 0, _ => List.Perm.refl _
  | x :: r, j + 1, h => (List.Perm.swap x (r[j]'(Nat.lt_of_succ_lt_succ h)) (r.eraseIdx j)).trans ((erase_perm r j (Nat.lt_of_succ_lt_succ h)).cons x)
end Xk

set_option Elab.async false
set_option linter.all false
set_option maxRecDepth 100000
namespace Xk
open PySem PySem.Spec PyProof.Rows L2
/-! ### data -/
abbrev dI (ns : List Int) : PyData := .list (ns.map PyData.int)
section
variable {K : PySem.W.Frag} {H H' : Hp}
theorem dp_ints : ∀ ns : List Int, DpAll K H (ns.map V.int) (ns.map PyData.int)
  | [] => .nil
  | i :: r => .cons (.int i) (dp_ints r)
theorem dp_lst {a : Addr} {ns : List Int} (h : SqL K H a (ns.map V.int)) : Dp K H (.ref a) (dI ns) := .lst h (dp_ints ns)
theorem eqv_ints : ∀ ns ms : List Int, PyData.eqvAll (ns.map PyData.int) (ms.map PyData.int) = decide (ns = ms)
  | [], [] => rfl
  | [], _ :: _ => rfl
  | _ :: _, [] => rfl
  | i :: r, j :: t => by
    show ((i == j) && PyData.eqvAll (r.map PyData.int) (t.map PyData.int)) = _
    rw [eqv_ints r t]
    by_cases e : i = j
    · subst e; by_cases f : r = t
      · subst f; simp
      · simp [f]
    · simp [e]
theorem eqv_dI (ns ms : List Int) : PyData.eqv (dI ns) (dI ms) = decide (ns = ms) := eqv_ints ns ms
theorem lay_ints : ∀ ns : List Int, PyData.canLayAll0 (ns.map PyData.int) = true
  | [] => rfl
  | _ :: r => lay_ints r
theorem depth_ints : ∀ ns : List Int, PyData.depthAll (ns.map PyData.int) = 0
  | [] => rfl
  | i :: r => by show max 0 (PyData.depthAll (r.map PyData.int)) = 0; rw [depth_ints r]; rfl
theorem shaped_dI (ns : List Int) : SeqAt.shaped (dI ns) = true := by
  unfold SeqAt.shaped
  rw [Bool.and_eq_true]
  refine ⟨lay_ints ns, ?_⟩
  show decide (PyData.depthAll (ns.map PyData.int) + 1 ≤ 64) = true
  rw [depth_ints]; rfl
/-- == of two lists of ints -/
theorem r_eqL {a b : Addr} {ns ms : List Int} {Q : VK} (h : SqL K H a (ns.map V.int)) (g : SqL K H b (ms.map V.int)) (q : Q (.bl (decide (ns = ms))) H) : rEqD K (.ref a) (.ref b) H Q :=
  ⟨_, _, dp_lst h, dp_lst g, shaped_dI ns, shaped_dI ms, by rw [eqv_dI]; exact q⟩
theorem r_neL {a b : Addr} {ns ms : List Int} {Q : VK} (h : SqL K H a (ns.map V.int)) (g : SqL K H b (ms.map V.int)) (q : Q (.bl (!decide (ns = ms))) H) : rNeD K (.ref a) (.ref b) H Q :=
  ⟨_, _, dp_lst h, dp_lst g, shaped_dI ns, shaped_dI ms, by rw [eqv_dI]; exact q⟩
end

/-! ### how long a repr may be -/
def Sh (b : Nat) (d : PyData) : Prop := d.showable = true ∧ d.shown.length ≤ b
theorem Sh.mono {b c : Nat} {d : PyData} (h : Sh b d) (e : b ≤ c) : Sh c d := ⟨h.1, Nat.le_trans h.2 e⟩
theorem len_app (a b : Str) : (a ++ b).length = a.length + b.length := by
  show (a.cps ++ b.cps).size = _
  exact Array.size_append
theorem from_le : ∀ (ts : List Str) (k b : Nat) (acc : Str), (∀ t ∈ ts, t.length ≤ b) → (textFrom k acc ts).length ≤ acc.length + ts.length * (b + 2)
  | [], _, _, _, _ => by simp [textFrom]
  | t :: r, k, b, acc, h => by
    have ht := h t List.mem_cons_self
    have ih := fun acc' => from_le r (k + 1) b acc' fun t ht => h t (List.mem_cons_of_mem _ ht)
    unfold textFrom
    refine Nat.le_trans (ih _) ?_
    rw [List.length_cons, Nat.succ_mul]
    have e2 : (Str.ofString ", ").length = 2 := rfl
    have e0 : (Str.ofString "").length = 0 := rfl
    generalize r.length * (b + 2) = R
    split <;> simp only [len_app] <;> omega
theorem all_sh {b : Nat} : ∀ {ds : List PyData}, (∀ d ∈ ds, Sh b d) → PyData.showableAll ds = true ∧ ∀ t ∈ PyData.shownAll ds, t.length ≤ b
  | [], _ => ⟨rfl, fun t h => nomatch h⟩
  | d :: r, h => by
    have h1 := h d List.mem_cons_self
    have ih := all_sh fun e he => h e (List.mem_cons_of_mem _ he)
    refine ⟨?_, fun t ht => ?_⟩
    · show (d.showable && PyData.showableAll r) = true
      rw [h1.1, ih.1]; rfl
    · rcases List.mem_cons.mp (show t ∈ d.shown :: PyData.shownAll r from ht) with e | e
      · subst e; exact h1.2
      · exact ih.2 t e
theorem shown_len : ∀ ds : List PyData, (PyData.shownAll ds).length = ds.length
  | [] => rfl
  | _ :: r => congrArg (· + 1) (shown_len r)
theorem Sh.list {b : Nat} {ds : List PyData} (h : ∀ d ∈ ds, Sh b d) : Sh (ds.length * (b + 2) + 2) (.list ds) := by
  obtain ⟨h1, h2⟩ := all_sh h
  refine ⟨h1, ?_⟩
  show (listText (PyData.shownAll ds)).length ≤ _
  unfold listText
  rw [len_app]
  have := from_le (PyData.shownAll ds) 0 b "[" h2
  rw [shown_len] at this
  have e1 : ("[" : Str).length = 1 := rfl
  have e2 : ("]" : Str).length = 1 := rfl
  omega
theorem piled_le : ∀ (ts : List Str) (b : Nat), (∀ t ∈ ts, t.length ≤ b) → piled ts ≤ ts.length * (b + 2)
  | [], _, _ => by simp [piled]
  | t :: r, b, h => by
    have h1 := h t List.mem_cons_self
    have ih := piled_le r b fun e he => h e (List.mem_cons_of_mem _ he)
    have e : piled (t :: r) = t.length + 2 + piled r := by simp [piled]
    rw [e, List.length_cons, Nat.succ_mul]
    omega
theorem Sh.tuple {b : Nat} {ds : List PyData} (h : ∀ d ∈ ds, Sh b d) : Sh (ds.length * (b + 2) + 3) (.tuple ds) := by
  obtain ⟨h1, h2⟩ := all_sh h
  refine ⟨h1, ?_⟩
  show (tupleText (PyData.shownAll ds)).length ≤ _
  unfold tupleText
  rw [len_app, len_app]
  have hp := piled_le (PyData.shownAll ds) b h2
  rw [shown_len] at hp
  have e1 : ("(" : Str).length = 1 := rfl
  have e2 : (Str.ofString ",)").length = 2 := rfl
  have e3 : (Str.ofString ")").length = 1 := rfl
  by_cases q : PyData.shownAll ds = []
  · rw [q]
    have e4 : (Str.join ", " []).length = 0 := rfl
    split <;> omega
  · have := join_length_add _ q
    split <;> omega
theorem Sh.bool {b : Bool} : Sh 5 (.bool b) := ⟨rfl, by cases b <;> decide⟩
theorem Sh.none : Sh 4 .none := ⟨rfl, by decide⟩
theorem Sh.int {i : Int} {k : Nat} (hk : 0 < k) (h : i.natAbs < 10 ^ k) (h9 : k ≤ 500) : Sh (k + 1) (.int i) := by
  refine ⟨?_, ?_⟩
  · show decide (i.natAbs.log2 < 1920) = true
    rw [decide_eq_true_eq]
    by_cases z : i.natAbs = 0
    · rw [z]; decide
    · refine (Nat.log2_lt z).mpr (Nat.lt_trans h (Nat.lt_of_le_of_lt (Nat.pow_le_pow_right (by decide) h9) (by decide +kernel)))
  · show (Str.ofString (toString i)).length ≤ k + 1
    match i, h with
    | .ofNat n, h => exact Nat.le_succ_of_le (PyProof.Rows.toString_length_le (v := (n : Int)) (by omega) hk (by
        have h' : n < 10 ^ k := h
        have : ((n : Nat) : Int) < ((10 ^ k : Nat) : Int) := by omega
        simpa using this))
    | .negSucc n, h =>
      have h' : n + 1 < 10 ^ k := h
      have := PyProof.Rows.toString_length_le (v := ((n + 1 : Nat) : Int)) (by omega) hk (by
        have : ((n + 1 : Nat) : Int) < ((10 ^ k : Nat) : Int) := by omega
        simpa using this)
      rw [PyProof.Rows.ofString_length, String.length_toList] at this
      rw [PyProof.Rows.ofString_length, String.length_toList]
      show ("-" ++ toString (n + 1)).length ≤ k + 1
      rw [String.length_append]
      have e : ("-" : String).length = 1 := rfl
      have e2 : (toString ((n + 1 : Nat) : Int)) = toString (n + 1) := rfl
      rw [e2] at this
      omega
theorem Sh.ints {ns : List Int} {k : Nat} (hk : 0 < k) (h9 : k ≤ 500) (h : ∀ i ∈ ns, i.natAbs < 10 ^ k) : Sh (ns.length * (k + 3) + 2) (dI ns) := by
  have := Sh.list (b := k + 1) (ds := ns.map PyData.int) fun d hd => by
    obtain ⟨i, hi, rfl⟩ := List.mem_map.mp hd
    exact Sh.int hk (h i hi) h9
  rw [List.length_map] at this
  exact this
/-- repr(a list), in a reading -/
theorem r_repr {K : PySem.W.Frag} {H : Hp} {a : Addr} {d : PyData} {Q : VK} (h : Dp K H (.ref a) d) (hd : d.depth ≤ 60) {b : Nat} (s : Sh b d) (hb : b ≤ 16777216) (q : Q (.str d.shown) H) : rReprD K [.ref a] H Q :=
  ⟨a, d, rfl, h, s.1, hd, Nat.le_trans s.2 hb, q⟩
theorem depth_dI (ns : List Int) : (dI ns).depth ≤ 60 := by show PyData.depthAll (ns.map PyData.int) + 1 ≤ 60; rw [depth_ints]; decide
end Xk

set_option Elab.async false
set_option linter.all false
set_option maxRecDepth 100000
namespace Xk
open PySem PySem.Spec PyProof.Rows L2
/-! ### isinstance, is None, truth values compared -/
section
variable {X : Cx} (K : PySem.W.Frag)
theorem ix_seqK (hK : X.K = K := by rfl) : IxR X (rIx K) := hK ▸ ix_seq
theorem pg_unlK {es : List Expr} {g : TGs} {k : Nat} {pos : Pos} (n : Nat) (hc : X.calm = true) (h : PGs X es g) (hn : (assignEach es X.env).length = n := by rfl) (hst : (assignEach es X.env).findIdx? (·.1) = none := by rfl) (hK : X.K = K := by rfl) : PG X (.Tuple es k pos) (gUnl K n g) := hK ▸ pg_unl hc h hn hst
/-- x in xs, data of few layers -/
def rInE (K : PySem.W.Frag) : R2 := fun x y H Q => ∃ d ds, Dp K H x d ∧ Dp K H y (.list ds) ∧ SeqAt.shaped d = true ∧ SeqAt.shaped (.list ds) = true ∧ d.depth ≤ 60 ∧ Q (.bl (ds.any fun z => PyData.eqv z d)) H
theorem op_inE (hu : X.A.units + 64 < cLine) (hK : X.K = K := by rfl) : OpR X (compareOp .In) (rInE K) := by
  subst hK
  intro pins s σ H x y v u Q I rx ry h
  obtain ⟨d, ds, hd, he, sd, se, dd, q⟩ := h
  obtain ⟨as, r1⟩ := Dp.reads I d x v hd rx
  obtain ⟨bs, r2⟩ := Dp.reads I (.list ds) y u he ry
  refine SeqAt.in_list_reads r2 r1 (SeqAt.canLay_of_shaped se) (SeqAt.canLay_of_shaped sd) ?_ ⟨.bl _, H, I, rfl, q⟩
  have := Nat.min_le_right (PyData.depthAll ds) d.depth
  omega
theorem isiK (hK : X.K = K := by rfl) : CallR X (.builtin "isinstance") (rIsi K) := hK ▸ call_isi
end
section
variable {K : PySem.W.Frag} {H H' : Hp} {Q : VK} {x : V} {T t : String} {r : Bool}
theorem r_isi (ty : TyX K H x (.type t)) (e : kitB t T = some r) (q : Q (.bl r) H) : rIsi K [x, .ty T] H Q := ⟨x, .ty T, .type t, .type T, r, rfl, .ty T, ty, kit_ty e, q⟩
theorem tyx_list {a : Addr} {xs : List V} (h : SqL K H a xs) : TyX K H (.ref a) (.type "list") := by
  rcases h with (h | ⟨o, h⟩) | ⟨o, its, n, h, c, _⟩
  · exact .base (.lst h)
  · exact .base (.frz h)
  · exact .kList h c
theorem tyx_tup {a : Addr} {xs : List V} (h : SqT K H a xs) : TyX K H (.ref a) (.type "tuple") := by
  rcases h with (h | ⟨o, h⟩) | ⟨o, its, n, h, c, _⟩
  · exact .base (.tup h)
  · exact .fTuple h
  · exact .kTuple h c
theorem r_isN {A : Prop} (q : A) : V.non = V.non ∧ A := ⟨rfl, q⟩
theorem r_neB {a b : Bool} (q : Q (.bl (!decide (a = b))) H) : rNe (.bl a) (.bl b) H Q := by
  refine ⟨rfl, ?_⟩
  have e : decide (V.bl a = V.bl b) = decide (a = b) := by
    by_cases h : a = b
    · subst h; simp
    · rw [decide_eq_false h, decide_eq_false]; intro z; cases z; exact h rfl
  rw [e]; exact q
theorem r_eqB {a b : Bool} (q : Q (.bl (decide (a = b))) H) : rEq (.bl a) (.bl b) H Q := by
  refine ⟨rfl, ?_⟩
  have e : decide (V.bl a = V.bl b) = decide (a = b) := by
    by_cases h : a = b
    · subst h; simp
    · rw [decide_eq_false h, decide_eq_false]; intro z; cases z; exact h rfl
  rw [e]; exact q
theorem r_iRev {tA : TA} {σ : L2.St} {R : L2.It → Hp → Prop} (h : tA σ H fun vs H1 => ∃ a xs, vs = [.ref a] ∧ SqL K H1 a xs ∧ R (Itv K a xs.length) H1) : iRev K tA σ H R := h
theorem r_insert {l : Addr} {xs : List V} {i : Int} {y : V} (h : H l = some (.lst xs)) (hz : xs.length < sizeLine) (h0 : 0 ≤ i) (h1 : i < 2 ^ 63) (q : Q .non (upd H l (.lst (xs.take i.toNat ++ [y] ++ xs.drop i.toNat)))) :
    ∃ (l' : Addr) (xs : List V) (i' : Int) (y' : V), V.ref l = .ref l' ∧ [V.int i, y] = [.int i', y'] ∧ H l' = some (.lst xs) ∧ xs.length < sizeLine ∧ 0 ≤ i' ∧ i' < 2 ^ 63 ∧ Q .non (upd H l' (.lst (xs.take i'.toNat ++ [y'] ++ xs.drop i'.toNat))) := ⟨l, xs, i, y, rfl, rfl, h, hz, h0, h1, q⟩
theorem r_all {a : Addr} {bs : List Bool} (h : SqL K H a (bs.map V.bl)) (q : Q (.bl (bs.all id)) H) : rAll K [.ref a] H Q := ⟨a, bs, rfl, h, q⟩
theorem inv_ints (x : Int) (l : List Int) : inV (.int x) (l.map V.int) = decide (x ∈ l) := by
  unfold inV
  rw [List.any_map]
  by_cases hm : x ∈ l
  · rw [decide_eq_true hm, List.any_eq_true]
    exact ⟨_, hm, by show (_ == _) = true; simp⟩
  · rw [decide_eq_false hm, List.any_eq_false]
    intro y hy
    show ¬ (y == x) = true
    intro e
    exact hm (eq_of_beq e ▸ hy)
theorem r_gunl {gs : TGs} {σ : L2.St} {Qs : L2.St → Hp → Prop} {p : Addr} {xs : List V} {n : Nat} (h : SqL K H p xs) (hl : xs.length = n) (q : gs xs σ H Qs) : gUnl K n gs (.ref p) σ H Qs := ⟨p, xs, rfl, h, hl, q⟩
theorem r_lenT {p : Addr} {xs : List V} (h : SqT K H p xs) (q : Q (.int xs.length) H) : Xk.rLen K [.ref p] H Q := ⟨p, xs, rfl, .inr h, q⟩
theorem pow5 {i : Int} {n : Nat} {j : Int} (h : i.natAbs < 2 ^ n) (h0 : 0 ≤ j) (hj : j ≤ 5) (hn : n ≤ 20000000) : CPowW i j := by
  refine ⟨h0, ?_⟩
  have h1 := bits_le h
  have : (Builtin.Int.intBits i : Int) * j ≤ 20000000 * 5 := by
    refine Int.mul_le_mul ?_ hj h0 (by omega)
    omega
  refine Int.le_trans this (by decide)
theorem r_par3 {tA : TA} {σ : L2.St} {nx bk ct : L2.St → Hp → Prop} {rt : VK} {i j l : Nat} (h : tA σ H fun vs H1 => ∃ x y z, vs = [x, y, z] ∧ nx (((σ.set i (some x)).set j (some y)).set l (some z)) H1) : tPar3 i j l tA ⟨nx, rt, bk, ct⟩ σ H := h
theorem r_ex3 {f : V → V → V → Prop} {x y z : V} (h : f x y z) : ∃ u v w, [x, y, z] = [u, v, w] ∧ f u v w := ⟨x, y, z, rfl, h⟩
theorem r_ixQL {p : Addr} {xs : List V} {i : Int} {v : V} (h : SqL K H p xs) (ha : atI xs i = some v) (q : Q v H) : rIx K (.ref p) (.int i) H Q := .inl ⟨p, xs, i, v, rfl, rfl, h, ha, q⟩
theorem r_ixQT {p : Addr} {xs : List V} {i : Int} {v : V} (h : SqT K H p xs) (ha : atI xs i = some v) (q : Q v H) : rIx K (.ref p) (.int i) H Q := .inr (.inl ⟨p, xs, i, v, rfl, rfl, h, ha, q⟩)
theorem r_reverse {p : Addr} {xs : List V} (h : H p = some (.lst xs)) (q : Q .non (upd H p (.lst xs.reverse))) : rReverse (.ref p) [] H Q := ⟨p, xs, rfl, rfl, h, q⟩
theorem r_extend {p b : Addr} {xs zs : List V} (h : H p = some (.lst xs)) (g : H b = some (.lst zs)) (hz : xs.length + zs.length ≤ sizeLine) (q : Q .non (upd H p (.lst (xs ++ zs)))) : rExtend (.ref p) [.ref b] H Q := ⟨p, b, xs, zs, rfl, rfl, h, g, hz, q⟩
theorem r_cat {p b : Addr} {xs ys : List V} (h : H p = some (.lst xs)) (g : H b = some (.lst ys)) (hz : xs.length + ys.length ≤ sizeLine) (q : ∀ n, H n = none → Q (.ref n) (upd H n (.lst (xs ++ ys)))) : rCat (.ref p) (.ref b) H Q := ⟨p, b, xs, ys, rfl, rfl, h, g, hz, q⟩
theorem cut_any {xs : List V} {z y : Int} {a b : Nat} (h : z = (a : Int)) (g : y = (b : Int)) : cutV xs (some z) (some y) = (xs.drop a).take (b - a) := by
  subst h; subst g
  unfold cutV
  rw [show HT.sIx xs.length 0 (some (a : Int)) = min a xs.length from HT.sIx_nat xs.length 0 a, show HT.sIx xs.length xs.length (some (b : Int)) = min b xs.length from HT.sIx_nat xs.length xs.length b]
  by_cases q : a ≤ xs.length
  · rw [Nat.min_eq_left q]
    by_cases q2 : b ≤ xs.length
    · rw [Nat.min_eq_left q2]
    · rw [Nat.min_eq_right (by omega), List.take_of_length_le (by rw [List.length_drop]; omega), List.take_of_length_le (by rw [List.length_drop]; omega)]
  · rw [Nat.min_eq_right (show xs.length ≤ a by omega), List.drop_of_length_le (Nat.le_refl _), List.drop_of_length_le (show xs.length ≤ a by omega)]; simp
/-! ### data kept -/
theorem sqT_same {a : Addr} {xs : List V} (s : Same H H') (h : SqT K H a xs) : SqT K H' a xs := by
  rcases h with (h | ⟨o, h⟩) | h
  · exact .inl (.inl (s _ _ h))
  · exact .inl (.inr ⟨o, s _ _ h⟩)
  · exact .inr h
mutual
theorem dp_same (s : Same H H') : ∀ (d : PyData) (v : V), Dp K H v d → Dp K H' v d
  | .none, _, h => by cases h; exact .non
  | .bool b, _, h => by cases h; exact .bl b
  | .int i, _, h => by cases h; exact .int i
  | .str y, _, h => by cases h; exact .str y
  | .list ds, _, h => by
    cases h with
    | lst e a => exact .lst (s.seq e) (dp_sameAll s ds _ a)
  | .tuple ds, _, h => by
    cases h with
    | tup e a => exact .tup (sqT_same s e) (dp_sameAll s ds _ a)
  | .dict _, _, h => by cases h
theorem dp_sameAll (s : Same H H') : ∀ (ds : List PyData) (vs : List V), DpAll K H vs ds → DpAll K H' vs ds
  | [], _, h => by cases h; exact .nil
  | d :: ds, _, h => by
    cases h with
    | cons a b => exact .cons (dp_same s d _ a) (dp_sameAll s ds _ b)
end
theorem dpall_len : ∀ {vs : List V} {ds : List PyData}, DpAll K H vs ds → vs.length = ds.length
  | _, _, .nil => rfl
  | _, _, .cons _ b => congrArg (· + 1) (dpall_len b)
theorem dpall_at : ∀ {vs : List V} {ds : List PyData} (h : DpAll K H vs ds) (i : Nat) (hi : i < ds.length), ∃ v, vs[i]? = some v ∧ Dp K H v ds[i]
  | _, _, .cons a b, 0, _ => ⟨_, rfl, a⟩
  | _, _, .cons a b, i + 1, hi => dpall_at b i (Nat.lt_of_succ_lt_succ hi)
theorem depth_at : ∀ {ds : List PyData} {i : Nat} (hi : i < ds.length), ds[i].depth ≤ PyData.depthAll ds
  | d :: ds, 0, _ => Nat.le_max_left _ _
  | d :: ds, i + 1, hi => Nat.le_trans (depth_at (ds := ds) (Nat.lt_of_succ_lt_succ hi)) (Nat.le_max_right _ _)
end
end Xk

set_option Elab.async false
set_option linter.all false
set_option maxRecDepth 100000
namespace Xk
open PySem PySem.Spec PyProof.Rows L2 GenW
/-! ### for in a generator -/
section
variable {M : Model} {A : Around} {R : GenEnd} {Y : Protocol} {n : Nat} {s₀ : Shared} {c : Code} {fs : List Frame} {s : Shared} {env : Env}
  {K : Flow → Sem PySem.Fin} {H : Value → Sem PySem.Fin} {gd : Bool → Bool} {lv : List Value → List Value}
theorem seg_For {target iter : Expr} {body orelse : List Stmt} {pos : Pos} (hs : ∀ x, foldedSetIterable iter env x = pure x)
    (h : wpAny M (A.over c fs) (eval iter env) (fun x s₁ => wpAny M (A.over c fs) (pyIter x) (fun it s₂ =>
      ∀ p, Seg M A R Y n s₀ (.forLoop target it body orelse env) (M.den (.forLoop target it body orelse env))
      (.ret (fun r => ((match r with | .ok f => (.pure f : Sem Flow) | .error e => .raise e).onRaise (cameBack env)).wrap K H gd lv) none (gd false) (lv []) c p [] :: fs) s₂)
      (fun x s' => Seg M A R Y n s₀ c (H x) fs s') s₁) (fun x s' => Seg M A R Y n s₀ c (H x) fs s') s) :
    Seg M A R Y n s₀ c ((exec (.For target iter body orelse pos) env).wrap K H gd lv) fs s := by
  rw [exec_For]
  simp only [hs]
  rw [Sem.bind_eq_wrap', Sem.wrap_wrap]
  refine seg_wrap (wpAny_standAt ?_)
  rw [Sem.bind_eq_wrap', Sem.wrap_wrap]
  refine seg_wrap (wpAny_mono h (fun x s₁ h₁ => ?_) fun _ _ z => z)
  show Seg M A R Y n s₀ c (Sem.wrap K H gd lv (standAt iter.pos >>= fun _ => holding [x] (pyIter x) >>= fun it => runOwn (.forLoop target it body orelse env) env)) fs s₁
  rw [Sem.bind_eq_wrap', Sem.wrap_wrap]
  refine seg_wrap (wpAny_standAt ?_)
  rw [Sem.bind_eq_wrap', Sem.wrap_wrap]
  refine seg_wrap (wpAny_holding (wpAny_mono h₁ (fun it s₂ h₂ => ?_) fun _ _ z => z))
  exact seg_call h₂
end
section
variable {prog : Program} {w : World} {A : Around} {R : GenEnd} {Y : Protocol} {n : Nat} {s₀ : Shared} {fs : List Frame} {s : Shared} {env : Env}
/-- one turn: a next item, or the end -/
theorem seg_forLoop {target : Expr} {it : Value} {body : List Stmt}
    (h : wpAny (model prog w) (A.over (.forLoop target it body [] env) fs) (pyNext it) (fun r s' => match r with
      | none => Seg (model prog w) A R Y n s₀ (.forLoop target it body [] env) (.pure (.again (.block [] env))) fs s'
      | some v => wpAny (model prog w) (A.over (.forLoop target it body [] env) fs) (letOwnedTupleGo target it v) (fun _ s1 =>
          wpAny (model prog w) (A.over (.forLoop target it body [] env) fs) (assign target env v) (fun _ s2 =>
            Seg (model prog w) A R Y n s₀ (.forLoop target it body [] env) ((execs body env).wrap (fun f => match f with
              | .next | .cont => .pure (.again (.forLoop target it body [] env))
              | .brk => .pure (.done .next)
              | .ret v => .pure (.done (.ret v))) (fun e => (do noteFrame e env; theTreesLotGoes e : Sem Unit).wrap (fun _ => .raise e) .raise id id) id id) fs s2) (fun _ _ => False) s1) (fun _ _ => False) s')
      (fun _ _ => False) s) :
    Seg (model prog w) A R Y n s₀ (.forLoop target it body [] env) ((model prog w).den (.forLoop target it body [] env)) fs s := by
  show Seg _ A R Y n s₀ _ ((forTurn target it body [] env).onRaise (fun x => do noteFrame x env; theTreesLotGoes x)) fs s
  unfold forTurn
  rw [Sem.onRaise_eq_wrap, Sem.bind_eq_wrap', Sem.wrap_wrap]
  refine seg_wrap (wpAny_standAt ?_)
  rw [Sem.bind_eq_wrap', Sem.wrap_wrap]
  refine seg_wrap (wpAny_onRaise (wpAny_mono h (fun r s' hr => ?_) fun _ _ z => z.elim))
  cases r with
  | none => exact hr
  | some v =>
    show Seg _ A R Y n s₀ _ (Sem.wrap _ _ _ _ (letOwnedTupleGo target it v >>= _)) fs s'
    rw [Sem.bind_eq_wrap', Sem.wrap_wrap]
    refine seg_wrap (wpAny_mono hr (fun _ s1 h1 => ?_) fun _ _ z => z.elim)
    rw [Sem.bind_eq_wrap', Sem.wrap_wrap]
    refine seg_wrap (wpAny_mono h1 (fun _ s2 h2 => ?_) fun _ _ z => z.elim)
    rw [Sem.bind_eq_wrap', Sem.wrap_wrap]
    rw [Sem.wrap_congr (execs body env) _ _ (K' := fun f => match f with
          | .next | .cont => .pure (.again (.forLoop target it body [] env))
          | .brk => .pure (.done .next)
          | .ret v => .pure (.done (.ret v))) (H' := (fun e => (do noteFrame e env; theTreesLotGoes e : Sem Unit).wrap (fun _ => .raise e) .raise id id))
      (fun f => by cases f <;> rfl)
      (fun e => by first | exact Sem.bind_eq_wrap _ _ | (show (do noteFrame e env; theTreesLotGoes e : Sem Unit).bind (fun _ => .raise e) = _; rw [Sem.bind_eq_wrap]))]
    exact h2
theorem seg_block0 {c : Code} {p : Pos} {l kp : List Value} {k : Result → Sem PySem.Fin} {g : Bool}
    (h : Seg (model prog w) A R Y n s₀ c (k (.ok .next)) fs s) :
    Seg (model prog w) A R Y n s₀ (.block [] env) ((model prog w).den (.block [] env)) (.ret k none g l c p kp :: fs) s := by
  show Seg _ A R Y n s₀ _ (leafOf (.ok .next)) _ s
  exact seg_leaf (.ok .next) h
end
/-- a for whose turns may hand out: as tFor, ys is out so far -/
def tGFor (wi : TI) (g : TG) (tb : TGn) : TGn := fun D ys σ H => wi σ H fun J H1 => ∃ W : Nat → Nat → List V → L2.St → Hp → Prop, (∃ m, W 0 m ys σ H1) ∧ ∀ i m ys σ H, W i m ys σ H →
  (J.stop i H ∧ D.nx ys σ H) ∨ (J.go i H ∧ ∃ N : List V → L2.St → Hp → Prop, (∀ ys' σ' H', N ys' σ' H' → ∃ m', m' < m ∧ W (i + 1) m' ys' σ' H') ∧ ∀ x H', J.yld i H x H' → g x σ H' fun σ2 H2 => tb { D with nx := N, ct := N, bk := D.nx } ys σ2 H2)
section
variable {X : Cx}
theorem gs_for {tg iter : Expr} {body : List Stmt} {wi : TI} {g : TG} {tb : TGn} {pos : Pos} (hno : ∀ e s', X.xe e s' → False) (hc : X.calm = true) (hi : PI X tg iter wi) (hg : PG X tg g) (hb : GSs X body tb)
    (hs : ∀ x, foldedSetIterable iter X.env x = pure x := by intro _; rfl) : GS X (.For tg iter body [] pos) (tGFor wi g tb) := by
  refine ⟨fun A S ip R n ys s₀ c fs K J gd lv s σ H D gc hn k hI ht => ?_⟩
  obtain ⟨acc, cc, r, I⟩ := hI
  refine seg_For hs ?_
  rw [gc.over]
  refine wpAny_mono (hi.run _ s σ H _ I ht) (fun v s1 h1 => wpAny_mono h1 (fun itv s2 h2 => ?_) fun x s' hx => (hno x s' hx).elim) fun x s' hx => (hno x s' hx).elim
  obtain ⟨it, fp, tn, J', H2, e, I2, T, st2, f2, W, ⟨m0, w0⟩, turn⟩ := h2
  subst e
  have hfS : ∀ b ∈ fp, S ≠ b := fun b hb => (f2 b hb).2.2.2.2.2 (S, lstObj acc cc) (List.mem_append_right _ List.mem_cons_self)
  have stat : ∀ {H' : Hp} {acc' : Array Value} {c' : Nat}, (∀ b ∈ fp, H' b = none) → ∀ b ∈ fp, FpOk X ((S, lstObj acc' c') :: ip) H' b := fun hn b hb => ⟨hn b hb, (f2 b hb).2.1, (f2 b hb).2.2.1, (f2 b hb).2.2.2.1, (f2 b hb).2.2.2.2.1, fun p hp => by
      rcases List.mem_append.mp hp with z | z
      · exact (f2 b hb).2.2.2.2.2 p (List.mem_append_left _ z)
      · rcases List.mem_cons.mp z with z | z
        · rw [z]; exact hfS b hb
        · exact (f2 b hb).2.2.2.2.2 p (List.mem_append_right _ (List.mem_cons_of_mem _ z))⟩
  intro p
  have gl := fun (kk : Result → Sem PySem.Fin) => gc_loop (k := kk) (c' := .forLoop tg (.ref it) body [] X.env) (l := lv []) (kp := []) (p := p) gc rfl rfl
  have loop : ∀ (m i n : Nat) (ys : List V) (s₀ s : Shared) (σ : L2.St) (H : Hp), n + ys.length = sizeLine → W i m ys σ H → GI X S ip ys σ H s → tn i s.heap → (∀ b ∈ fp, H b = none) →
      Seg (model X.prog X.w) A R (GY X S) n s₀ (.forLoop tg (.ref it) body [] X.env) ((model X.prog X.w).den (.forLoop tg (.ref it) body [] X.env))
        (.ret (fun r => ((match r with | .ok f => (.pure f : Sem Flow) | .error e => .raise e).onRaise (cameBack X.env)).wrap K J gd lv) none (gd false) (lv []) c p [] :: fs) s := by
    intro m
    induction m using Nat.strongRecOn with
    | ind m ih =>
      intro i n ys s₀ s3 σ3 H3 hn w hI st3 fr3
      refine seg_forLoop ?_
      rw [(gl _).over]
      obtain ⟨acc, cc, r, I⟩ := hI
      rcases turn i m ys σ3 H3 w with ⟨stop, qn⟩ | ⟨go, N, hN, step⟩
      · refine wpAny_mono (T.done X rfl rfl rfl hc i _ s3 σ3 H3 (fun _ _ => False) I (stat fr3) st3 stop) (fun r' s4 hr4 => ?_) fun _ _ z => z
        obtain ⟨hr, I4⟩ := hr4
        subst hr
        exact seg_again rfl (seg_block0 (k.ok n ys s₀ s4 .next hn ⟨σ3, H3, ⟨acc, cc, r, I4⟩, qn⟩))
      · refine wpAny_mono (T.item X rfl rfl rfl hc i _ s3 σ3 H3 (fun _ _ => False) I (stat fr3) st3 go) (fun r' s4 hr4 => ?_) fun _ _ z => z
        obtain ⟨u, hr, h4⟩ := hr4
        subst hr
        refine wpAny_mono h4 (fun _ s5 h5 => ?_) fun _ _ z => z
        obtain ⟨x, H5, I5, r5, y5, st5, fr5⟩ := h5
        have I5' := I5.pinned (stat fr5) (T.obj _ _ st5)
        refine wpAny_mono (hg.run _ s5 σ3 H5 x u _ I5' r5 (step x H5 y5)) (fun _ s6 h6 => ?_) fun x s' hx => hno x s' hx
        obtain ⟨σ6, H6, I6, q6⟩ := h6
        have g1 := gl (fun r => ((match r with | .ok f => (.pure f : Sem Flow) | .error e => .raise e).onRaise (cameBack X.env)).wrap K J gd lv)
        have gl' : GC X S (ip ++ pinsAt fp s5.heap) A (.forLoop tg (.ref it) body [] X.env) (.ret (fun r => ((match r with | .ok f => (.pure f : Sem Flow) | .error e => .raise e).onRaise (cameBack X.env)).wrap K J gd lv) none (gd false) (lv []) c p [] :: fs) id :=
          { pn := g1.pn, apart := g1.apart, over := g1.over, split := g1.split, guard := g1.guard, gd := rfl,
            ip := fun q hq => (List.mem_append.mp hq).elim (gc.ip q) fun z => Ne.symm (hfS q.1 (of_pinsAt z).1) }
        have back : ∀ {ys' : List V} {σ7 : L2.St} {H7 : Hp} {s7 : Shared}, GI X S (ip ++ pinsAt fp s5.heap) ys' σ7 H7 s7 → GI X S ip ys' σ7 H7 s7 ∧ tn (i + 1) s7.heap ∧ ∀ b ∈ fp, H7 b = none := fun {ys' σ7 H7 s7} hI7 => by
          obtain ⟨a7, c7, r7, J7⟩ := hI7
          refine ⟨⟨a7, c7, r7, J7.pins_of fun q hq => J7.pin q (List.mem_append_right _ ?_)⟩, T.keep _ _ _ st5 fun b hb o e => (J7.pin (b, o) (List.mem_append_right _ (List.mem_cons_of_mem _ (List.mem_append_right _ (mem_pinsAt hb e))))).1, fun b hb => ?_⟩
          · rcases List.mem_cons.mp hq with z | z
            · rw [z]; exact List.mem_cons_self
            · exact List.mem_cons_of_mem _ (List.mem_append_left _ z)
          · obtain ⟨o, e, d⟩ := T.obj _ _ st5 b hb
            exact (J7.pin (b, o) (List.mem_append_right _ (List.mem_cons_of_mem _ (List.mem_append_right _ (mem_pinsAt hb e))))).2.1
        refine hb.run A S (ip ++ pinsAt fp s5.heap) R n ys s₀ _ _ _ _ id id s6 σ6 H6 { D with nx := N, ct := N, bk := D.nx } gl' hn ⟨fun n' ys' s₀' s7 f hn' hs => ?_, fun n' s₀' x s3 hx => (hno x s3 hx).elim⟩ ⟨acc, cc, r, I6⟩ q6
        cases f with
        | next =>
          obtain ⟨σ7, H7, I7, n7⟩ := hs
          obtain ⟨m', hm, w7⟩ := hN ys' σ7 H7 n7
          obtain ⟨b1, b2, b3⟩ := back I7
          exact seg_again rfl (ih m' hm (i + 1) n' ys' s₀' s7 σ7 H7 hn' w7 b1 b2 b3)
        | cont =>
          obtain ⟨σ7, H7, I7, n7⟩ := hs
          obtain ⟨m', hm, w7⟩ := hN ys' σ7 H7 n7
          obtain ⟨b1, b2, b3⟩ := back I7
          exact seg_again rfl (ih m' hm (i + 1) n' ys' s₀' s7 σ7 H7 hn' w7 b1 b2 b3)
        | brk =>
          obtain ⟨σ7, H7, I7, q7⟩ := hs
          exact seg_leaf (.ok .next) (k.ok n' ys' s₀' s7 .next hn' ⟨σ7, H7, (back I7).1, q7⟩)
        | ret v =>
          obtain ⟨x7, σ7, H7, I7, r7, q7⟩ := hs
          exact seg_leaf (.ok (.ret v)) (k.ok n' ys' s₀' s7 (.ret v) hn' ⟨x7, σ7, H7, (back I7).1, r7, q7⟩)
  exact loop m0 0 n ys s₀ s2 σ H2 hn w0 ⟨acc, cc, r, I2⟩ st2 fun b hb => (f2 b hb).1
end
/-! ### no exception leaves; a generator def by its body -/
section
variable {X : Cx} {S : Addr} {ip : List (Addr × Obj)} {ys : List V} {σ : L2.St} {H : Hp} {s : Shared} {E : Value → Shared → Prop} {D : GEnds} {f : Flow}
theorem gi_wish (h : GI X S ip ys σ H s) : GI (X.wish E) S ip ys σ H s := match h with | ⟨a, c, r, I⟩ => ⟨a, c, r, I.wish E⟩
theorem gi_unwish (h : GI (X.wish E) S ip ys σ H s) : GI X S ip ys σ H s := match h with | ⟨a, c, r, I⟩ => ⟨a, c, r, I.unwish⟩
theorem gsp_unwish (h : GSP (X.wish E) S ip D ys f s) : GSP X S ip D ys f s := by
  cases f with
  | next => obtain ⟨a, b, h1, h2⟩ := h; exact ⟨a, b, gi_unwish h1, h2⟩
  | brk => obtain ⟨a, b, h1, h2⟩ := h; exact ⟨a, b, gi_unwish h1, h2⟩
  | cont => obtain ⟨a, b, h1, h2⟩ := h; exact ⟨a, b, gi_unwish h1, h2⟩
  | ret u => obtain ⟨v, a, b, h1, h2⟩ := h; exact ⟨v, a, b, gi_unwish h1, h2⟩
theorem gss_nox {st : List Stmt} {t : TGn} (h : GSs X.nox st t) : GSs X st t := by
  refine ⟨fun A S ip R n ys s₀ c fs K J gd lv s σ H D g hn k hI ht => ?_⟩
  refine seg_imp (R := R) (Y := GY X.nox S) (fun _ _ _ _ z => z) (fun n s₀ v s kap kap' hkk hy => ?_) n (h.run A S ip R n ys s₀ c fs K J gd lv s σ H D ⟨g.pn, g.ip, g.apart, g.over, g.split, g.guard, g.gd⟩ hn ⟨fun n' ys' s₀' s' f hn' hs => ?_, fun _ _ _ _ z => z.elim⟩ (gi_wish hI) ht)
  · obtain ⟨ys, x, ip, σ, H, h1, h2, h3, h4⟩ := hy
    exact ⟨ys, x, ip, σ, H, h1, h2, gi_unwish h3, fun s' z => hkk _ _ (h4 s' z)⟩
  · refine seg_imp (R := R) (Y := GY X S) (fun _ _ _ _ z => z) (fun n s₀ v s kap kap' hkk hy => ?_) n' (k.ok n' ys' s₀' s' f hn' (gsp_unwish hs))
    obtain ⟨ys, x, ip, σ, H, h1, h2, h3, h4⟩ := hy
    exact ⟨ys, x, ip, σ, H, h1, h2, gi_wish h3, fun s' z => hkk _ _ (h4 s' z)⟩
end
section
variable {P : Program} {w : World} {K : PySem.W.Frag} {mg : Str → Option Value} {base : Heap}
theorem okGen {x qual : Str} {st : Stmt} {f : Addr} {fd : FuncData} {N ps : List Str} {k : Nat} {sp : SpG} (F : Fun K x qual st f fd) (S : GScope N ps (defScope st)) (cnt : ∀ vs H Q E, sp vs H Q E → vs.length = ps.length)
    (body : ∀ (cdv : Value) (A : Around) (ou : List Env) (t : Shared) (H : Hp) (vs : List V) (Q : List V → Hp → Prop) (E : XK) (pn : List (Addr × Obj)), Room k (A.deeper (envOfC qual (defScope st) t.heap.objs.size f cdv)) → sp vs H Q E →
      ∃ r, GSs (gcxOf P w K mg base N qual (defScope st) f cdv A ou t H E pn).nox (defBody st) r ∧ r ⟨fun ys _ H' => Q ys H', fun ys v H' => v = .non ∧ Q ys H', fun _ _ _ => False, fun _ _ _ => False⟩ [] (L2.start N vs) H) :
    GFn P w K mg base (k + 1) f fd ps sp := by
  obtain ⟨oc, od, kV, doc, pm, an, cdv, ct, osl, rfl, lk, hcd⟩ := F.ex
  refine gfn_of lk hcd S cnt fun A ou t H vs Q E pn hr hsp => ?_
  obtain ⟨r, h, q⟩ := body cdv A ou t H vs Q E pn hr hsp
  exact ⟨r, gss_nox h, q⟩
end
section
variable {X : Cx}
theorem passG {X : Cx} : Passes (CX X.prog X.w) X (fun _ _ _ => False) := fun pins σ H s e s' _ h => by
  obtain ⟨_, _, _, _, _, _, _, _, _, _, _, _, z⟩ := h
  exact z.elim
theorem noStop0 {K : PySem.W.Frag} : NoStop K (fun _ _ _ => False) := fun _ _ _ z => z.elim
theorem r_gone {D : GEnds} {ys : List V} {σ : L2.St} {H : Hp} {t u : TGn} (h : t ⟨fun ys' σ' H' => u D ys' σ' H', D.rt, D.bk, D.ct⟩ ys σ H) : tGThen t u D ys σ H := h
theorem r_gplain {D : GEnds} {ys : List V} {σ : L2.St} {H : Hp} {t : TS} (h : t ⟨D.nx ys, D.rt ys, D.bk ys, D.ct ys⟩ σ H) : tPlain t D ys σ H := h
theorem r_gyield {D : GEnds} {ys : List V} {σ : L2.St} {H : Hp} {te : TE} (hy : ys.length < sizeLine) (h : te σ H fun x H1 => D.nx (ys ++ [x]) σ H1) : tGYield te D ys σ H := ⟨hy, h⟩
theorem r_g0 {D : GEnds} {ys : List V} {σ : L2.St} {H : Hp} (h : D.nx ys σ H) : tG0 D ys σ H := h
theorem r_gfor {wi : TI} {g : TG} {tb : TGn} {D : GEnds} {ys : List V} {σ : L2.St} {H : Hp} (h : wi σ H fun J H1 => ∃ W : Nat → Nat → List V → L2.St → Hp → Prop, (∃ m, W 0 m ys σ H1) ∧ ∀ i m ys σ H, W i m ys σ H →
  (J.stop i H ∧ D.nx ys σ H) ∨ (J.go i H ∧ ∃ N : List V → L2.St → Hp → Prop, (∀ ys' σ' H', N ys' σ' H' → ∃ m', m' < m ∧ W (i + 1) m' ys' σ' H') ∧ ∀ x H', J.yld i H x H' → g x σ H' fun σ2 H2 => tb ⟨N, D.rt, D.nx, N⟩ ys σ2 H2)) : tGFor wi g tb D ys σ H := h
/-- a generator's turns over what is walked -/
theorem gforI {J : It} {n : Nat} {G : Hp → Prop} {Y : Nat → Hp → V → Hp → Prop} (w : Walk J n G Y) {g : TG} {tb : TGn} {nx : List V → L2.St → Hp → Prop} {rt : List V → VK} {ys : List V} {σ : L2.St} {H : Hp} (Pv : Nat → List V → L2.St → Hp → Prop) (h0 : Pv 0 ys σ H) (hG : ∀ i ys σ H, i ≤ n → Pv i ys σ H → G H)
    (hs : ∀ i x ys σ H H', i < n → Pv i ys σ H → Y i H x H' → g x σ H' fun σ2 H2 => tb ⟨Pv (i + 1), rt, nx, Pv (i + 1)⟩ ys σ2 H2) (hd : ∀ ys σ H, Pv n ys σ H → nx ys σ H) :
    ∃ W : Nat → Nat → List V → L2.St → Hp → Prop, (∃ m, W 0 m ys σ H) ∧ ∀ i m ys σ H, W i m ys σ H →
      (J.stop i H ∧ nx ys σ H) ∨ (J.go i H ∧ ∃ N : List V → L2.St → Hp → Prop, (∀ ys' σ' H', N ys' σ' H' → ∃ m', m' < m ∧ W (i + 1) m' ys' σ' H') ∧ ∀ x H', J.yld i H x H' → g x σ H' fun σ2 H2 => tb ⟨N, rt, nx, N⟩ ys σ2 H2) := by
  refine ⟨fun i m ys σ H => i + m = n ∧ Pv i ys σ H, ⟨n, Nat.zero_add n, h0⟩, fun i m ys σ H ⟨e, p⟩ => ?_⟩
  cases m with
  | zero =>
    have e' : i = n := e
    subst e'
    exact .inl ⟨w.stops _ (hG _ ys σ H (Nat.le_refl _) p), hd _ _ _ p⟩
  | succ m =>
    refine .inr ⟨w.goes i H (by omega) (hG i ys σ H (by omega) p), Pv (i + 1), fun ys' σ' H' q => ⟨m, Nat.lt_succ_self m, by omega, q⟩, fun x H' y => ?_⟩
    exact hs i x ys σ H H' (by omega) p (w.yields i H x H' (by omega) (hG i ys σ H (by omega) p) y)
theorem gforA {J : It} {G : Hp → Prop} {xs : List V} (w : Walk J xs.length G (YAt xs)) {g : TG} {tb : TGn} {nx : List V → L2.St → Hp → Prop} {rt : List V → VK} {ys : List V} {σ : L2.St} {H : Hp} (Pv : Nat → List V → L2.St → Hp → Prop) (h0 : Pv 0 ys σ H) (hG : ∀ i ys σ H, i ≤ xs.length → Pv i ys σ H → G H)
    (hs : ∀ i ys σ H (hi : i < xs.length), Pv i ys σ H → g xs[i] σ H fun σ2 H2 => tb ⟨Pv (i + 1), rt, nx, Pv (i + 1)⟩ ys σ2 H2) (hd : ∀ ys σ H, Pv xs.length ys σ H → nx ys σ H) :
    ∃ W : Nat → Nat → List V → L2.St → Hp → Prop, (∃ m, W 0 m ys σ H) ∧ ∀ i m ys σ H, W i m ys σ H →
      (J.stop i H ∧ nx ys σ H) ∨ (J.go i H ∧ ∃ N : List V → L2.St → Hp → Prop, (∀ ys' σ' H', N ys' σ' H' → ∃ m', m' < m ∧ W (i + 1) m' ys' σ' H') ∧ ∀ x H', J.yld i H x H' → g x σ H' fun σ2 H2 => tb ⟨N, rt, nx, N⟩ ys σ2 H2) :=
  gforI w Pv h0 hG (fun i x ys σ H H' hi p y => by
    obtain ⟨rfl, e⟩ := y
    rw [List.getElem?_eq_getElem hi] at e
    cases e
    exact hs i ys σ H' hi p) hd
end
end Xk
local macro_rules | `(tactic| fail "one") => `(tactic| with_reducible first
  | refine Xk.r_gone ?_ | refine Xk.r_gplain ?_ | refine Xk.r_g0 ?_ | refine Xk.r_gfor ?_)

set_option Elab.async false
set_option linter.all false
set_option maxRecDepth 100000
namespace Xk
open PySem PySem.Spec PyProof.Rows L2 GenW
theorem zipNoLen : typeLookup (.type "zip") "__len__" = pure none := by rw [typeLookup_type, builtinLookup_eq_fast]; kernel_rfl
theorem zipNoHint : typeLookup (.type "zip") "__length_hint__" = pure none := by rw [typeLookup_type, builtinLookup_eq_fast]; kernel_rfl
/-- a zip of two lists amid its turns, the pairs that it gave out being kept (in S) -/
def ZSt (z TI TO i1 i2 l1 l2 S : Addr) (xs ys : Array Value) (i : Nat) (h : Heap) : Prop :=
  IsPair h TI (.ref i1) (.ref i2) ∧ h.IsListIter i1 l1 i ∧ h.IsListIter i2 l2 i ∧ h.IsList l1 xs ∧ h.IsList l2 ys ∧
    ((IsZip h z TI TO .none ∧ ∃ a b, IsPair h TO a b) ∨ ∃ T f oT, IsZipHeld h z TI TO T f ∧ h.get? T = some oT ∧ T ≠ z ∧ T ≠ i1 ∧ T ≠ i2 ∧ T ≠ S ∧ ∃ oo, h.get? TO = some oo)
section
variable {X : Cx} {A : Around} {z TI TO i1 i2 l1 l2 S : Addr} {xs ys : Array Value} {vx vy : List V} {pins : List (Addr × Obj)} {σ : L2.St} {H0 : Hp} {R : Result → Shared → Prop} {res : Value}
structure ZOff (z TI TO i1 i2 l1 l2 S : Addr) : Prop where
  z : S ≠ z
  TI : S ≠ TI
  TO : S ≠ TO
  i1 : S ≠ i1
  i2 : S ≠ i2
  l1 : S ≠ l1
  l2 : S ≠ l2
/-- the pairs' tuples -/
structure Prs (H0 H : Hp) (ts : List Addr) (vx vy : List V) : Prop where
  at_ : ∀ (j : Nat) (t : Addr), ts[j]? = some t → H0 t = none ∧ ∃ x y, vx[j]? = some x ∧ vy[j]? = some y ∧ H t = some (.tup [x, y])
theorem zip_next {i : Nat} {s : Shared} {x y : Value} {E : Value → Shared → Prop} {Q : Option Value → Shared → Prop} (D : ZipApart z TI TO i1 i2 l1 l2) (off : ZOff z TI TO i1 i2 l1 l2 S) (hS : S < s.heap.objs.size) (st : ZSt z TI TO i1 i2 l1 l2 S xs ys i s.heap) (hx : xs[i]? = some x) (hy : ys[i]? = some y)
    (hQ : ∀ h', (∀ b o, b ∉ [z, TO, i1, i2] → s.heap.get? b = some o → h'.get? b = some o) → IsPair h' s.heap.objs.size x y → h'.objs.size = s.heap.objs.size + 1 →
      (∀ h'', (∀ b o, b ≠ S → h'.get? b = some o → h''.get? b = some o) → ZSt z TI TO i1 i2 l1 l2 S xs ys (i + 1) h'') → Q (some (.ref s.heap.objs.size)) { s with heap := h' }) :
    wpAny (model X.prog X.w) A (pyNext (.ref z)) Q E s := by
  obtain ⟨hTI, h1, h2, hl1, hl2, hz⟩ := st
  have big : ∀ {c o}, s.heap.get? c = some o → s.heap.objs.size ≠ c := fun e => Nat.ne_of_gt (Heap.lt_size e)
  have b1 : s.heap.objs.size ≠ i1 := let ⟨_, e, _⟩ := h1; big e
  have b2 : s.heap.objs.size ≠ i2 := let ⟨_, e, _⟩ := h2; big e
  rcases hz with ⟨hz, a, b, hTO⟩ | ⟨T, f, oT, hz, hT, r1, r2, r3, r4, oo, hoo⟩
  · refine wpAny_pyNext_zip_item D hz hTI hTO h1 h2 hl1 hl2 hx hy fun h' a1 a2 a3 a4 a5 a6 hk => ?_
    refine hQ h' (fun c o hc e => hk c o (fun q => hc (by simp [q])) (fun q => hc (by simp [q])) (fun q => hc (by simp [q])) (fun q => hc (by simp [q])) e) a5 a6 fun h'' k => ?_
    refine ⟨k _ _ off.TI.symm (hk _ _ D.TIz D.TITO D.TIi1 D.TIi2 hTI), a3.at fun o e => k _ o off.i1.symm e, a4.at fun o e => k _ o off.i2.symm e, hl1.at fun o e => k _ o off.l1.symm (hk _ o D.l1z D.l1TO D.l1i1 D.l1i2 e), hl2.at fun o e => k _ o off.l2.symm (hk _ o D.l2z D.l2TO D.l2i1 D.l2i2 e),
      .inr ⟨s.heap.objs.size, false, _, k _ _ off.z.symm a1, k _ _ (Nat.ne_of_gt hS) a5, big hz, b1, b2, Nat.ne_of_gt hS, _, k _ _ off.TO.symm a2⟩⟩
  · refine wpAny_pyNext_zip_item_held D hz hT hTI h1 h2 hl1 hl2 hx hy fun h' a1 a3 a4 a5 a6 hk => ?_
    refine hQ h' (fun c o hc e => hk c o (fun q => hc (by simp [q])) (fun q => hc (by simp [q])) (fun q => hc (by simp [q])) e) a5 a6 fun h'' k => ?_
    refine ⟨k _ _ off.TI.symm (hk _ _ D.TIz D.TIi1 D.TIi2 hTI), a3.at fun o e => k _ o off.i1.symm e, a4.at fun o e => k _ o off.i2.symm e, hl1.at fun o e => k _ o off.l1.symm (hk _ o D.l1z D.l1i1 D.l1i2 e), hl2.at fun o e => k _ o off.l2.symm (hk _ o D.l2z D.l2i1 D.l2i2 e),
      .inr ⟨T, true, oT, k _ _ off.z.symm a1, k _ _ r4 (hk _ _ r1 r2 r3 hT), r1, r2, r3, r4, oo, k _ _ off.TO.symm (hk _ _ D.TOz D.TOi1 D.TOi2 hoo)⟩⟩
theorem zip_over {i : Nat} {s : Shared} {E : Value → Shared → Prop} {Q : Option Value → Shared → Prop} (hh : A.handled = none) (D : ZipApart z TI TO i1 i2 l1 l2) (st : ZSt z TI TO i1 i2 l1 l2 S xs ys i s.heap) (he : xs[i]? = none ∨ ys[i]? = none)
    (hQ : ∀ h', (∀ b o, b ∉ [z, TO, i1, i2] → s.heap.get? b = some o → h'.get? b = some o) → Q none { s with heap := h' }) : wpAny (model X.prog X.w) A (pyNext (.ref z)) Q E s := by
  obtain ⟨hTI, h1, h2, hl1, hl2, hz⟩ := st
  rcases hz with ⟨hz, a, b, hTO⟩ | ⟨T, f, oT, hz, hT, r1, r2, r3, r4, oo, hoo⟩
  · exact wpAny_pyNext_zip_end hh D hz hTI hTO h1 h2 hl1 hl2 he fun h' hk => hQ h' fun c o hc e => hk c o (fun q => hc (by simp [q])) (fun q => hc (by simp [q])) (fun q => hc (by simp [q])) (fun q => hc (by simp [q])) e
  · exact wpAny_pyNext_zip_end_held hh D hz hT hTI h1 h2 hl1 hl2 he fun h' hk => hQ h' fun c o hc e => hk c o (fun q => hc (by simp [q])) (fun q => hc (by simp [q])) (fun q => hc (by simp [q])) e
theorem zip_drain (hh : A.handled = none) (D : ZipApart z TI TO i1 i2 l1 l2) (off : ZOff z TI TO i1 i2 l1 l2 S) (rx : Vals vx xs.toList) (ry : Vals vy ys.toList) {n : Nat} (hn : n = min vx.length vy.length) (hsz : n ≤ sizeLine)
    (hend : ∀ (H : Hp) (s' : Shared) (ts : List Addr) (acc : Array Value) (c : Nat), Inv X pins σ H s' → (∀ b ∈ [z, TO, i1, i2, S], FpOk X pins H b) → s'.heap.get? S = some (lstObj acc c) → Vals (ts.map V.ref) acc.toList → ts.length = n → Same H0 H → Prs H0 H ts vx vy → R (.ok (.ret res)) s') :
    ∀ (m i : Nat) (s : Shared) (H : Hp) (ts : List Addr) (acc : Array Value) (c : Nat), m + i = n → ZSt z TI TO i1 i2 l1 l2 S xs ys i s.heap → Inv X pins σ H s → (∀ b ∈ [z, TO, i1, i2, S], FpOk X pins H b) → s.heap.get? S = some (lstObj acc c) → Vals (ts.map V.ref) acc.toList → ts.length = i → Same H0 H → Prs H0 H ts vx vy →
      codeAny (model X.prog X.w) A (.builtin "list.extend.loop" ⟨[.ref S, .ref z, res], []⟩) R s := by
  have lx : vx.length = xs.size := by have := rx.length; simpa using this
  have ly : vy.length = ys.size := by have := ry.length; simpa using this
  intro m
  induction m with
  | zero =>
    intro i s H ts acc c hm st I fp hS rv hl sm pr
    refine codeAny_builtin F.entry_extend_loop ?_
    rw [Around.under_plainId F.plain_extend_loop _]
    show wpAny _ A.in1 (pyNext (.ref z) >>= _) _ _ s
    have hi : i = n := by omega
    have hend2 : xs[i]? = none ∨ ys[i]? = none := by
      rcases Nat.le_total vx.length vy.length with q | q
      · exact .inl (Array.getElem?_eq_none (by omega))
      · exact .inr (Array.getElem?_eq_none (by omega))
    refine wpAny_bind (zip_over (X := X) hh D st hend2 fun h' k => ?_)
    refine wpAny_pure ?_
    have I2 : Inv X pins σ H { s with heap := h' } := I.turnedL (t' := s.toks) (ch := [z, TO, i1, i2]) k fun b hb => fp b (List.mem_append_left [S] hb)
    have hSn : S ∉ [z, TO, i1, i2] := by simp [off.z, off.TO, off.i1, off.i2]
    exact hend H _ ts acc c I2 fp (k S _ hSn hS) rv (hl.trans hi) sm pr
  | succ m ih =>
    intro i s H ts acc c hm st I fp hS rv hl sm pr
    refine codeAny_builtin F.entry_extend_loop ?_
    rw [Around.under_plainId F.plain_extend_loop _]
    show wpAny _ A.in1 (pyNext (.ref z) >>= _) _ _ s
    have hix : i < xs.size := by omega
    have hiy : i < ys.size := by omega
    have ex := Array.getElem?_eq_getElem hix
    have ey := Array.getElem?_eq_getElem hiy
    have hvx : vx[i]? = some vx[i] := List.getElem?_eq_getElem (by omega)
    have hvy : vy[i]? = some vy[i] := List.getElem?_eq_getElem (by omega)
    refine wpAny_bind (zip_next (X := X) D off (Heap.lt_size hS) st ex ey fun h' k hT hz hst => ?_)
    have hSn : S ∉ [z, TO, i1, i2] := by simp [off.z, off.TO, off.i1, off.i2]
    have hS1 := k S _ hSn hS
    have hasz : acc.size = i := by
      have := rv.length
      rw [List.length_map, hl] at this
      simpa using this.symm
    show wpAny _ A.in1 (updateSeq S (·.push (.ref s.heap.objs.size)) >>= _) _ _ _
    refine wpAny_bind ?_
    refine wpAny_updateSeq hS1 rfl (wpAny_pure ⟨plainId_quiet F.plain_extend_loop _, ?_⟩) (by omega) (by show (acc.push _).size ≤ sizeLine + 1; rw [Array.size_push]; omega)
    have keep3 : ∀ b o, b ≠ S → h'.get? b = some o → (h'.update S (Obj.mapSeq (·.push (.ref s.heap.objs.size)))).get? b = some o := fun b o hbS e => (Heap.get?_update_other _ _ (Ne.symm hbS)).trans e
    have hTS : s.heap.objs.size ≠ S := Nat.ne_of_gt (Heap.lt_size hS)
    have hTn : H s.heap.objs.size = none := I.hok.fresh (Nat.le_refl _)
    have gx : RelV vx[i] xs[i] := by
      obtain ⟨u, hu, r⟩ := rx.get hvx
      have : u = xs[i] := by simpa [ex] using hu.symm
      rw [← this]; exact r
    have gy : RelV vy[i] ys[i] := by
      obtain ⟨u, hu, r⟩ := ry.get hvy
      have : u = ys[i] := by simpa [ey] using hu.symm
      rw [← this]; exact r
    have I2 : Inv X pins σ (upd H s.heap.objs.size (.tup [vx[i], vy[i]])) { s with heap := h'.update S (Obj.mapSeq (·.push (.ref s.heap.objs.size))) } :=
      I.turnedNew (t' := s.toks) (ch := [z, TO, i1, i2, S]) (fun b o hb e => keep3 b o (fun q => hb (by simp [q])) (k b o (fun q => hb (List.mem_append_left [S] q)) e)) fp (Nat.le_refl _)
        ⟨by show 2 ≤ sizeLine; decide, [xs[i], ys[i]], .cons gx (.cons gy .nil), ⟨_, keep3 _ _ hTS hT, rfl, _, rfl⟩⟩
    refine ih (i + 1) _ (upd H s.heap.objs.size (.tup [vx[i], vy[i]])) (ts ++ [s.heap.objs.size]) (acc.push (.ref s.heap.objs.size)) _ (by omega) (hst _ keep3) I2 (fun b hb => ?_) (Heap.get?_update_self _ hS1 rfl) ?_ (by rw [List.length_append, hl]; rfl) (sm.trans (same_new hTn)) ⟨fun j t e => ?_⟩
    · obtain ⟨f1, f2⟩ := fp b hb
      refine ⟨?_, f2⟩
      have hne : b ≠ s.heap.objs.size := by
        obtain ⟨hTI, ⟨o1, e1, _⟩, ⟨o2, e2, _⟩, hl1, hl2, hz'⟩ := st
        have big : ∀ {c o}, s.heap.get? c = some o → c ≠ s.heap.objs.size := fun e => Nat.ne_of_lt (Heap.lt_size e)
        have e' : b = z ∨ b = TO ∨ b = i1 ∨ b = i2 ∨ b = S := by simpa using hb
        rcases e' with q | q | q | q | q
        · rw [q]; rcases hz' with ⟨q1, _⟩ | ⟨_, _, _, q1, _⟩ <;> exact big q1
        · rw [q]; rcases hz' with ⟨_, _, _, q1⟩ | ⟨_, _, _, _, _, _, _, _, _, _, q1⟩ <;> exact big q1
        · rw [q]; exact big e1
        · rw [q]; exact big e2
        · rw [q]; exact hTS.symm
      rw [upd_ne hne]; exact f1
    · rw [List.map_append, Array.toList_push]
      exact rv.append (.cons rfl .nil)
    · by_cases hj : j < ts.length
      · rw [List.getElem?_append_left hj] at e
        obtain ⟨q1, x, y, q2, q3, q4⟩ := pr.at_ j t e
        exact ⟨q1, x, y, q2, q3, upd_old hTn q4⟩
      · rw [List.getElem?_append_right (by omega)] at e
        have e3 : j = i := by
          cases hh : j - ts.length with
          | zero => omega
          | succ k => rw [hh] at e; simp at e
        subst e3
        rw [hl, Nat.sub_self] at e
        cases e
        refine ⟨?_, _, _, hvx, hvy, upd_same⟩
        cases q : H0 s.heap.objs.size with
        | none => rfl
        | some u => rw [sm _ _ q] at hTn; cases hTn
/-- what list(zip(a, b)) gives -/
def tListZip (K : PySem.W.Frag) (ta : TA) : TE := fun σ H Q => ta σ H fun vs H1 => ∃ (a b : Addr) (xs ys : List V), vs = [.ref a, .ref b] ∧ SqL K H1 a xs ∧ SqL K H1 b ys ∧
  ∀ (ts : List Addr) (H2 : Hp) (p : Addr), Same H1 H2 → Prs H1 H2 ts xs ys → ts.length = min xs.length ys.length → H1 p = none → H2 p = some (.lst (ts.map V.ref)) → Q (.ref p) H2
theorem pe_listZip {e e2 : Expr} {ta : TA} {p pos p2 pos2 : Pos} (hc : X.calm = true) (hg : Gl X "list") (hm : X.mg "list" = none) (hgz : Gl X "zip") (hmz : X.mg "zip" = none) (ha : PA X [e, e2] ta)
    (hs : starEach [e, e2] X.env = (false, eval e X.env) :: starEach [e2] X.env := by rfl) (hpl : (backTo pos2 (starEach [e2] X.env)).any (·.1) = false := by rfl)
    (na : starEach [.Call (.Name "zip" p2) [e, e2] [] pos2] X.env = (false, eval (.Call (.Name "zip" p2) [e, e2] [] pos2) X.env) :: starEach [] X.env := by rfl) : PE X (.Call (.Name "list" p) [.Call (.Name "zip" p2) [e, e2] [] pos2] [] pos) (tListZip X.K ta) := by
  refine ⟨fun pins s σ H Q I h => ?_⟩
  refine Call_ (ld_blt I hg hm boot_list (PyProof.Rows.callWith_type1 (args_cons (Call_ (ld_blt I hgz hmz PyProof.Rows.boot_zip (PyProof.Rows.callWith_type1 (thn (ha.run pos2 pins s σ H _ I h) fun us s1 ⟨vs, H1, I1, r1, q1⟩ => ?_) hs hpl))) na) na))
  obtain ⟨a, b, xs, ys, ex, hqx, hqy, q⟩ := q1
  subst ex
  cases r1 with
  | cons r rr =>
    cases rr with
    | cons r' rr =>
      cases rr
      cases r
      cases r'
      obtain ⟨its, rv, p1, z1⟩ := I1.list hqx
      obtain ⟨its2, rv2, p2, z2⟩ := I1.list hqy
      have la : a < s1.heap.objs.size := p1.lt
      have lb : b < s1.heap.objs.size := p2.lt
      refine call_zip_2 p1.isList p2.isList fun h' hz hTI hTO h1 h2 hsz hk => args_nil ?_
      have I2 : Inv X pins σ H1 { s1 with heap := h' } := I1.kept (t' := s1.toks) hk
      have ev : EP X pins σ Q = fun u s' => ∃ v H', Inv X pins σ H' s' ∧ RelV v u ∧ Q v H' := rfl
      generalize hst : ({ heap := h', gens := s1.gens, drawn := s1.drawn, toks := s1.toks, os := s1.os } : Shared) = s2 at I2 ⊢
      have e2 : s2.heap = h' := by rw [← hst]
      have SN : h'.objs.size = s1.heap.objs.size + 5 := hsz
      refine callType_codes (Q₁ := fun obj s₁ => obj = .ref s2.heap.objs.size ∧ s₁ = { s2 with heap := s2.heap.push { cls := .type "list", data := .seq #[] } }) F.called_list (F.typeCall_list_1 _) F.entry_list_init
        (code_list_new _ ⟨rfl, rfl⟩) fun obj s₁ h₁ => ?_
      obtain ⟨rfl, rfl⟩ := h₁
      have hS : (s2.heap.push { cls := .type "list", data := .seq #[] }).get? s2.heap.objs.size = some { cls := .type "list", data := .seq #[] } := Heap.get?_push_size _ rfl
      have k1 : ∀ b o, s2.heap.get? b = some o → (s2.heap.push { cls := .type "list", data := .seq #[] }).get? b = some o := fun b o e => Heap.get?_push_of_some _ e
      have up : ∀ (h : Heap) (f : Obj → Obj), (∀ b o, s2.heap.get? b = some o → h.get? b = some o) → ∀ b o, s2.heap.get? b = some o → (h.update s2.heap.objs.size f).get? b = some o := fun h f q b o e =>
        (Heap.get?_update_other _ _ (Ne.symm (Nat.ne_of_lt (Heap.lt_size e)))).trans (q b o e)
      refine ⟨⟨_, hS, rfl⟩, F.args_list_init_2 _ _, ?_⟩
      show wpAny _ X.A.in1.in1 (do let old ← Builtin.List.listItems (.ref s2.heap.objs.size); Builtin.List.listUpdate (.ref s2.heap.objs.size) (fun _ => #[]); letGo old.toList.reverse; Builtin.List.listExtendWith (.ref s2.heap.objs.size) (.ref (s1.heap.objs.size + 4)) .none) _ _ _
      refine wpAny_bind ?_
      unfold Builtin.List.listItems
      refine wpAny_bind (wpAny_seqItems hS rfl (wpAny_pure ?_))
      show wpAny _ X.A.in1.in1 (updateSeq s2.heap.objs.size (fun _ => #[]) >>= fun _ => letGo (#[] : Array Value).toList.reverse >>= fun _ => Builtin.List.listExtendWith (.ref s2.heap.objs.size) (.ref (s1.heap.objs.size + 4)) .none) _ _ _
      refine wpAny_bind (wpAny_updateSeq hS rfl ?_)
      have hS2 := Heap.get?_update_self (Obj.mapSeq (fun _ => (#[] : Array Value))) hS rfl
      have k2 := up _ (Obj.mapSeq (fun _ => (#[] : Array Value))) k1
      refine wpAny_bind (wpAny_letGo ?_)
      unfold Builtin.List.listExtendWith
      have hz0 : IsZip s2.heap (s1.heap.objs.size + 4) (s1.heap.objs.size + 2) (s1.heap.objs.size + 3) .none := by rw [e2]; exact hz
      refine wpAny_bind (wpAny_typeOf (T := "zip") ⟨_, k2 _ _ hz0, rfl⟩ ?_)
      have hne : s2.heap.objs.size ≠ s1.heap.objs.size + 4 := by rw [e2, SN]; exact fun q => by have : (s1.heap.objs.size + 5 : Nat) = s1.heap.objs.size + 4 := q; omega
      have h1' : Builtin.List.listSameRef (.ref s2.heap.objs.size) (.ref (s1.heap.objs.size + 4)) = false := by simp [Builtin.List.listSameRef, hne]
      have h2' : (Value.type "zip" == Value.type "list") = false := by decide
      have h3' : (Value.type "zip" == Value.type "tuple") = false := by decide
      simp only [h1', h2', h3', Bool.or_false, Bool.false_eq_true, if_false]
      refine wpAny_bind (wpAny_pyIter_zip (k2 _ _ hz0) ?_)
      refine wpAny_bind (wpAny_holding ?_)
      unfold Builtin.List.listLengthHint
      refine wpAny_bind (wpAny_specialOf (T := "zip") ⟨_, k2 _ _ hz0, rfl⟩ zipNoLen ?_)
      show wpAny _ X.A.in1.in1 (specialOf (Value.ref (s1.heap.objs.size + 4)) (Str.ofString "__length_hint__") >>= _) _ _ _
      refine wpAny_bind (wpAny_specialOf (T := "zip") ⟨_, k2 _ _ hz0, rfl⟩ zipNoHint ?_)
      refine wpAny_pure ?_
      have key : ∀ (h : Heap) (c : Nat), (∀ b o, s2.heap.get? b = some o → h.get? b = some o) → h.get? s2.heap.objs.size = some (lstObj #[] c) →
          codeAny (model X.prog X.w) X.A.in1 (.builtin "list.extend.loop" ⟨[.ref s2.heap.objs.size, .ref (s1.heap.objs.size + 4), .none], []⟩) (wants (fun r s₂ => r = Value.none ∧ EP X pins σ Q (Value.ref s2.heap.objs.size) s₂) X.xe) { s2 with heap := h } := by
        intro h c k hSc
        have SN2 : s2.heap.objs.size = s1.heap.objs.size + 5 := by rw [e2]; exact SN
        have I3 : Inv X pins σ H1 { s2 with heap := h } := I2.kept (t' := s2.toks) k
        have kk : ∀ b o, h'.get? b = some o → h.get? b = some o := fun b o e => k b o (by rw [e2]; exact e)
        have fr : ∀ b, s1.heap.objs.size ≤ b → FpOk X pins H1 b := fun b hb => I1.fpOk hb (I1.hok.fresh hb)
        have off : ZOff (s1.heap.objs.size + 4) (s1.heap.objs.size + 2) (s1.heap.objs.size + 3) s1.heap.objs.size (s1.heap.objs.size + 1) a b s2.heap.objs.size := by
          rw [SN2]
          have la' : (a : Nat) < s1.heap.objs.size := la
          have lb' : (b : Nat) < s1.heap.objs.size := lb
          constructor <;> first | exact Nat.ne_of_gt (Nat.lt_of_lt_of_le la' (Nat.le_add_right _ _)) | exact Nat.ne_of_gt (Nat.lt_of_lt_of_le lb' (Nat.le_add_right _ _)) | (intro q; have q' : (s1.heap.objs.size + 5 : Nat) = _ := q; omega)
        refine zip_drain (X := X) (A := X.A.in1) (pins := pins) (σ := σ) (H0 := H1) (vx := xs) (vy := ys) (n := min xs.length ys.length) (xs := its.toArray) (ys := its2.toArray) (show X.A.in1.handled = none from I1.ok.hd hc) (PySem.W.ktu_apart s1.heap.objs.size a b la lb) off (by simpa using rv) (by simpa using rv2) rfl (Nat.le_trans (Nat.min_le_left _ _) z1)
          (fun H4 s4 ts acc c4 I4 fp4 hS4 rv4 hl4 sm4 pr4 => ?_) (min xs.length ys.length) 0 _ H1 [] #[] c rfl
          ⟨kk _ _ hTI, h1.at fun o e => kk _ o e, h2.at fun o e => kk _ o e, p1.isList.at fun o e => kk _ o (hk _ o e), p2.isList.at fun o e => kk _ o (hk _ o e), .inl ⟨kk _ _ hz, _, _, kk _ _ hTO⟩⟩ I3 (fun d hd => fr d ?_) hSc .nil rfl (Same.refl H1) ⟨fun j t e => by simp at e⟩
        · refine ⟨rfl, .ref s2.heap.objs.size, upd H4 s2.heap.objs.size (.lst (ts.map V.ref)), ?_, rfl, q ts _ s2.heap.objs.size (sm4.trans (same_new ?_)) ⟨fun j t e => ?_⟩ hl4 (I1.hok.fresh (by rw [SN2]; exact Nat.le_add_right _ _)) upd_same⟩
          · have fS := fp4 s2.heap.objs.size (by simp)
            have hSn : H4 s2.heap.objs.size = none := fS.1
            refine I4.call' (ch := [s2.heap.objs.size]) rfl ⟨fun b o q _ _ _ => q, fun b o q _ _ _ => ⟨o.slots, q⟩, fun b o q n hb => ?_, fun b o q _ => ⟨o, q⟩, fun b xs q => ?_, fun b o y q => ?_, fun b qs q => ⟨#[], ?_⟩⟩ (fun b u q => ?_) I4.bare (fun b hb => ?_)
            · rw [upd_ne fun q => hb (by rw [q]; exact List.mem_singleton.mpr rfl)]; exact n
            · rw [upd_ne (ne_of_none q hSn)]; exact q
            · rw [upd_ne (ne_of_none q hSn)]; exact q
            · rw [upd_ne (ne_of_none q hSn), q]; simp
            · by_cases hb : b = s2.heap.objs.size
              · subst hb
                rw [upd_same] at q
                cases q
                exact ⟨by rw [List.length_map, hl4]; exact Nat.le_trans (Nat.min_le_left _ _) z1, acc.toList, c4, rv4, by rw [hS4]⟩
              · rw [upd_ne hb] at q
                exact (I4.hok b u q).stay (fun _ _ _ z => z) (fun d z => by rw [upd_ne (ne_of_none z hSn)]; exact z) fun d xs z => by rw [upd_ne (ne_of_none z hSn)]; exact z
            · rw [List.mem_singleton.mp hb]
              exact ⟨fS.2.2.2.1, fS.2.1, fS.2.2.2.2.1, fS.2.2.2.2.2⟩
          · exact (fp4 s2.heap.objs.size (by simp)).1
          · obtain ⟨q1, x, y, q2, q3, q4⟩ := pr4.at_ j t e
            exact ⟨q1, x, y, q2, q3, upd_old (fp4 s2.heap.objs.size (by simp)).1 q4⟩
        · have hd' : d = s1.heap.objs.size + 4 ∨ d = s1.heap.objs.size + 3 ∨ d = s1.heap.objs.size ∨ d = s1.heap.objs.size + 1 ∨ d = s2.heap.objs.size := by simpa using hd
          rcases hd' with q | q | q | q | q
          · rw [q]; exact Nat.le_add_right _ _
          · rw [q]; exact Nat.le_add_right _ _
          · rw [q]; exact Nat.le_refl _
          · rw [q]; exact Nat.le_add_right _ _
          · rw [q, SN2]; exact Nat.le_add_right _ _
      simp only [Bool.true_or, if_true]
      refine wpAny_bind (wpAny_rule ?_)
      refine wpAny_bind ?_
      show wpAny _ _ (updateSeq s2.heap.objs.size (·.push .none) >>= fun _ => updateSeq s2.heap.objs.size (·.pop)) _ _ _
      refine wpAny_bind (wpAny_updateSeq hS2 rfl ?_)
      have hS3 := Heap.get?_update_self (Obj.mapSeq (·.push Value.none)) hS2 rfl
      refine wpAny_updateSeq (hz := by seq_fits) hS3 rfl ?_
      have hS4 := Heap.get?_update_self (Obj.mapSeq (·.pop)) hS3 rfl
      have k4 := up _ (Obj.mapSeq (·.pop)) (up _ (Obj.mapSeq (·.push Value.none)) k2)
      exact wpAny_pure ⟨plainId_quiet F.plain_extend_loop _, key _ _ k4 hS4⟩
end
theorem pe_listZipK (K : PySem.W.Frag) {X : Cx} {e e2 : Expr} {ta : TA} {p pos p2 pos2 : Pos} (hc : X.calm = true) (hg : Gl X "list") (hm : X.mg "list" = none) (hgz : Gl X "zip") (hmz : X.mg "zip" = none) (ha : PA X [e, e2] ta) (hK : X.K = K := by rfl)
    (hs : starEach [e, e2] X.env = (false, eval e X.env) :: starEach [e2] X.env := by rfl) (hpl : (backTo pos2 (starEach [e2] X.env)).any (·.1) = false := by rfl)
    (na : starEach [.Call (.Name "zip" p2) [e, e2] [] pos2] X.env = (false, eval (.Call (.Name "zip" p2) [e, e2] [] pos2) X.env) :: starEach [] X.env := by rfl) : PE X (.Call (.Name "list" p) [.Call (.Name "zip" p2) [e, e2] [] pos2] [] pos) (tListZip K ta) :=
  hK ▸ pe_listZip hc hg hm hgz hmz ha hs hpl na
section
variable {K : PySem.W.Frag} {σ : L2.St} {H : Hp} {Q : VK} {ta : TA}
theorem r_lzip (h : ta σ H fun vs H1 => ∃ (a b : Addr) (xs ys : List V), vs = [.ref a, .ref b] ∧ SqL K H1 a xs ∧ SqL K H1 b ys ∧
  ∀ (ts : List Addr) (H2 : Hp) (p : Addr), Same H1 H2 → Prs H1 H2 ts xs ys → ts.length = min xs.length ys.length → H1 p = none → H2 p = some (.lst (ts.map V.ref)) → Q (.ref p) H2) : tListZip K ta σ H Q := h
theorem r_listG {tg : TGen} (h : tg σ H fun out H2 => ∀ p, H2 p = none → Q (.ref p) (upd H2 p (.lst out))) : tListG tg σ H Q := h
theorem r_callGn {sp : SpG} {dvs : List V} {E : XK} {cont : List V → Hp → Prop} (h : ta σ H fun vs H1 => sp (vs ++ dvs) H1 cont E) : tCallG sp dvs E ta σ H cont := h
end
end Xk
local macro_rules | `(tactic| fail "one") => `(tactic| with_reducible first | refine Xk.r_lzip ?_ | refine Xk.r_listG ?_ | refine Xk.r_callGn ?_)

set_option Elab.async false
set_option linter.all false
set_option maxRecDepth 100000
namespace Xk
open PySem PySem.Spec PyProof.Rows L2
/-- a new object; the heap behind it is any that keeps all and has it -/
def New (Q : VK) (H : Hp) (o : HO) : Prop := ∀ p, H p = none → Q (.ref p) (upd H p o)
section
variable {K : PySem.W.Frag} {σ : L2.St} {H : Hp} {Q : VK} {o : HO} {tA : TA} {te : TE} {p b : Addr} {xs ys : List V} {ns ms : List Int}
theorem new_ (h : ∀ (p : Addr) (H' : Hp), H p = none → Same H H' → H' p = some o → Q (.ref p) H') : New Q H o := fun p np => h p _ np (same_new np) upd_same
theorem n_lst (h : tA σ H fun xs H1 => xs.length ≤ sizeLine ∧ New Q H1 (.lst xs)) : tLst tA σ H Q := h
theorem n_tup (h : tA σ H fun xs H1 => xs.length ≤ sizeLine ∧ New Q H1 (.tup xs)) : tTup tA σ H Q := h
theorem n_slL {lo hi : Option Int} (h : SqL K H p xs) (q : New Q H (.lst (cutV xs lo hi))) : rSlL K (.ref p) lo hi H Q := ⟨p, xs, rfl, h, q⟩
theorem n_slF {z : Int} {a : Nat} (h : SqL K H p (ns.map V.int)) (e : z = (a : Int)) (q : New Q H (.lst ((ns.drop a).map V.int))) : rSlL K (.ref p) (some z) none H Q :=
  n_slL h (by rw [cut_from e, ← List.map_drop]; exact q)
theorem n_slT {z : Int} {a : Nat} (h : SqL K H p (ns.map V.int)) (e : z = (a : Int)) (q : New Q H (.lst ((ns.take a).map V.int))) : rSlL K (.ref p) none (some z) H Q :=
  n_slL h (by rw [cut_to e, ← List.map_take]; exact q)
theorem n_slM {z y : Int} {a c : Nat} (h : SqL K H p (ns.map V.int)) (e : z = (a : Int)) (g : y = (c : Int)) (q : New Q H (.lst (((ns.drop a).take (c - a)).map V.int))) : rSlL K (.ref p) (some z) (some y) H Q :=
  n_slL h (by rw [cut_any e g, ← List.map_drop, ← List.map_take]; exact q)
theorem n_listOf (h : SqL K H p xs) (q : New Q H (.lst xs)) : rListOf K [.ref p] H Q := ⟨p, xs, rfl, .inl h, q⟩
theorem n_lrg {tr : L2.St → Hp → (Int → Int → Hp → Prop) → Prop} (h : tr σ H fun a b H1 => RgOk a b ∧ New Q H1 (.lst (rgV a b))) : tLstRg tr σ H Q := h
theorem n_revL (h : te σ H fun x H1 => ∃ a xs, x = .ref a ∧ SqL K H1 a xs ∧ New Q H1 (.lst xs.reverse)) : tRevL K te σ H Q := h
theorem n_cat (h : H p = some (.lst xs)) (g : H b = some (.lst ys)) (hz : xs.length + ys.length ≤ sizeLine) (q : New Q H (.lst (xs ++ ys))) : rCat (.ref p) (.ref b) H Q := ⟨p, b, xs, ys, rfl, rfl, h, g, hz, q⟩
theorem n_catI (h : H p = some (.lst (ns.map V.int))) (g : H b = some (.lst (ms.map V.int))) (hz : ns.length + ms.length ≤ 16777216) (q : New Q H (.lst ((ns ++ ms).map V.int))) : rCat (.ref p) (.ref b) H Q :=
  n_cat h g (by rw [List.length_map, List.length_map]; exact hz) (by rw [← List.map_append]; exact q)
theorem s_trans {H0 H1 H2 : Hp} (b : Same H1 H2) (a : Same H0 H1) : Same H0 H2 := a.trans b
theorem s_new {H0 H : Hp} {a : Addr} {o : HO} (np : H a = none) (s : Same H0 H) : Same H0 (upd H a o) := s.trans (same_new np)
theorem sq_new {K : PySem.W.Frag} {H : Hp} {a b : Addr} {o : HO} {xs : List V} (np : H a = none) (s : SqL K H b xs) : SqL K (upd H a o) b xs := (same_new np).seq s
theorem ne_n {H : Hp} {a b : Addr} {u : HO} (n : H b = none) (h : H a = some u) : a ≠ b := ne_of_none h n
theorem ne_n' {H : Hp} {a b : Addr} {u : HO} (n : H a = none) (h : H b = some u) : a ≠ b := (ne_of_none h n).symm
theorem c_chain {r r' : R2} {ta tb tc : TE} {σ : L2.St} {H : Hp} {Q : VK} (h : ta σ H fun x H1 => tb σ H1 fun y H2 => r x y H2 fun z H3 => ∃ k, z = .bl k ∧ (if k = true then tc σ H3 fun w' H4 => r' y w' H4 Q else Q (.bl false) H3)) : tChain r r' ta tb tc σ H Q := h
theorem n_rep {l : Addr} {n : Nat} {zs : List V} (h : H l = some (.lst zs)) (hn : n ≤ 1000000) (hz : zs.length * n ≤ 16777216) (q : New Q H (.lst (List.replicate n zs).flatten)) : rRep (.ref l) (.int (n : Int)) H Q :=
  ⟨l, n, zs, rfl, rfl, h, by omega, by omega, by rw [Int.toNat_natCast]; exact hz, fun p np => by rw [Int.toNat_natCast]; exact q p np⟩
theorem new_map {xs : List Int} {u : List V} (e : u = xs.map V.int) (h : New Q H (.lst (xs.map V.int))) : New Q H (.lst u) := e ▸ h
end
end Xk
/-- what stands in a heap, and what keeps: back along the one step that made each heap -/
local macro_rules | `(tactic| fail "kp") => `(tactic| with_reducible first
  | assumption | exact L2.upd_same | exact L2.Same.refl _
  | (apply Xk.same_to; assumption; fail "kp")
  | (apply L2.Same.seq; assumption; fail "kp")
  | (apply Xk.sx_to; assumption; fail "kpn"; fail "kp")
  | (apply Xk.upd_old; assumption; fail "kp")
  | (apply Xk.upd_to; fail "kpn"; fail "kp")
  | (apply Xk.s_trans; assumption; fail "kp")
  | (apply Xk.s_new; assumption; fail "kp")
  | (apply Xk.sq_new; assumption; fail "kp")
  | (apply Xk.sqT_same; assumption; fail "kp")
  | (apply Xk.sq; fail "kp")
  | (apply Xk.sqT; fail "kp"))
/-- another address -/
local macro_rules | `(tactic| fail "kpn") => `(tactic| with_reducible first | assumption | (apply Ne.symm; assumption) | (apply Xk.ne_n; assumption; fail "kp") | (apply Xk.ne_n'; assumption; fail "kp"))
local macro_rules | `(tactic| fail "ww1") => `(tactic| with_reducible first
  | refine Xk.c_chain ?_ | refine Xk.n_lst ?_ | refine Xk.n_tup ?_ | refine Xk.n_lrg ?_ | refine Xk.n_revL ?_)
local macro_rules | `(tactic| fail "ww2") => `(tactic| first
  | ((with_reducible refine' Xk.r_var ?hv ?_); (case hv => exact rfl))
  | ((with_reducible refine' Xk.r_aug ?hv ?_); (case hv => exact rfl))
  | ((with_reducible refine' Xk.r_ixL ?hv ?hw ?_); (case hv => fail "kp"); (case hw => fail "at"))
  | ((with_reducible refine' Xk.r_setL ?hv ?hw ?_); (case hv => fail "kp"); (case hw => fail "ix"))
  | ((with_reducible refine' Xk.r_gtup ?hv ?hw ?_); (case hv => exact Xk.sqT (by fail "kp")); (case hw => exact rfl))
  | ((with_reducible refine' ⟨Xk.ty_list (K := _) (xs := _) ?hv, ?_⟩); (case hv => fail "kp"))
  | ((with_reducible refine' Xk.r_append ?hv ?hw ?_); (case hv => fail "kp"); (case hw => fail "sd"))
  | ((with_reducible refine' Xk.r_I (C := fun _ j => 0 < j) ?hv ?_); (case hv => (first | omega | (show (0 : Int) < _; omega) | decide)))
  | ((with_reducible refine' Xk.r_len ?hv ?_); (case hv => fail "kp"))
  | ((with_reducible refine' Xk.n_listOf ?hv ?_); (case hv => fail "kp"))
  | ((with_reducible refine' Xk.r_I (C := Xk.CPowW) ?hv ?_); (case hv => exact ⟨by decide, by decide⟩))
  | (with_reducible refine ⟨Xk.szL (by with_unfolding_all rfl), ?_⟩)
  | ((with_reducible refine' ⟨_, _, rfl, ?hv, ?_⟩); (case hv => ((with_reducible show L2.SqL _ _ _ _); fail "kp")))
  | (with_reducible refine ⟨_, _, _, _, rfl, Xk.sq (by fail "kp"), Xk.sq (by fail "kp"), ?_⟩)
  | ((with_reducible refine' ⟨⟨_, ?hv⟩, ?_⟩); (case hv => ((with_reducible show L2.SqL _ _ _ _); fail "kp")))
  | (with_reducible refine Or.inl ⟨_, rfl, ?_⟩) | (with_reducible refine Or.inr ⟨_, rfl, ?_⟩)
  | (with_reducible refine ⟨_, _, rfl, rfl, ?_⟩) | (with_reducible refine ⟨_, rfl, ?_⟩) | (with_reducible refine ⟨_, _, rfl, ?_⟩))
local macro_rules | `(tactic| fail "ww") => `(tactic| repeat (first | fail "ww1" | fail "one" | fail "ww2"))

set_option Elab.async false
set_option linter.all false
set_option maxRecDepth 100000
namespace Xk
open PySem PySem.Spec PyProof.Rows L2 GenW
/-! ### enumerate(xs, start=c) -/
/-- the list at a, each item with its number from c on in a new pair -/
def Iteo (K : PySem.W.Frag) (a : Addr) (c : Int) : It where
  go i H := ∃ (xs : List V) (x : V), SqL K H a xs ∧ xs[i]? = some x
  yld i H v H' := ∃ T x, v = .ref T ∧ H T = none ∧ H' = upd H T (.tup [.int (c + (i : Nat)), x]) ∧ ∀ xs, SqL K H a xs → xs[i]? = some x
  stop i H := ∃ xs : List V, SqL K H a xs ∧ xs.length = i
theorem turn_enumS {P : Program} {w : World} {K : PySem.W.Frag} {elts : List Expr} {kk : Nat} {tpos : Pos} (a e it : Addr) (c : Int) :
    Turn P w K (.Tuple elts kk tpos) (Iteo K a c) [e, it] e (fun i h => (∃ was, IsEnum h e it (c + ((i : Nat) : Int)) was) ∧ h.IsListIter it a i ∧ e ≠ it) where
  mem := List.mem_cons_self
  obj := by
    rintro i h ⟨⟨was, he⟩, ⟨o, ho, _, hd⟩, _⟩ b hb
    rcases List.mem_cons.mp hb with z | z
    · subst z; exact ⟨_, he, fun v q => nomatch q⟩
    · rw [List.mem_singleton.mp z]; exact ⟨o, ho, fun v q => by rw [hd] at q; cases q⟩
  keep := by
    rintro i h h' ⟨⟨was, he⟩, hi, hne⟩ k
    exact ⟨⟨was, k e (by simp) _ he⟩, hi.at fun o q => k it (by simp) o q, hne⟩
  item := by
    intro X hP hw hK hc i pins s σ H E I hf st hg
    subst hP hw hK
    obtain ⟨⟨was, he⟩, hit, hne⟩ := st
    obtain ⟨xs, x, hq, hx⟩ := hg
    obtain ⟨its, rv, p, _⟩ := I.list hq
    obtain ⟨u, hu, ru⟩ := rv.get hx
    have pl := p.isList
    have hel : e < s.heap.objs.size := Heap.lt_size he
    have hil : it < s.heap.objs.size := by obtain ⟨_, q, _⟩ := hit; exact Heap.lt_size q
    have hai : a ≠ it := by
      intro z; subst z
      obtain ⟨o1, e1, c1, _⟩ := hit
      obtain ⟨o2, e2, c2, _⟩ := pl
      rw [e1] at e2; cases e2
      rw [c1] at c2
      exact absurd (Value.type.inj c2) (by decide)
    have hea : e ≠ a := by
      intro z; subst z
      obtain ⟨o2, e2, c2, _⟩ := pl
      rw [he] at e2; cases e2
      exact absurd (Value.type.inj c2) (by decide)
    have hul : its.toArray[i]? = some u := by simpa using hu
    have hsz : i < its.toArray.size := (Array.getElem?_eq_some_iff.mp hul).1
    refine wpAny_pyNext_enum_itemC (Draws.list (prog := X.prog) (w := X.w) (A := X.A.in1) (I.ok.hd hc) it a hai its.toArray) he ⟨hit, pl⟩ hsz hne (by simp [hne, hea]) fun y h' tk hy ho st' hT hz hk => ?_
    have ey : y = u := by
      have hy' : its.toArray[i]? = some y := hy
      rw [hul] at hy'; exact (Option.some.inj hy').symm
    subst ey
    refine ⟨_, rfl, wpAny_letOwnedTupleGo_enum (s := { s with heap := h', toks := tk + 1 }) ho fun h'' he' sb => ?_⟩
    have hT2 := (sb.2 _ (Nat.ne_of_gt hel)).trans hT
    have new : ObjOk X.prog X.w (upd H s.heap.objs.size (.tup [.int (c + (i : Nat)), x])) h'' s.heap.objs.size (.tup [.int (c + (i : Nat)), x]) :=
      ⟨szL rfl, [.int (c + (i : Nat)) tk, y], .cons ⟨_, rfl⟩ (.cons ru .nil), ⟨_, hT2, rfl, _, rfl⟩⟩
    have I1 : Inv X pins σ (upd H s.heap.objs.size (.tup [.int (c + (i : Nat)), x])) { s with heap := h'', toks := tk + 1 } := by
      refine I.turnedNew (ch := [e, it]) (fun b ob hb q => ?_) hf (Nat.le_refl _) new
      have b1 : b ≠ e := fun z => hb (by simp [z])
      have b2 : b ≠ it := fun z => hb (by simp [z])
      exact (sb.2 b b1).trans (hk b ob b1 b2 q)
    refine ⟨.ref s.heap.objs.size, _, I1, rfl, ⟨_, x, rfl, I.hok.fresh (Nat.le_refl _), rfl, fun ys hy => by rw [I.list_inj hy hq]; exact hx⟩, ⟨⟨y, ?_⟩, st'.1.at fun o q => (sb.2 it (Ne.symm hne)).trans q, hne⟩, fun b hb => ?_⟩
    · rw [show c + ((i + 1 : Nat) : Int) = c + (i : Int) + 1 by omega]; exact he'
    · have hb' : b < s.heap.objs.size := by
        rcases List.mem_cons.mp hb with z | z
        · rw [z]; exact hel
        · rw [List.mem_singleton.mp z]; exact hil
      rw [upd_ne (Nat.ne_of_lt hb')]
      exact (hf b hb).1
  done := by
    intro X hP hw hK hc i pins s σ H E I hf st hg
    subst hP hw hK
    obtain ⟨⟨was, he⟩, hit, hne⟩ := st
    obtain ⟨xs, hq, hx⟩ := hg
    obtain ⟨its, rv, p, _⟩ := I.list hq
    obtain ⟨f0, f1, f2, f3, f4, f5⟩ := hf it (by simp)
    have hl : its.toArray.size = i := by have := rv.length; simp; omega
    have pl := p.isList
    have hai : a ≠ it := by
      intro z; subst z
      obtain ⟨o1, e1, c1, _⟩ := hit
      obtain ⟨o2, e2, c2, _⟩ := pl
      rw [e1] at e2; cases e2
      rw [c1] at c2
      exact absurd (Value.type.inj c2) (by decide)
    refine wpAny_pyNext_enum_endD (Draws.list (prog := X.prog) (w := X.w) (A := X.A.in1) (I.ok.hd hc) it a hai its.toArray) he ⟨by rw [hl]; exact hit, pl⟩ fun h' eb => ⟨rfl, I.turned (t' := s.toks) (fun b o hb q => eb b o hb q) f0 f1 f3 f4 f5⟩
  self := fun A i s Q E st h => let ⟨⟨_, he⟩, _⟩ := st; wpAny_pyIter_enum he h
/-- what a walk over enumerate(xs, start=c) asks -/
def iEnumS (K : PySem.W.Frag) (ta tk : TA) : TI := fun σ H R => ta σ H fun vs H1 => tk σ H1 fun zs H2 => ∃ (a : Addr) (xs : List V) (c : Int), vs = [.ref a] ∧ zs = [.int c] ∧ SqL K H2 a xs ∧ -1000000 ≤ c ∧ c ≤ 1000000 ∧ R (Iteo K a c) H2
theorem pi_enumS {X : Cx} {e : Expr} {kws : List Keyword} {ta tk : TA} {p pos tpos : Pos} {elts : List Expr} {kk : Nat} (hg : Gl X "enumerate") (hm : X.mg "enumerate" = none) (ha : PA X [e] ta) (hk : PK X kws tk)
    (hall : (backToKw pos (keywordEach kws X.env)).all (·.1.isSome) = true := by rfl) (hks : (backToKw pos (keywordEach kws X.env)).filterMap (·.1) = [Str.ofString "start"] := by rfl)
    (hpl : ((backTo pos (starEach [e] X.env)).any (·.1) || (backToKw pos (keywordEach kws X.env)).any (·.1.isNone)) = false := by rfl) (hs : backTo pos (starEach [e] X.env) = [(false, eval e X.env)] := by rfl) :
    PI X (.Tuple elts kk tpos) (.Call (.Name "enumerate" p) [e] kws pos) (iEnumS X.K ta tk) := by
  refine ⟨fun pins s σ H R I h => ?_⟩
  refine wpAny_Call_Name_kw (ld_blt I hg hm boot_enumerate ?_)
  have ha' := fun Q hQ => ha.run pos pins s σ H Q I hQ
  rw [hs] at ha' hpl ⊢
  refine PySem.W.callWith_of (P := fun _ => True) hpl (fun h _ => ⟨.machine, .inr (.inl rfl), .of_pure rfl⟩) (evalArgs_kwB hall (thn (ha' _ h) fun us s1 ⟨vs, H1, I1, r1, q1⟩ => thn (hk.run pos pins s1 σ H1 _ I1 q1) fun ws s2 ⟨zs, H2, I2, r2, q2⟩ => ⟨trivial, ?_⟩))
  rw [hks]
  obtain ⟨a, xs, c, ex, ez, hq, c0, c1, q⟩ := q2
  subst ex ez
  cases r1 with
  | cons r rr =>
    cases rr
    cases r
    cases r2 with
    | cons r' rr' =>
      cases rr'
      obtain ⟨t, rfl⟩ := r'
      obtain ⟨its, rv, p', hz⟩ := I2.list hq
      refine enum_begins_start (begins_list a its.toArray) p'.isList (by omega) (by omega) fun h' he ho hsz hkp => wpAny_pyIter_enum he ?_
      have I3 : Inv X pins σ H2 { s2 with heap := h' } := I2.kept (t' := s2.toks) hkp
      refine ⟨s2.heap.objs.size + 1, [s2.heap.objs.size + 1, s2.heap.objs.size], _, _, H2, rfl, I3, turn_enumS a _ _ c, ⟨⟨.none, by simpa using he⟩, ⟨_, ho, rfl, rfl⟩, Nat.succ_ne_self _⟩, fun b hb => ?_, q⟩
      have hle : s2.heap.objs.size ≤ b := by
        rcases List.mem_cons.mp hb with z | z
        · rw [z]; exact Nat.le_add_right _ _
        · rw [List.mem_singleton.mp z]; exact Nat.le_refl _
      exact I2.fpOk hle (I2.hok.fresh hle)
theorem pi_enumSK {X : Cx} (K : PySem.W.Frag) {e : Expr} {kws : List Keyword} {ta tk : TA} {p pos tpos : Pos} {elts : List Expr} {kk : Nat} (hg : Gl X "enumerate") (hm : X.mg "enumerate" = none) (ha : PA X [e] ta) (hk : PK X kws tk) (hK : X.K = K := by rfl)
    (hall : (backToKw pos (keywordEach kws X.env)).all (·.1.isSome) = true := by rfl) (hks : (backToKw pos (keywordEach kws X.env)).filterMap (·.1) = [Str.ofString "start"] := by rfl)
    (hpl : ((backTo pos (starEach [e] X.env)).any (·.1) || (backToKw pos (keywordEach kws X.env)).any (·.1.isNone)) = false := by rfl) (hs : backTo pos (starEach [e] X.env) = [(false, eval e X.env)] := by rfl) :
    PI X (.Tuple elts kk tpos) (.Call (.Name "enumerate" p) [e] kws pos) (iEnumS K ta tk) := hK ▸ pi_enumS hg hm ha hk hall hks hpl hs
section
variable {K : PySem.W.Frag} {σ : L2.St} {H : Hp} {ta tk : TA} {R : L2.It → Hp → Prop} {a : Addr} {xs : List V} {c : Int}
theorem r_iEnumS (h : ta σ H fun vs H1 => tk σ H1 fun zs H2 => ∃ (a : Addr) (xs : List V) (c : Int), vs = [.ref a] ∧ zs = [.int c] ∧ SqL K H2 a xs ∧ -1000000 ≤ c ∧ c ≤ 1000000 ∧ R (Iteo K a c) H2) : iEnumS K ta tk σ H R := h
theorem walk_enumS : Walk (Iteo K a c) xs.length (fun H => SqL K H a xs) (YPair (fun i => some (.int (c + (i : Nat)))) (fun i => xs[i]?)) :=
  ⟨fun i _ hi q => ⟨xs, xs[i], q, by simp [hi]⟩, fun _ q => ⟨xs, q, rfl⟩, fun i H v H' _ q ⟨T, x, e1, e2, e3, e4⟩ => ⟨T, _, x, e1, e2, e3, rfl, e4 xs q⟩⟩
end
end Xk
local macro_rules | `(tactic| fail "ww1") => `(tactic| with_reducible refine Xk.r_iEnumS ?_)

set_option Elab.async false
set_option linter.all false
set_option maxRecDepth 100000
namespace Xk
open PySem PySem.Spec PyProof.Rows L2
/-! ### a op1 b op2 c op3 d -/
section
variable {X : Cx} {a b c d : Expr} {ta tb tc td : TE} {pos : Pos}
def tChain3 (r r' r'' : R2) (ta tb tc td : TE) : TE := fun σ H Q => ta σ H fun x H1 => tb σ H1 fun y H2 => r x y H2 fun z H3 => ∃ k, z = .bl k ∧
  (if k = true then tc σ H3 fun w H4 => r' y w H4 fun z2 H5 => ∃ k2, z2 = .bl k2 ∧ (if k2 = true then td σ H5 fun u H6 => r'' w u H6 Q else Q (.bl false) H5) else Q (.bl false) H3)
theorem pt_chain3 {op op' op2 : CmpOp} {r r' r'' : R2} (ho : OpR X (compareOp op) r) (ho' : OpR X (compareOp op') r') (ho2 : OpR X (compareOp op2) r'') (ha : PE X a ta) (hb : PE X b tb) (hc : PE X c tc) (hd : PE X d td)
    (hm : lastMarks [op, op', op2] [b, c, d] = false := by with_unfolding_all rfl) : PT X (.Compare a [op, op', op2] [b, c, d] pos) (tTest (tChain3 r r' r'' ta tb tc td)) := by
  refine ⟨fun pins s σ H Q I h => ?_⟩
  refine isTrue_chain (thn (ha.run pins s σ H _ I h) fun v s1 ⟨x, H1, I1, r1, q1⟩ => test_link (thn (hb.run pins s1 σ H1 _ I1 q1) fun u s2 ⟨y, H2, I2, r2, q2⟩ =>
    thn (ho pins s2 σ H2 x y v u _ I2 r1 r2 q2) fun d s3 ⟨z, H3, I3, r3, k, e, q3⟩ => ?_)) hm
  subst e
  cases r3
  refine wpAny_truthy_bool ?_
  cases k with
  | false =>
    obtain ⟨k', e', q'⟩ := q3
    cases e'
    exact ite_ff ⟨H3, I3, q'⟩
  | true =>
    refine ite_tt (test_link (thn (hc.run pins s3 σ H3 _ I3 q3) fun w' s4 ⟨z', H4, I4, r4, q4⟩ => thn (ho' pins s4 σ H4 y z' u w' _ I4 r2 r4 q4) fun d' s5 ⟨z2, H5, I5, r5, k2, e2, q5⟩ => ?_))
    subst e2
    cases r5
    refine wpAny_truthy_bool ?_
    cases k2 with
    | false =>
      obtain ⟨k', e', q'⟩ := q5
      cases e'
      exact ite_ff ⟨H5, I5, q'⟩
    | true =>
      refine ite_tt (test_last (thn (hd.run pins s5 σ H5 _ I5 q5) fun w2 s6 ⟨z6, H6, I6, r6, q6⟩ => thn (ho2 pins s6 σ H6 z' z6 w' w2 _ I6 r4 r6 q6) fun d' s7 ⟨z3, H7, I7, r7, k3, e3, q7⟩ => ?_))
      subst e3
      cases r7
      exact wpAny_truthy_bool ⟨H7, I7, q7⟩
theorem pe_chain3 {op op' op2 : CmpOp} {r r' r'' : R2} (ho : OpR X (compareOp op) r) (ho' : OpR X (compareOp op') r') (ho2 : OpR X (compareOp op2) r'') (ha : PE X a ta) (hb : PE X b tb) (hc : PE X c tc) (hd : PE X d td)
    (hm : lastMarks [op, op', op2] [b, c, d] = false := by with_unfolding_all rfl) : PE X (.Compare a [op, op', op2] [b, c, d] pos) (tChain3 r r' r'' ta tb tc td) := by
  refine ⟨fun pins s σ H Q I h => ?_⟩
  refine Compare_chain (thn (ha.run pins s σ H _ I h) fun v s1 ⟨x, H1, I1, r1, q1⟩ => chain_link (thn (hb.run pins s1 σ H1 _ I1 q1) fun u s2 ⟨y, H2, I2, r2, q2⟩ =>
    thn (ho pins s2 σ H2 x y v u _ I2 r1 r2 q2) fun d s3 ⟨z, H3, I3, r3, k, e, q3⟩ => ?_)) hm
  subst e
  cases r3
  refine wpAny_truthy_bool ?_
  cases k with
  | false => exact ite_ff ⟨.bl false, H3, I3, rfl, q3⟩
  | true =>
    refine ite_tt (chain_link (thn (hc.run pins s3 σ H3 _ I3 q3) fun w' s4 ⟨z', H4, I4, r4, q4⟩ => thn (ho' pins s4 σ H4 y z' u w' _ I4 r2 r4 q4) fun d' s5 ⟨z2, H5, I5, r5, k2, e2, q5⟩ => ?_))
    subst e2
    cases r5
    refine wpAny_truthy_bool ?_
    cases k2 with
    | false => exact ite_ff ⟨.bl false, H5, I5, rfl, q5⟩
    | true => exact ite_tt (chain_last (thn (hd.run pins s5 σ H5 _ I5 q5) fun w2 s6 ⟨z6, H6, I6, r6, q6⟩ => ho2 pins s6 σ H6 z' z6 w' w2 Q I6 r4 r6 q6))
theorem c_chain3 {r r' r'' : R2} {σ : L2.St} {H : Hp} {Q : VK} (h : ta σ H fun x H1 => tb σ H1 fun y H2 => r x y H2 fun z H3 => ∃ k, z = .bl k ∧
  (if k = true then tc σ H3 fun w H4 => r' y w H4 fun z2 H5 => ∃ k2, z2 = .bl k2 ∧ (if k2 = true then td σ H5 fun u H6 => r'' w u H6 Q else Q (.bl false) H5) else Q (.bl false) H3)) : tChain3 r r' r'' ta tb tc td σ H Q := h
end
end Xk
local macro_rules | `(tactic| fail "ww1") => `(tactic| with_reducible refine Xk.c_chain3 ?_)

set_option Elab.async false
set_option linter.all false
set_option maxRecDepth 100000
namespace Xk
open PySem PySem.Spec PyProof.Rows L2
/-! ### xs[l:u:o], any three parts -/
/-- the places that a slice picks -/
def pickIx (n : Nat) (l u o : Option Int) : List Nat := sliceRange (sliceBounds l u o n).1 (sliceBounds l u o n).2.1 (sliceBounds l u o n).2.2
def pickV {α : Type} (xs : List α) (l u o : Option Int) : List α := (pickIx xs.length l u o).filterMap fun i => xs[i]?
theorem pick_map {α β : Type} (f : α → β) (xs : List α) (l u o : Option Int) : pickV (xs.map f) l u o = (pickV xs l u o).map f := by
  unfold pickV
  rw [List.length_map, List.map_filterMap]
  congr 1
  funext i
  rw [List.getElem?_map]
theorem vals_opt : ∀ {xs : List V} {its : List Value}, Vals xs its → ∀ i : Nat, (xs[i]? = none ∧ its[i]? = none) ∨ ∃ x u, xs[i]? = some x ∧ its[i]? = some u ∧ RelV x u
  | _, _, .nil, _ => .inl ⟨rfl, rfl⟩
  | _, _, .cons r _, 0 => .inr ⟨_, _, rfl, rfl, r⟩
  | _, _, .cons _ t, i + 1 => vals_opt t i
theorem vals_pick {xs : List V} {its : List Value} (r : Vals xs its) : ∀ ix : List Nat, Vals (ix.filterMap fun i => xs[i]?) (ix.filterMap fun i => its[i]?)
  | [] => .nil
  | i :: t => by
    have ih := vals_pick r t
    rcases vals_opt r i with ⟨e1, e2⟩ | ⟨x, u, e1, e2, e3⟩
    · rw [List.filterMap_cons_none e1, List.filterMap_cons_none e2]
      exact ih
    · rw [List.filterMap_cons_some e1, List.filterMap_cons_some e2]
      exact .cons e3 ih
def tSl3 (K : PySem.W.Frag) (te : TE) (tl tu ts : TO) : TE := fun σ H Q => te σ H fun x H1 => tl σ H1 fun l H2 => tu σ H2 fun u H3 => ts σ H3 fun o H4 =>
  ∃ (a : Addr) (xs : List V), x = .ref a ∧ SqL K H4 a xs ∧ o ≠ some 0 ∧ (pickV xs l u o).length ≤ 16777216 ∧ New Q H4 (.lst (pickV xs l u o))
section
variable {X : Cx} (K : PySem.W.Frag) {e : Expr} {te : TE} {lo hi st : Option Expr} {tl tu ts : TO} {p3 pos : Pos}
theorem pe_sl3K (he : PE X e te) (hl : PO X lo tl) (hu : PO X hi tu) (hs : PO X st ts) (hsub : ∀ x y : Value, subscripted (.Slice lo hi st p3) false x y = operate [x, y] (getItem x y) := by intro _ _; with_unfolding_all rfl) (hK : X.K = K := by rfl) : PE X (.Subscript e (.Slice lo hi st p3) pos) (tSl3 K te tl tu ts) := by
  subst hK
  refine ⟨fun pins s σ H Q I z => Subscript_ (thn (he.run pins s σ H _ I z) fun v s1 ⟨x, H1, I1, r1, q1⟩ => wpAny_Slice (thn (hl.run pins s1 σ H1 _ I1 q1) fun vl s2 ⟨l, H2, I2, pl, q2⟩ =>
    thn (hu.run pins s2 σ H2 _ I2 q2) fun vu s3 ⟨u, H3, I3, pu, q3⟩ => thn (hs.run pins s3 σ H3 _ I3 q3) fun vs s4 ⟨o, H4, I4, ps, q4⟩ => ?_))⟩
  obtain ⟨a, xs, ex, hx, h0, hz', q⟩ := q4
  subst ex
  cases r1
  have J := I4.kept (t' := s4.toks) (h' := s4.heap.push { cls := .type "slice", data := .fields #[vl, vu, vs] }) fun b ob y => Heap.get?_push_of_some _ y
  obtain ⟨its, r, pl5, hz⟩ := J.list hx
  have hlen := r.length
  show wpAny (model X.prog X.w) X.A (subscriptTail e (.Slice lo hi st p3) (.ref a) (.ref s4.heap.objs.size)) (EP X pins σ Q) X.xe
    { s4 with heap := s4.heap.push { cls := .type "slice", data := .fields #[vl, vu, vs] } }
  refine tail_any (ops := [.ref a, .ref s4.heap.objs.size]) pl5.isList.typeIs PySem.slot_list_getitem.lookup ?_ (hsub _ _)
  refine wpAny_getItem_list_slice pl5.isList (Heap.IsSliceOf.new _ vl vu vs) pl pu ps h0 ?_ (by rw [List.size_toArray]; omega)
  have rp : Vals (pickV xs l u o) (slicePick its.toArray l u o).toList := by
    have e1 := vals_pick r (pickIx xs.length l u o)
    unfold slicePick
    unfold pickV
    rw [hlen] at e1 ⊢
    simpa [pickIx] using e1
  refine ⟨.ref _, _, J.laid (t' := s4.toks) (o := .lst (pickV xs l u o)) (fun b ob y => Heap.get?_push_of_some _ y) (Nat.le_refl _) ?_, rfl, q _ (J.hok.fresh (Nat.le_refl _))⟩
  exact ⟨hz', _, 0, rp, Heap.get?_push_size _ rfl⟩
end
theorem n_sl3 {K : PySem.W.Frag} {σ : L2.St} {H : Hp} {Q : VK} {te : TE} {tl tu ts : TO} (h : te σ H fun x H1 => tl σ H1 fun l H2 => tu σ H2 fun u H3 => ts σ H3 fun o H4 =>
  ∃ (a : Addr) (xs : List V), x = .ref a ∧ SqL K H4 a xs ∧ o ≠ some 0 ∧ (pickV xs l u o).length ≤ 16777216 ∧ New Q H4 (.lst (pickV xs l u o))) : tSl3 K te tl tu ts σ H Q := h
theorem r_star {K : PySem.W.Frag} {σ : L2.St} {H : Hp} {te : TE} {t : TA} {R : List V → Hp → Prop} (h : te σ H fun x H1 => ∃ (p : Addr) (xs : List V), x = .ref p ∧ (SqT K H1 p xs ∨ SqL K H1 p xs) ∧ t σ H1 fun ys H2 => R (xs ++ ys) H2) : StX.tStar K te t σ H R := h
/-! ### repr of a number -/
def rReprI : List V → Hp → VK → Prop := fun xs H Q => ∃ i, xs = [.int i] ∧ i.natAbs.log2 < 1920 ∧ Q (.str (toString i)) H
theorem reprI {X : Cx} : CallR X (.builtin "repr") rReprI := SkE.call_repr_int
theorem log_small {i : Int} {k : Nat} (h : i.natAbs < 2 ^ k) (hk : k ≤ 1900) : i.natAbs.log2 < 1920 := by
  by_cases z : i.natAbs = 0
  · rw [z]; decide
  · exact (Nat.log2_lt z).mpr (Nat.lt_of_lt_of_le h (Nat.pow_le_pow_right (by decide) (by omega)))
theorem r_reprI {H : Hp} {Q : VK} {i : Int} {k : Nat} (h : i.natAbs < 2 ^ k) (hk : k ≤ 1900) (q : Q (.str (toString i)) H) : rReprI [.int i] H Q := ⟨i, rfl, log_small h hk, q⟩
/-! ### math.comb -/
theorem comb_run (a : Int) (t : Tok) (b : Int) (u : Tok) (h0 : ¬ a < 0) (h1 : ¬ b < 0) (h2 : ¬ b > a) (h3 : a < 9000) (hz : ((Builtin.Math.fallingProduct a (min b (a - b)).toNat / Builtin.Math.fallingProduct (min b (a - b)) (min b (a - b)).toNat)).natAbs.log2 < bitsLine) :
    PySem.Gives (Builtin.«math.comb» ⟨[.int a t, .int b u], []⟩) (.int (Builtin.Math.fallingProduct a (min b (a - b)).toNat / Builtin.Math.fallingProduct (min b (a - b)) (min b (a - b)).toNat)) :=
  .of_wp fun M A E s Q h => by
    have g1 : ¬ min b (a - b) > Builtin.Math.maxSsize := by unfold Builtin.Math.maxSsize; omega
    have g2 : ¬ min b (a - b) > Builtin.Math.manyFactors := by unfold Builtin.Math.manyFactors; omega
    have g3 : ¬ min b (a - b) > 9000 := by omega
    obtain ⟨hp, g, d, tk, os⟩ := s
    wp_walk
    exact ⟨_, rfl, h⟩
/-- the number of choices -/
def cmb : Nat → Nat → Nat
  | _, 0 => 1
  | 0, _ + 1 => 0
  | n + 1, k + 1 => cmb n k + cmb n (k + 1)
def fac : Nat → Nat
  | 0 => 1
  | n + 1 => (n + 1) * fac n
theorem fac_pos : ∀ n, 0 < fac n
  | 0 => Nat.one_pos
  | n + 1 => Nat.mul_pos (Nat.succ_pos n) (fac_pos n)
theorem cmb_zero (n : Nat) : cmb n 0 = 1 := by cases n <;> rfl
theorem cmb_big : ∀ {n k : Nat}, n < k → cmb n k = 0
  | 0, k + 1, _ => rfl
  | n + 1, k + 1, h => by
    show cmb n k + cmb n (k + 1) = 0
    rw [cmb_big (show n < k by omega), cmb_big (show n < k + 1 by omega)]
theorem cmb_self : ∀ n, cmb n n = 1
  | 0 => rfl
  | n + 1 => by
    show cmb n n + cmb n (n + 1) = 1
    rw [cmb_self n, cmb_big (Nat.lt_succ_self n)]
theorem cmb_fac : ∀ (n k : Nat), cmb (n + k) k * (fac k * fac n) = fac (n + k)
  | 0, k => by rw [Nat.zero_add, cmb_self]; simp [fac]
  | n + 1, 0 => by rw [cmb_zero]; simp [fac]
  | n + 1, k + 1 => by
    have h1 := cmb_fac (n + 1) k
    have h2 := cmb_fac n (k + 1)
    show (cmb (n + 1 + k) k + cmb (n + 1 + k) (k + 1)) * (((k + 1) * fac k) * ((n + 1) * fac n)) = (n + 1 + k + 1) * fac (n + 1 + k)
    rw [show n + (k + 1) = n + 1 + k by omega] at h2
    have e1 : cmb (n + 1 + k) k * (((k + 1) * fac k) * ((n + 1) * fac n)) = (k + 1) * fac (n + 1 + k) := by
      rw [← h1]; show _ = (k + 1) * (cmb (n + 1 + k) k * (fac k * ((n + 1) * fac n))); ac_rfl
    have e2 : cmb (n + 1 + k) (k + 1) * (((k + 1) * fac k) * ((n + 1) * fac n)) = (n + 1) * fac (n + 1 + k) := by
      rw [← h2]; show _ = (n + 1) * (cmb (n + 1 + k) (k + 1) * ((k + 1) * fac k * fac n)); ac_rfl
    rw [Nat.add_mul, e1, e2, ← Nat.add_mul]
    congr 1; omega
theorem cmb_sym {n k : Nat} (h : k ≤ n) : cmb n (n - k) = cmb n k := by
  have h1 := cmb_fac (n - k) k
  have h2 := cmb_fac k (n - k)
  rw [show n - k + k = n by omega] at h1
  rw [show k + (n - k) = n by omega, Nat.mul_comm (fac (n - k))] at h2
  exact Nat.eq_of_mul_eq_mul_right (Nat.mul_pos (fac_pos k) (fac_pos (n - k))) (h2.trans h1.symm)
theorem cmb_le : ∀ n k, cmb n k ≤ 2 ^ n
  | _, 0 => by rw [cmb_zero]; exact Nat.one_le_two_pow
  | 0, _ + 1 => Nat.zero_le _
  | n + 1, k + 1 => by
    have h1 := cmb_le n k
    have h2 := cmb_le n (k + 1)
    show cmb n k + cmb n (k + 1) ≤ 2 ^ (n + 1)
    rw [Nat.pow_succ]; omega
theorem fall_succ (n : Int) (k : Nat) : Builtin.Math.fallingProduct n (k + 1) = Builtin.Math.fallingProduct n k * (n - (k : Int)) := by
  unfold Builtin.Math.fallingProduct
  rw [List.range_succ, List.foldl_append]; rfl
theorem fall_fac : ∀ (k n : Nat), Builtin.Math.fallingProduct ((n + k : Nat) : Int) k * (fac n : Int) = (fac (n + k) : Int)
  | 0, n => by show (1 : Int) * _ = _; rw [Int.one_mul]; rfl
  | k + 1, n => by
    have ih := fall_fac k (n + 1)
    rw [fall_succ, show (((n + (k + 1) : Nat) : Int) - (k : Int)) = ((n + 1 : Nat) : Int) by omega, Int.mul_assoc, ← Int.natCast_mul]
    rw [show n + 1 + k = n + (k + 1) by omega] at ih
    exact ih
theorem fall_cmb (n k : Nat) (h : k ≤ n) : Builtin.Math.fallingProduct (n : Int) k / Builtin.Math.fallingProduct (k : Int) k = (cmb n k : Int) := by
  have h1 := fall_fac k (n - k)
  have h2 := fall_fac k 0
  have h3 := cmb_fac (n - k) k
  rw [show n - k + k = n by omega] at h1 h3
  rw [Nat.zero_add] at h2
  have e2 : Builtin.Math.fallingProduct (k : Int) k = (fac k : Int) := by rw [← h2]; show _ = _ * ((1 : Nat) : Int); rw [Int.natCast_one, Int.mul_one]
  have p1 := fac_pos k
  have p2 := fac_pos (n - k)
  have e1 : Builtin.Math.fallingProduct (n : Int) k = (cmb n k : Int) * (fac k : Int) := by
    refine Int.eq_of_mul_eq_mul_right (show ((fac (n - k) : Nat) : Int) ≠ 0 by omega) ?_
    rw [h1, ← h3, Int.mul_assoc, Int.natCast_mul, Int.natCast_mul]
  rw [e1, e2]
  exact Int.mul_ediv_cancel _ (by omega)
theorem comb_meets (n k : Nat) (hk : k ≤ n) (hn : n ≤ 1000) (t u : Tok) : Gives (Builtin.«math.comb» ⟨[.int (n : Int) t, .int (k : Int) u], []⟩) (.int (cmb n k : Int)) := by
  have e : min (k : Int) ((n : Int) - (k : Int)) = ((min k (n - k) : Nat) : Int) := by omega
  have hm : cmb n (min k (n - k)) = cmb n k := by
    by_cases q : k ≤ n - k
    · rw [Nat.min_eq_left q]
    · rw [Nat.min_eq_right (by omega), cmb_sym hk]
  have e2 := fall_cmb n (min k (n - k)) (by omega)
  have hb : (Builtin.Math.fallingProduct (n : Int) (min (k : Int) ((n : Int) - (k : Int))).toNat / Builtin.Math.fallingProduct (min (k : Int) ((n : Int) - (k : Int))) (min (k : Int) ((n : Int) - (k : Int))).toNat) = (cmb n k : Int) := by
    rw [e, Int.toNat_natCast, e2, hm]
  have := comb_run (n : Int) t (k : Int) u (by omega) (by omega) (by omega) (by omega) (by
    rw [hb]
    have hc := cmb_le n k
    show (cmb n k).log2 < bitsLine
    refine Nat.lt_of_lt_of_le (Nat.lt_of_le_of_lt (Nat.le_trans (show (cmb n k).log2 ≤ (2 ^ n).log2 from ?_) (Nat.le_of_eq (Nat.log2_two_pow))) (show n < 1001 by omega)) (by decide)
    by_cases z : cmb n k = 0
    · rw [z]; exact Nat.zero_le _
    · rw [Nat.log2_two_pow]
      have := (Nat.log2_lt z).mpr (show cmb n k < 2 ^ (n + 1) by rw [Nat.pow_succ]; have := Nat.one_le_two_pow (n := n); omega)
      omega)
  rw [hb] at this
  exact this
def rComb : List V → Hp → VK → Prop := fun vs H Q => ∃ n k : Nat, vs = [.int n, .int k] ∧ k ≤ n ∧ n ≤ 1000 ∧ Q (.int (cmb n k : Nat)) H
theorem entry_comb : entryFor table "math.comb" = some Builtin.«math.comb» := entryFor_of_tree (by kernel_rfl)
theorem cr_comb {X : Cx} : CallR X (.builtin "math.comb") rComb := by
  intro pins s σ H vs us Q I r h
  obtain ⟨n, k, rfl, hk, hn, q⟩ := h
  obtain ⟨t, u, rfl⟩ := Vals.int2 r
  exact call_function_meets (by kernel_rfl) (by decide +kernel) entry_comb (by unfold argsOk; kernel_rfl) (comb_meets n k hk hn t u).meets ⟨.int _, H, I.tok _, ⟨_, rfl⟩, q⟩
end Xk
local macro_rules | `(tactic| fail "ww1") => `(tactic| with_reducible first | refine Xk.n_sl3 ?_ | refine Xk.r_star ?_)

set_option Elab.async false
set_option linter.all false
set_option maxRecDepth 100000
namespace Xk
open PySem PySem.Spec PyProof.Rows L2
section
variable {X : Cx}
theorem ip_fdivW : PIp X .FloorDiv (rI CDivW fun i j => .int (i / j)) := iop_fdivW
theorem ip_mulW : PIp X .Mult (rI CMulW fun i j => .int (i * j)) := by
  intro pins s σ H x y v u Q I r1 r2 h
  obtain ⟨i, j, rfl, rfl, hc, q⟩ := h
  obtain ⟨t, rfl⟩ := r1
  obtain ⟨t', rfl⟩ := r2
  exact imul_int ⟨.int _, H, I.tok _, ⟨_, rfl⟩, q⟩ hc.ok
/-- x not in rows, data of few layers -/
def rNotInE (K : PySem.W.Frag) : R2 := fun x y H Q => ∃ d ds, Dp K H x d ∧ Dp K H y (.list ds) ∧ SeqAt.shaped d = true ∧ SeqAt.shaped (.list ds) = true ∧ d.depth ≤ 60 ∧ Q (.bl (!ds.any fun z => PyData.eqv z d)) H
theorem op_notinE {K : PySem.W.Frag} (hu : X.A.units + 64 < cLine) (hK : X.K = K := by rfl) : OpR X (compareOp .NotIn) (rNotInE K) := by
  subst hK
  intro pins s σ H x y v u Q I rx ry ⟨d, ds, hd, he, sd, se, dd, q⟩
  have ⟨as, r1⟩ := Dp.reads I d x v hd rx
  have ⟨bs, r2⟩ := Dp.reads I (.list ds) y u he ry
  have hm := Nat.min_le_right (PyData.depthAll ds) d.depth
  exact SeqAt.notIn_list_reads r2 r1 (SeqAt.canLay_of_shaped se) (SeqAt.canLay_of_shaped sd) (by omega) ⟨.bl _, H, I, rfl, q⟩
end
end Xk

set_option Elab.async false
set_option linter.all false
set_option maxRecDepth 100000
set_option maxHeartbeats 20000000
namespace Xk
open PySem PySem.Spec PyProof.Rows L2
/-! ### defs that raise -/
section
variable {P : Program} {w : World} {K : PySem.W.Frag} {mg : Str → Option Value} {B : Heap} {n : Nat} {g : Addr} {fd : FuncData} {ps : List Str} {sp sp2 : Sp}
/-- what raises nothing, where something may -/
theorem FnG.lift (F : FnG P w K mg B L2.CX0 n g fd ps sp) : FnG P w K mg B (L2N.CX P w) n g fd ps sp :=
  ⟨F.cnt, fun A ou t H ar us vs Q E hG room env bi rv hs => codeAny_mono (F.go A ou t H ar us vs Q E hG room env bi rv hs) fun r s' y => by
    match r, y with
    | .error e, y => exact y.elim
    | .ok (.ret u), y => exact y
    | .ok .next, y => exact y
    | .ok .brk, y => exact y
    | .ok .cont, y => exact y⟩
theorem FnG.up {CX : CXT} {m : Nat} (F : FnG P w K mg B CX n g fd ps sp) (h : n ≤ m) : FnG P w K mg B CX m g fd ps sp :=
  ⟨F.cnt, fun A ou t H ar us vs Q E hG room => F.go A ou t H ar us vs Q E hG (room.mono h)⟩
/-- either promise -/
def spOr (sp sp2 : Sp) : Sp := fun vs H Q E => sp vs H Q E ∨ sp2 vs H Q E
theorem FnG.or {CX : CXT} (F : FnG P w K mg B CX n g fd ps sp) (F2 : FnG P w K mg B CX n g fd ps sp2) : FnG P w K mg B CX n g fd ps (spOr sp sp2) :=
  ⟨fun vs H Q E h => h.elim (F.cnt vs H Q E) (F2.cnt vs H Q E), fun A ou t H ar us vs Q E hG room env bi rv hs => hs.elim (F.go A ou t H ar us vs Q E hG room env bi rv) (F2.go A ou t H ar us vs Q E hG room env bi rv)⟩
end
section
variable {P : Program} {w : World} {K : PySem.W.Frag} {mg : Str → Option Value} {base : Heap}
/-- as okG, for a def that may raise -/
theorem okX {x qual : Str} {st : Stmt} {f : Addr} {fd : FuncData} {N ps : List Str} {k : Nat} {sp : Sp} (F : Fun K x qual st f fd) (S : FnScope N ps (defScope st)) (cnt : ∀ vs H Q E, sp vs H Q E → vs.length = ps.length)
    (body : ∀ (cdv : Value) (A : Around) (ou : List Env) (t : Shared) (H : Hp) (vs : List V) (Q : VK) (E : XK), A.guards = some [] → Room k (A.deeper (envOfC qual (defScope st) t.heap.objs.size f cdv)) → sp vs H Q E →
      ∃ r, PSs (cxOf (L2N.CX P w) P w K mg base N qual (defScope st) f cdv A ou t H E) (defBody st) r ∧ r ⟨fun _ H' => Q .non H', Q, fun _ _ => False, fun _ _ => False⟩ (L2.start N vs) H) : FnG P w K mg base (L2N.CX P w) (k + 1) f fd ps sp := by
  obtain ⟨oc, od, kV, doc, pm, an, cdv, ct, osl, rfl, lk, hcd⟩ := F.ex
  exact fnG_of lk hcd S cnt fun A ou t H vs Q E hG hr hsp => body cdv A ou t H vs Q E hG hr hsp
end
/-! ### the call of such a def -/
section
variable {X : Cx} {W : WX} {n : Nat} {g : Addr} {fd : FuncData} {ps ks : List Str} {sp : Sp} {x : Str} {p pos : Pos} {e : Expr} {es : List Expr} {kws : List Keyword} {t tk : TA}
theorem endX {pins : List (Addr × Obj)} {σ : L2.St} {H : Hp} {s s' : Shared} {Q : VK} {r : Result} (tk : L2N.Takes X W) (I : Inv X pins σ H s)
    (z : CR (L2N.CX X.prog X.w) X.stack X.prog X.w H s Q (WE W σ) r s') :
    (match r with | .ok (.ret u) => EP X pins σ Q u s' | .ok _ => False | .error er => X.xe er s') := by
  match r, z with
  | .error er, z => exact L2N.passAt tk σ pins H s er s' I z
  | .ok (.ret u), z => exact I.after z
  | .ok .next, z => exact z.elim
  | .ok .brk, z => exact z.elim
  | .ok .cont, z => exact z.elim
theorem goX {pins : List (Addr × Obj)} {σ : L2.St} {H : Hp} {s : Shared} {Q : VK} {us : List Value} {vs : List V} (F : FnG X.prog X.w X.K X.mg X.base (L2N.CX X.prog X.w) n g fd ps sp)
    (hG : X.A.guards = some []) (room : Room n X.A) (bi : Binds X.K fd ps []) (tk : L2N.Takes X W) (I : Inv X pins σ H s) (rv : Vals vs us) (z : sp vs H Q (WE W σ)) :
    wpAny (model X.prog X.w) X.A (PySem.call (.ref g) us) (EP X pins σ Q) X.xe s := by
  have hlen : us.length = ps.length := rv.length ▸ F.cnt _ _ _ _ z
  have b := bi s us I.kIn (by rw [List.append_nil]; exact hlen)
  rw [List.append_nil] at b
  exact wpAny_call (codeAny_mono (F.go X.A X.stack s H ⟨us, []⟩ _ _ Q (WE W σ) hG room I.env0 b rv z) fun r s' y => by
    have := endX tk I y
    revert this
    cases r with
    | error _ => exact id
    | ok fl => cases fl <;> exact id)
def tCallX (sp : Sp) (W : WX) (t : TA) : TE := fun σ H Q => t σ H fun vs H1 => sp vs H1 Q fun cls d H' => W cls d σ H'
theorem pe_callX (F : FnG X.prog X.w X.K X.mg X.base (L2N.CX X.prog X.w) n g fd ps sp) (hG : X.A.guards = some []) (room : Room n X.A) (gx : Gl X x) (at' : X.mg x = some (.ref g)) (kp : PySem.W.keepIn X.K (.ref g) = true)
    (bi : Binds X.K fd ps []) (tk : L2N.Takes X W) (ha : PA X (e :: es) t) (hdb : (x == ("__debug__" : Str)) = false := by decide)
    (he : starEach (e :: es) X.env = (false, eval e X.env) :: starEach es X.env := by rfl) (hpl : (backTo pos (starEach es X.env)).any (·.1) = false := by rfl) : PE X (.Call (.Name x p) (e :: es) [] pos) (tCallX sp W t) :=
  ⟨fun pins s σ H Q I z => wpAny_Call_Name_kw (ld_glob I gx at'
    (PySem.W.callWith_K (h₀ := X.base) I.ok.mod.kin kp (thn (ha.run pos pins s σ H _ I z) fun us s1 ⟨vs, H1, I1, r, q⟩ => ⟨I1.kIn, goX F hG room bi tk I1 r q⟩) he hpl) hdb)⟩
variable {ff : List Value → List Value → List Value} {fV : List V → List V → List V}
theorem goXK {pins : List (Addr × Obj)} {σ : L2.St} {H : Hp} {s : Shared} {Q : VK} {us ws : List Value} {vs zs : List V} (F : FnG X.prog X.w X.K X.mg X.base (L2N.CX X.prog X.w) n g fd ps sp)
    (hG : X.A.guards = some []) (room : Room n X.A) (bi : KBinds X.K fd ps ks ff fV) (tk : L2N.Takes X W) (I : Inv X pins σ H s) (rv : Vals vs us) (rw' : Vals zs ws) (z : sp (fV vs zs) H Q (WE W σ)) :
    wpAny (model X.prog X.w) X.A (PySem.call (.ref g) us (ks.zip ws)) (EP X pins σ Q) X.xe s := by
  have rv2 := bi.rel rv rw'
  have hlen : (ff us ws).length = ps.length := rv2.length ▸ F.cnt _ _ _ _ z
  exact wpAny_call (codeAny_mono (F.go X.A X.stack s H ⟨us, ks.zip ws⟩ _ _ Q (WE W σ) hG room I.env0 (bi.to s us ws I.kIn hlen) rv2 z) fun r s' y => by
    have := endX tk I y
    revert this
    cases r with
    | error _ => exact id
    | ok fl => cases fl <;> exact id)
def tCallXK (sp : Sp) (fV : List V → List V → List V) (W : WX) (t tk : TA) : TE := fun σ H Q => t σ H fun vs H1 => tk σ H1 fun zs H2 => sp (fV vs zs) H2 Q fun cls d H' => W cls d σ H'
theorem pe_callXK0 (F : FnG X.prog X.w X.K X.mg X.base (L2N.CX X.prog X.w) n g fd ps sp) (hG : X.A.guards = some []) (room : Room n X.A) (gx : Gl X x) (at' : X.mg x = some (.ref g)) (kp : PySem.W.keepIn X.K (.ref g) = true)
    (bi : KBinds X.K fd ps ks ff fV) (tw : L2N.Takes X W) (hkw : PK X kws tk) (hdb : (x == ("__debug__" : Str)) = false := by decide)
    (all' : (backToKw pos (keywordEach kws X.env)).all (·.1.isSome) = true := by rfl) (nms : (backToKw pos (keywordEach kws X.env)).filterMap (·.1) = ks := by rfl)
    (hpl : ((backTo pos (starEach [] X.env)).any (·.1) || (backToKw pos (keywordEach kws X.env)).any (·.1.isNone)) = false := by rfl) :
    PE X (.Call (.Name x p) [] kws pos) (tCallXK sp fV W tNil tk) := by
  subst nms
  exact ⟨fun pins s σ H Q I z => wpAny_Call_Name_kw (ld_glob I gx at'
    (PySem.W.callWith_KW0 (h₀ := X.base) I.ok.mod.kin kp all' (thn (hkw.run pos pins s σ H _ I z) fun ws s2 ⟨zs, H2, I2, rz, q2⟩ => ⟨I2.kIn, goXK F hG room bi tw I2 .nil rz q2⟩) hpl) hdb)⟩
end
/-! ### an error class with one field, "value" -/
/-- x stands for the class at C; S is the class that clauses name -/
structure ErrC (K : PySem.W.Frag) (mg : Str → Option Value) (x : Str) (S C fI : Addr) : Prop where
  gC : mg x = some (.ref C)
  ox : OexC K C
  iC : PySem.W.findIn K (.ref C) "__init__" = some (some (.ref fI))
  tI : PySem.W.typeIn K (.ref fI) = some (.type "function")
  xf : XfC K C
  no : PySem.W.findIn K (.ref C) "value" = some none
  te : PySem.W.exmOne K (.ref C) (.ref S) = some true
/-- __init__(self, value): self.value = value -/
def spIni (K : PySem.W.Frag) (C : Addr) : Sp := fun vs H Q _ => ∃ (a : Addr) (y : V), vs = [.ref a, y] ∧ OexC K C ∧ PySem.W.findIn K (.ref C) "value" = some none ∧ H a = some (exo a C none) ∧
  ∀ dx, H dx = none → dx ≠ a → Q .non (upd (upd H dx (exd dx [(("value" : Str), y)])) a (exo a C (some dx)))
theorem ini_read {K : PySem.W.Frag} {C : Addr} {vs : List V} {H : Hp} {Q : VK} {E : XK} (h : spIni K C vs H Q E) :
    tSeq (tOst K "value" (tVar 0) (tVar 1)) tNext { nx := fun _ H' => Q .non H', rt := Q } (L2.start ["self", "value"] vs) H := by
  obtain ⟨a, y, rfl, T, no, e, q⟩ := h
  exact ⟨_, rfl, _, rfl, a, C, rfl, T, no, .inl ⟨e, fun dx n ne => q dx n ne⟩⟩
/-- C(e) -/
def tMkV (C : Addr) (ta : TA) : L2.St → Hp → XK → Prop := fun σ H Q => ta σ H fun vs H1 => ∃ y, vs = [y] ∧ ∀ d, H1 d = none → Q (.ref C) (some d) (upd H1 d (.xd [(("value" : Str), y)]))
section
variable {X : Cx} {W : WX} {x : Str} {S C fI : Addr} {k : Nat} {fd : FuncData} {e : Expr} {ta : TA} {p pos pos2 : Pos}
/-- C(e), by its own __init__, where nothing is handled -/
theorem pmk_val (T : ErrC X.K X.mg x S C fI) (F1 : FnOk X.prog X.w X.K X.mg X.base L2.CX0 k fI fd ["self", "value"] (spIni X.K C)) (hr : Room (k + 1) X.A) (hb : Binds X.K fd ["self", "value"] []) (hg : Gl X x) (ha : PA X [e] ta)
    (hdb : (x == ("__debug__" : Str)) = false := by decide) (he : starEach (e :: []) X.env = (false, eval e X.env) :: starEach [] X.env := by rfl) (hpl : (backTo pos (starEach [] X.env)).any (·.1) = false := by rfl) :
    L2N.PMk X (.Call (.Name x p) [e] [] pos) (tMkV C ta) := by
  intro pins s σ H Q I z
  obtain ⟨_, _, _, _, bm, _, _, _, _, _, _, _, _, _, _, look, refs⟩ := T.ox.cls
  refine wpAny_Call_Name_kw (ld_glob I hg T.gC (PySem.W.callWith_K (h₀ := X.base) I.ok.mod.kin T.ox.kC ?_ he hpl) hdb)
  refine thn (ha.run pos pins s σ H _ I z) fun us ⟨hp, gn, dr, tk, os⟩ ⟨vs, H1, J, rel, y, hy, q⟩ => ⟨J.kIn, ?_⟩
  subst hy
  cases rel with
  | @cons _ u _ us' ry rest =>
  cases rest
  show wpAny (model X.prog X.w) X.A (PySem.call (.ref C) [u]) _ _ _
  -- the exception, bare, and the tuple of what it was made of
  have grow : ∀ b o, hp.get? b = some o → ((hp.push (PySem.W.kdv_tup [u])).push (PySem.HandSPX.excO C hp.objs.size)).get? b = some o := fun b o g => Heap.get?_push_of_some _ (Heap.get?_push_of_some _ g)
  have here : ((hp.push (PySem.W.kdv_tup [u])).push (PySem.HandSPX.excO C hp.objs.size)).get? (hp.objs.size + 1) = some (PySem.HandSPX.excO C hp.objs.size) := by heap_get
  obtain ⟨a, ea⟩ : ∃ a, a = hp.objs.size + 1 := ⟨_, rfl⟩
  have above : hp.objs.size ≤ a := by omega
  have free : H1 a = none := J.hok.fresh above
  rw [← ea] at here
  have J2 : Inv X pins σ (upd H1 a (exo a C none)) ⟨(hp.push (PySem.W.kdv_tup [u])).push (PySem.HandSPX.excO C hp.objs.size), gn, dr, tk, os⟩ :=
    J.laid (t' := tk) (o := exo a C none) grow above (exo_ok here)
  have vals : Vals [V.ref a, y] [Value.ref a, u] := .cons rfl (.cons ry .nil)
  have pr : spIni X.K C [V.ref a, y] (upd H1 a (exo a C none)) (fun v H2 => v = .non ∧ ∃ d, H1 d = none ∧ d ≠ a ∧ H2 = upd (upd (upd H1 a (exo a C none)) d (exd d [(("value" : Str), y)])) a (exo a C (some d))) (fun _ _ _ => False) :=
    ⟨a, y, rfl, T.ox, T.no, upd_same, fun d hd ne => ⟨rfl, d, by rw [upd_ne ne] at hd; exact hd, ne, rfl⟩⟩
  have bd := hb _ [Value.ref a, u] J2.kIn rfl
  refine wpAny_call (PySem.HandSPX.call_own F.excBase_ValueError (fun Y => PySem.HandSPX.refsVE_contains Y bm refs) (J.kIn _ _ look) (PySem.W.looks_findIn J.kIn T.iC) (fun self => PySem.W.bind_fn J.kIn self T.tI) (by show 1 ≤ 16777216; decide) ?_)
  rw [← ea]
  refine codeAny_mono (F1.run _ X.stack _ _ ⟨[Value.ref a, u], []⟩ [Value.ref a, u] _ _ (fun _ _ _ => False) (hr.make C [u] []) (J2.env0.make C [u] []) bd vals pr) fun r ⟨h2, g2, d2, t2, o2⟩ res => ?_
  match r, res with
  | .error _, res => exact res.elim
  | .ok .next, res => exact res.elim
  | .ok .brk, res => exact res.elim
  | .ok .cont, res => exact res.elim
  | .ok (.ret v), ⟨x2, H2, os2, bare2, un2, hok2, rv, ⟨ex, d, hd, ne, eH⟩⟩ =>
    subst ex
    have ea2 : H2 a = some (exo a C (some d)) := by rw [eH]; exact upd_same
    have ed2 : H2 d = some (exd d [(("value" : Str), y)]) := by rw [eH, upd_ne ne]; exact upd_same
    obtain ⟨t0, G, J3, up, gone, obj, nx⟩ := mk_end0 (d2 := d2) (t2 := t2) J above grow un2 hok2 os2 bare2 ea2 ed2 hd
    refine ⟨rv, a, _, _, ⟨G, g2, d2, t2, o2⟩, _, .ref C, some d, rfl, J3, up, gone, obj, ⟨rfl, rfl, fun ws hw => by cases hw; rfl⟩, rfl, rfl, nx, rfl, bare2, raises_own T.ox.exC T.ox.tyC, ?_⟩
    have eq : upd (del H2 a) d (.xd [(("value" : Str), y)]) = upd H1 d (.xd [(("value" : Str), y)]) := by
      rw [eH]
      funext b
      by_cases hb : b = d
      · rw [hb, upd_same, upd_same]
      · rw [upd_ne hb, upd_ne hb]
        by_cases hc : b = a
        · rw [hc, del_same, free]
        · rw [del_ne hc, upd_ne hc, upd_ne hb, upd_ne hc]
    rw [eq]
    exact q d hd
/-- raise C(e) -/
def tRaiseV (C : Addr) (W : WX) (ta : TA) : TS := fun _ σ H => tMkV C ta σ H fun cls d H' => W cls d σ H'
theorem takesN0 {X : Cx} : L2N.Takes X (fun _ _ _ _ => False) := fun _ _ x => by
  obtain ⟨_, _, _, _, _, _, _, _, _, _, _, _, _, _, _, _, z⟩ := x
  exact z.elim
theorem ps_raiseV (hc : X.calm = true) (tk : L2N.Takes X W) (T : ErrC X.K X.mg x S C fI) (F1 : FnOk X.prog X.w X.K X.mg X.base L2.CX0 k fI fd ["self", "value"] (spIni X.K C)) (hr : Room (k + 1) X.A) (hb : Binds X.K fd ["self", "value"] []) (hg : Gl X x) (ha : PA X [e] ta)
    (hdb : (x == ("__debug__" : Str)) = false := by decide) (he : starEach (e :: []) X.env = (false, eval e X.env) :: starEach [] X.env := by rfl) (hpl : (backTo pos (starEach [] X.env)).any (·.1) = false := by rfl) :
    PS X (.Raise (some (.Call (.Name x p) [e] [] pos)) none pos2) (tRaiseV C W ta) := L2N.ps_raise hc tk (pmk_val T F1 hr hb hg ha hdb he hpl)
/-- e.f, e the exception that the suite holds, of any class -/
def tXfA (K : PySem.W.Frag) (a : Addr) (cls : Value) (d : Option Addr) (f : Str) (te : TE) : TE := fun σ H Q => te σ H fun x H1 => x = .ref a ∧ ∃ (C dd : Addr) (fs : List (Str × V)) (v : V), cls = .ref C ∧ d = some dd ∧ XfC K C ∧ PySem.W.findIn K (.ref C) f = some none ∧ H1 dd = some (.xd fs) ∧ fs.lookup f = some v ∧ Q v H1
theorem pe_xfA {q : Addr × Obj} (mem : q ∈ X.pn) {cls : Value} {d : Option Addr} {e : Expr} {te : TE} {pos : Pos} {n : Str}
    (hz : L2N.Zn cls d q.2) (hf : ∃ vs, q.2.data = .fields vs) (he : PE X e te) (hb : attributeBase e n X.env (eval e X.env) = eval e X.env := by rfl) :
    PE X (.Attribute e n pos) (tXfA X.K q.1 cls d n te) := by
  refine ⟨fun pins s σ H Q I z => attr_of hb (thn (he.run pins s σ H _ I z) fun u s1 ⟨x, H1, J, rx, ex, C, dd, fs, v, ec, ed, T, hno, ea, l, k⟩ => ?_)⟩
  subst ex ec ed
  obtain rfl : u = Value.ref q.1 := rx
  have stands := (J.pin q (List.mem_append_left _ mem)).1
  obtain ⟨mA, hns, hr⟩ : ObjOk X.prog X.w H1 s1.heap dd (.xd fs) := J.hok dd _ ea
  obtain ⟨od, ho, hl⟩ := lookIn_ns hns
  obtain ⟨u, hu, ru⟩ := RelO.some_of (v := v) (o := mA n) (l ▸ hr n)
  have at_ : PySem.W.InstAt s1.heap q.1 q.2 C (some od) := ⟨stands, hz.1, by obtain ⟨vs, hd⟩ := hf; unfold PySem.W.notCls; rw [hd], by rw [hz.2.1]; exact ho⟩
  exact HandSPX.exc_get J.kIn at_ T.ga T.gg T.exC (PySem.W.findObj_own T.hdC hno rfl (by rw [hl, hu])) (handed_of ru) ⟨v, H1, J.tok _, ru, k⟩
theorem pe_xfS {a : Addr} {oe : Obj} {cls : Value} {d : Option Addr} {pn : List (Addr × Obj)} {e : Expr} {te : TE} {pos : Pos} {n : Str}
    (hz : L2N.Zn cls d oe) (hf : ∃ vs, oe.data = .fields vs) (he : PE (X.suite a ((a, oe) :: pn)) e te) (hb : attributeBase e n X.env (eval e X.env) = eval e X.env := by rfl) :
    PE (X.suite a ((a, oe) :: pn)) (.Attribute e n pos) (tXfA X.K a cls d n te) := pe_xfA (q := (a, oe)) List.mem_cons_self hz hf he hb
end
section
variable {σ : L2.St} {H : Hp} {Q : VK} {W : WX} {sp : Sp} {t tk : TA} {fV : List V → List V → List V} {C : Addr} {D : Ends} {K : PySem.W.Frag} {a : Addr} {cls : Value} {d : Option Addr} {f : Str} {te : TE}
theorem r_callX (h : t σ H fun vs H1 => sp vs H1 Q fun cls d H' => W cls d σ H') : tCallX sp W t σ H Q := h
theorem r_callXK (h : t σ H fun vs H1 => tk σ H1 fun zs H2 => sp (fV vs zs) H2 Q fun cls d H' => W cls d σ H') : tCallXK sp fV W t tk σ H Q := h
theorem r_raiseV (h : t σ H fun vs H1 => ∃ y, vs = [y] ∧ ∀ d, H1 d = none → W (.ref C) (some d) σ (upd H1 d (.xd [(("value" : Str), y)]))) : tRaiseV C W t D σ H := h
theorem r_xfA (h : te σ H fun x H1 => x = .ref a ∧ ∃ (C dd : Addr) (fs : List (Str × V)) (v : V), cls = .ref C ∧ d = some dd ∧ XfC K C ∧ PySem.W.findIn K (.ref C) f = some none ∧ H1 dd = some (.xd fs) ∧ fs.lookup f = some v ∧ Q v H1) : tXfA K a cls d f te σ H Q := h
end
end Xk
local macro_rules | `(tactic| fail "ww1") => `(tactic| with_reducible first | refine Xk.r_callX ?_ | refine Xk.r_callXK ?_ | refine Xk.r_raiseV ?_ | refine Xk.r_xfA ?_)

set_option Elab.async false
set_option linter.all false
set_option maxRecDepth 100000
set_option maxHeartbeats 20000000
namespace Xk
open PySem PySem.Spec PyProof.Rows L2
/-! ### a list's end, whatever is handled -/
section
variable {prog : Program} {w : World} {A : Around} {E : Value → Shared → Prop} {s : Shared}
theorem list_end_hot {it l x1 : Addr} {i : Nat} {vs : Array Value} {Q : Option Value → Shared → Prop} (hot : HotX.HotAt A x1 s.heap) (hit : s.heap.IsListIter it l i) (hl : s.heap.IsList l vs) (none_ : vs[i]? = none) (hne : it ≠ x1)
    (hQ : ∀ h', (∀ b o, b ≠ it → s.heap.get? b = some o → h'.get? b = some o) → Q none { s with heap := h' }) : wpAny (model prog w) A (pyNext (.ref it)) Q E s := by
  obtain ⟨hand, o1, w1, g1, f1, c1⟩ := hot
  obtain ⟨oi, gi, ci, fi⟩ := id hit
  obtain ⟨ol, gl, _, cap, fl⟩ := hl
  unfold pyNext
  refine wpAny_bind (wpAny_attempt (wpAny_callSpecial?_slot (name := Str.ofString "__next__") hit.typeIs slot_listiter_next (wpAny_call_entry slot_listiter_next hit.typeIs entry_listiter_next ?_ (args_listiter_next _))))
  show wpAny _ _ (field (.ref it) 0 >>= _) _ _ s
  refine wpAny_bind (wpAny_field gi fi (x := .ref l) rfl ?_)
  show wpAny _ _ (if (Value.ref l == Value.none) = true then _ else _) _ _ s
  rw [show (Value.ref l == Value.none) = false from rfl, if_neg Bool.false_ne_true]
  show wpAny _ _ (field (.ref it) 1 >>= _) _ _ s
  refine wpAny_bind (wpAny_field gi fi (x := .int i 0) rfl ?_)
  show wpAny _ _ (seqItems? (.ref l) >>= _) _ _ s
  refine wpAny_bind (wpAny_seqItems gl fl ?_)
  simp only [Int.toNat_natCast, none_]
  refine wpAny_bind (wpAny_rule (wpAny_bind (wpAny_setField gi fi (by simp) ?_)))
  show wpAny _ _ (newExc (.type "StopIteration") [] >>= _) _ _ _
  refine wpAny_bind ?_
  simp only [newExc, newTuple]
  refine wpAny_bind (wpAny_newObj_type ?_ (by size_fits))
  refine wpAny_bind (m := firstArgMember _ _) (wpAny_of_eq (a := Value.none) (by first | rfl | (simp only [firstArgMember]; rfl)) ?_)
  refine wpAny_newObj_type ?_ (by size_fits)
  have old : ∀ {b o}, b ≠ it → s.heap.get? b = some o → (s.heap.update it (Obj.mapFields fun x => x.setIfInBounds 0 Value.none)).get? b = some o := fun hb g => (Heap.get?_update_other _ _ (Ne.symm hb)).trans g
  have e1 := old (Ne.symm hne) g1
  refine HotX.raiseNew_hot ⟨hand, o1, w1, Heap.get?_push_of_some _ (Heap.get?_push_of_some _ e1), f1, c1⟩ (Nat.ne_of_lt (Heap.lt_size (Heap.get?_push_of_some _ e1))) (Heap.get?_push_size _ rfl) rfl (by first | (simp; done) | (simp; omega) | (simp only [Array.size_append]; simp; omega)) ?_
  refine wpAny_bind (wpAny_isInstance (T := "StopIteration") (b := true) ⟨_, Heap.get?_update_self _ (Heap.get?_push_size _ rfl) rfl, rfl⟩ isSubtype_stop ?_)
  refine wpAny_pure (hQ _ fun b o hb g => ?_)
  have e2 := old hb g
  rw [Heap.get?_update_other _ _ (Nat.ne_of_gt (Heap.lt_size (Heap.get?_push_of_some _ e2)))]
  exact Heap.get?_push_of_some _ (Heap.get?_push_of_some _ e2)
/-- the same of a tuple's walk -/
theorem tuple_end_hot {it l x1 : Addr} {i : Nat} {vs : Array Value} {Q : Option Value → Shared → Prop} (hot : HotX.HotAt A x1 s.heap) (hit : s.heap.IsTupleIter it l i) (hl : s.heap.IsTuple l vs) (none_ : vs[i]? = none) (hne : it ≠ x1)
    (hQ : ∀ h', (∀ b o, b ≠ it → s.heap.get? b = some o → h'.get? b = some o) → Q none { s with heap := h' }) : wpAny (model prog w) A (pyNext (.ref it)) Q E s := by
  obtain ⟨hand, o1, w1, g1, f1, c1⟩ := hot
  obtain ⟨oi, gi, ci, fi⟩ := id hit
  obtain ⟨ol, gl, _, cap, fl⟩ := hl
  unfold pyNext
  refine wpAny_bind (wpAny_attempt (wpAny_callSpecial?_slot (name := Str.ofString "__next__") hit.typeIs F.slot_tuple_iterator_next (wpAny_call_entry F.slot_tuple_iterator_next hit.typeIs F.entry_tuple_iterator_next ?_ (F.args_tuple_iterator_next_1 _))))
  show wpAny _ _ (field (.ref it) 0 >>= _) _ _ s
  refine wpAny_bind (wpAny_field gi fi (x := .ref l) rfl ?_)
  show wpAny _ _ (if (Value.ref l == Value.none) = true then _ else _) _ _ s
  rw [show (Value.ref l == Value.none) = false from rfl, if_neg Bool.false_ne_true]
  show wpAny _ _ (field (.ref it) 1 >>= _) _ _ s
  refine wpAny_bind (wpAny_field gi fi (x := .int i 0) rfl ?_)
  show wpAny _ _ (seqItems? (.ref l) >>= _) _ _ s
  refine wpAny_bind (wpAny_seqItems gl fl ?_)
  simp only [Int.toNat_natCast, none_]
  refine wpAny_bind (wpAny_rule (wpAny_bind (wpAny_setField gi fi (by simp) ?_)))
  show wpAny _ _ (newExc (.type "StopIteration") [] >>= _) _ _ _
  refine wpAny_bind ?_
  simp only [newExc, newTuple]
  refine wpAny_bind (wpAny_newObj_type ?_ (by size_fits))
  refine wpAny_bind (m := firstArgMember _ _) (wpAny_of_eq (a := Value.none) (by first | rfl | (simp only [firstArgMember]; rfl)) ?_)
  refine wpAny_newObj_type ?_ (by size_fits)
  have old : ∀ {b o}, b ≠ it → s.heap.get? b = some o → (s.heap.update it (Obj.mapFields fun x => x.setIfInBounds 0 Value.none)).get? b = some o := fun hb g => (Heap.get?_update_other _ _ (Ne.symm hb)).trans g
  have e1 := old (Ne.symm hne) g1
  refine HotX.raiseNew_hot ⟨hand, o1, w1, Heap.get?_push_of_some _ (Heap.get?_push_of_some _ e1), f1, c1⟩ (Nat.ne_of_lt (Heap.lt_size (Heap.get?_push_of_some _ e1))) (Heap.get?_push_size _ rfl) rfl (by first | (simp; done) | (simp; omega) | (simp only [Array.size_append]; simp; omega)) ?_
  refine wpAny_bind (wpAny_isInstance (T := "StopIteration") (b := true) ⟨_, Heap.get?_update_self _ (Heap.get?_push_size _ rfl) rfl, rfl⟩ isSubtype_stop ?_)
  refine wpAny_pure (hQ _ fun b o hb g => ?_)
  have e2 := old hb g
  rw [Heap.get?_update_other _ _ (Nat.ne_of_gt (Heap.lt_size (Heap.get?_push_of_some _ e2)))]
  exact Heap.get?_push_of_some _ (Heap.get?_push_of_some _ e2)
/-- a tuple is taken apart while an exception is handled -/
theorem unpack_hot {t x1 : Addr} {vs : Array Value} {Q : Unit → Shared → Prop} {elts : List Expr} {k : Nat} {pos : Pos} {env : Env} (hot : HotX.HotAt A x1 s.heap) (ht : s.heap.IsTuple t vs)
    (hn : (assignEach elts env).length = vs.size) (hst : (assignEach elts env).findIdx? (·.1) = none)
    (hQ : ∀ h', (∀ b o, s.heap.get? b = some o → h'.get? b = some o) → wpAny (model prog w) A (assignInOrder ((assignEach elts env).map (·.2)) vs.toList) Q E { s with heap := h' }) :
    wpAny (model prog w) A (assign (.Tuple elts k pos) env (.ref t)) Q E s := by
  obtain ⟨o0, g0, _, _, d0⟩ := id ht
  have away : t ≠ s.heap.objs.size := Nat.ne_of_lt (Heap.lt_size g0)
  obtain ⟨hand, o1, w1, g1, f1, c1⟩ := hot
  have away1 : x1 ≠ s.heap.objs.size := Nat.ne_of_lt (Heap.lt_size g1)
  rw [arm_assign_Tuple]
  refine wpAny_bind (wpAny_standAt ?_)
  unfold unpack
  rw [hn, hst]
  refine wpAny_bind (wpAny_holding ?_)
  unfold unpackItems notIterableAtAll
  refine wpAny_bind (wpAny_bind (wpAny_specialOf ht.typeIs F.slot_tuple_iter.lookup (wpAny_pure ?_)))
  rw [if_neg (by simp)]
  refine wpAny_bind (wpAny_holding (wpAny_pyIter_tuple ht ?_))
  refine wpAny_bind (wpAny_holding (wpAny_draw_tuple away vs.size 0 _ _ ⟨_, Heap.get?_push_size _ rfl, rfl, rfl⟩ (ht.push _) (by omega) fun h1 st1 same1 => ?_))
  rw [List.drop_zero, List.take_of_length_le (by simp)]
  rw [if_neg (by simp)]
  have ht1 : h1.IsTuple t vs := (ht.push _).extBut same1.extBut away
  have gx : h1.get? x1 = some o1 := (same1.2 x1 away1).trans (Heap.get?_push_of_some _ g1)
  refine wpAny_bind (wpAny_holding (tuple_end_hot (s := { s with heap := h1 }) ⟨hand, o1, w1, gx, f1, c1⟩ st1 ht1 (by simp) (Ne.symm away1) fun h2 up => ?_))
  simp only [Option.isSome_none, Bool.false_eq_true, if_false]
  exact wpAny_pure (hQ h2 fun b o g => up b o (Nat.ne_of_lt (Heap.lt_size g)) ((same1.2 b (Nat.ne_of_lt (Heap.lt_size g))).trans (Heap.get?_push_of_some _ g)))
end
/-! ### a caught exception stands by -/
/-- q is the exception that is handled, or nothing is -/
def ByQ (A : Around) (q : Addr × Obj) : Prop := A.handled = none ∨ A.handled = some (.ref q.1)
/-- what is known of a caught exception -/
structure Caught (X : Cx) (q : Addr × Obj) (cls : Value) (d : Option Addr) : Prop where
  mem : q ∈ X.pn
  by_ : ByQ X.A q
  zn : L2N.Zn cls d q.2
  fld : ∃ vs, q.2.data = .fields vs
section
variable {X : Cx} {pins : List (Addr × Obj)} {σ : L2.St} {H : Hp} {s : Shared} {q : Addr × Obj} {cls : Value} {d : Option Addr}
/-- the end of a list's walk in a comprehension's block, the exception still there -/
theorem list_end_any {A : Around} {E : Value → Shared → Prop} {it l : Addr} {i : Nat} {vs : Array Value} {Q : Option Value → Shared → Prop} (hb : ByQ A q) (hz : L2N.Zn cls d q.2) (hf : ∃ vs, q.2.data = .fields vs) (there : s.heap.get? q.1 = some q.2)
    (hit : s.heap.IsListIter it l i) (hl : s.heap.IsList l vs) (none_ : vs[i]? = none) (hne : it ≠ q.1) (hQ : ∀ h', (∀ b o, b ≠ it → s.heap.get? b = some o → h'.get? b = some o) → Q none { s with heap := h' }) :
    wpAny (model X.prog X.w) A (pyNext (.ref it)) Q E s := by
  rcases hb with hd | hd
  · exact wpAny_pyNext_list_end hd hit hl none_ fun h' ext => hQ h' fun b o ne g => ext b o ne g
  · obtain ⟨ws, fw⟩ := hf
    exact list_end_hot ⟨hd, q.2, ws, there, fw, hz.2.2 ws fw⟩ hit hl none_ hne hQ
/-- a comprehension's block, the exception kept in sight -/
abbrev blkE (X : Cx) (s : Shared) (H : Hp) (scope : Scope) (cenv : Env) (fp : List Addr) (q : Addr × Obj) : Cx := { X.blk s H scope cenv fp with pn := [q] }
theorem toBlkE {X : Cx} {s0 : Shared} {H0 : Hp} {scope : Scope} {cenv : Env} {fp : List Addr} {q : Addr × Obj} {σ : L2.St} {H : Hp} {s : Shared} (I : Inv (X.blk s0 H0 scope cenv fp) [] σ H s)
    (h : s.heap.get? q.1 = some q.2 ∧ H q.1 = none ∧ q.1 ≠ cenv.locals ∧ q.1 ∉ frs X.stack ∧ ∀ v, q.2.data ≠ .cell v) : Inv (blkE X s0 H0 scope cenv fp q) [] σ H s :=
  ⟨⟨I.ok.mod, I.ok.kind, I.ok.glob, I.ok.blt, I.ok.above, I.ok.inj, I.ok.has, I.ok.cab, I.ok.hd, I.ok.frames, I.ok.stk, I.ok.exf, I.ok.bs, I.ok.bsz, I.ok.noex, I.ok.exfs, I.ok.funs, I.ok.frf⟩, I.os, I.bare, I.base, I.loc, I.cell, I.free, I.freeC,
    fun p hp => by rw [List.mem_singleton.mp (show p ∈ [q] from hp)]; exact h, I.hok, I.len⟩
theorem Caught.blk {X : Cx} {s0 : Shared} {H0 : Hp} {scope : Scope} {cenv : Env} {fp : List Addr} {q : Addr × Obj} {cls : Value} {d : Option Addr} (C : Caught X q cls d) : Caught (blkE X s0 H0 scope cenv fp q) q cls d :=
  ⟨List.mem_singleton.mpr rfl, C.by_, C.zn, C.fld⟩
/-- a tuple taken apart, where an exception may be handled -/
theorem pg_tupE {es : List Expr} {k : Nat} {g : TGs} {pos : Pos} (n : Nat) (C : Caught X q cls d) (h : PGs X es g) (hn : (assignEach es X.env).length = n := by rfl) (hst : (assignEach es X.env).findIdx? (·.1) = none := by rfl) {K : PySem.W.Frag} (hK : X.K = K := by rfl) :
    PG X (.Tuple es k pos) (gTup K n g) := by
  subst hK
  refine ⟨fun pins s σ H v u Q I r ⟨a, xs, e1, hq, hl, z⟩ => ?_⟩
  subst e1
  cases r
  obtain ⟨its, rv, ht, _⟩ := I.tuple hq
  have size : (assignEach es X.env).length = its.toArray.size := by simp [hn, ← hl, rv.length]
  have go : ∀ h', (∀ b o, s.heap.get? b = some o → h'.get? b = some o) → wpAny (model X.prog X.w) X.A (assignInOrder ((assignEach es X.env).map (·.2)) its.toArray.toList) (fun _ s' => ∃ σ' H', Inv X pins σ' H' s' ∧ Q σ' H') X.xe { s with heap := h' } :=
    fun h' up => h.run pins _ σ H xs _ Q (I.kept (t' := s.toks) up) (by simpa using rv) z
  rcases C.by_ with hd | hd
  · exact assign_Tuple_tuple hd ht size hst fun h' ext => go h' fun b o g => ext b o (Nat.ne_of_lt (Heap.lt_size g)) g
  · obtain ⟨ws, fw⟩ := C.fld
    exact unpack_hot ⟨hd, q.2, ws, (I.pin q (List.mem_append_left _ C.mem)).1, fw, C.zn.2.2 ws fw⟩ ht size hst go
/-- name = [elt for target in a list if ..], on one line, where an exception may be handled -/
theorem ps_setLcE {i : Nat} {y : Str} {py : Pos} {elt tg iter : Expr} {ifs : List Expr} {scope : Scope} {own : List (Str × Nat)} {pos spos : Pos} {tl : TE} {g : TG} {tt : TT} {te : TE} (cg : Caught X q cls d) (hN : X.N.Nodup) (hy : X.N[i]? = some y) (hyl : X.env.scope.names.lookup y = some .local)
    (hsw : swapsWith (.ListComp elt [⟨tg, iter, ifs, 0⟩] scope pos) (some (.Name y py)) spos.line X.env = pure true) (hi : PE X iter tl) (ok : BlkOk X.N X.env.scope scope own)
    (hg : ∀ (s : Shared) (H : Hp) (C : Addr) (cl : List (Str × Addr)) (fp : List Addr), PG (blkE X s H scope (compEnvC scope cl C X.env) fp q) tg g) (ht : ∀ (s : Shared) (H : Hp) (C : Addr) (cl : List (Str × Addr)) (fp : List Addr), PTs (blkE X s H scope (compEnvC scope cl C X.env) fp q) ifs tt)
    (he : ∀ (s : Shared) (H : Hp) (C : Addr) (cl : List (Str × Addr)) (fp : List Addr), PE (blkE X s H scope (compEnvC scope cl C X.env) fp q) elt te) (hs : ∀ x, foldedSetIterable iter X.env x = pure x := by intro _; rfl) :
    PS X (.Assign [.Name y py] (.ListComp elt [⟨tg, iter, ifs, 0⟩] scope pos) spos) (tAsg (tLc (iList X.K tl) g tt te (own.map (·.2))) (gName i)) := by
  refine ⟨fun pins s σ H D I z => ?_⟩
  have vars : ∀ n ∈ scope.names, n.2 = .free → ∃ c, X.env.cells.lookup n.1 = some c := fun n hn e => (ok.free n hn e).elim (fun k => I.ok.has _ (.inl k)) fun k => I.ok.has _ (.inr k)
  rw [exec_Assign_Name_used _ _ _ _ hsw]
  refine wpAny_bind (wpAny_standAt (wpAny_bind ?_))
  show wpAny _ X.A (do let _ ← comprehension (.ListComp elt [⟨tg, iter, ifs, 0⟩] scope pos) scope X.env (firstIterPos [⟨tg, iter, ifs, 0⟩] pos) (newList []) false (eval iter X.env) (some (assign (.Name y py) X.env))) _ _ s
  refine wpAny_bind (thn ?_ fun _ s' (fin : SP X pins D .next s') => wpAny_pure (wpAny_pure fin))
  refine wpAny_comprehension_free rfl hs (closure_ok vars) ok.kind (fun n hn e => by rw [ok.uniq n hn, e]) (thn (hi.run pins s σ H _ I z) fun v0 s1 ⟨v, H1, I1, rv, k⟩ => ?_)
  obtain ⟨l, rfl, ⟨xs, hxs⟩, k⟩ := k
  obtain rfl : v0 = Value.ref l := rv
  obtain ⟨its, rel, lst, hz⟩ := I1.list hxs
  refine wpAny_pyIter_list lst.isList ?_
  -- the iterator
  obtain ⟨it, eit⟩ : ∃ it, it = s1.heap.objs.size := ⟨_, rfl⟩
  generalize e2 : ({ s1 with heap := s1.heap.push { cls := .type "list_iterator", data := .fields #[.ref l, .int 0 0] } } : Shared) = s2
  have h2 : s2.heap = s1.heap.push { cls := .type "list_iterator", data := .fields #[.ref l, .int 0 0] } := by rw [← e2]
  have I2 : Inv X pins σ H1 s2 := by rw [← e2]; exact I1.kept (t' := s1.toks) fun b o g => Heap.get?_push_of_some _ g
  have at2 : s2.heap.IsListIter it l 0 := by rw [h2, eit]; exact ⟨_, Heap.get?_push_size _ rfl, rfl, rfl⟩
  have fp2 : FpOk X pins H1 it := I1.fpOk (by rw [eit]; exact Nat.le_refl _) (I1.hok.fresh (by rw [eit]; exact Nat.le_refl _))
  rw [← eit]
  -- the new list
  refine wpAny_newObj_type (newEnv_comp ?_) (by show 0 ≤ sizeLine; decide)
  obtain ⟨L, eL⟩ : ∃ L, L = s2.heap.objs.size := ⟨_, rfl⟩
  rw [← eL]
  have hL : H1 L = none := I2.hok.fresh (Nat.le_of_eq eL.symm)
  obtain ⟨W, ⟨m0, w0⟩, turn⟩ := k L hL
  generalize e3 : ({ s2 with heap := s2.heap.push { cls := .type "list", data := .seq ([] : List Value).toArray } } : Shared) = s3
  have h3 : s3.heap = s2.heap.push { cls := .type "list", data := .seq ([] : List Value).toArray } := by rw [← e3]
  have I3 : Inv X pins σ (upd H1 L (.lst [])) s3 := by
    rw [← e3]
    exact I2.laid (t' := s2.toks) (o := .lst []) (fun b o g => Heap.get?_push_of_some _ g) (Nat.le_of_eq eL.symm) ⟨Nat.zero_le _, [], 0, .nil, by rw [eL]; exact Heap.get?_push_size _ rfl⟩
  have ltit : it < s2.heap.objs.size := by obtain ⟨o, g, _⟩ := at2; exact Heap.lt_size g
  have neL : it ≠ L := by rw [eL]; exact Nat.ne_of_lt ltit
  have at3 : s3.heap.IsListIter it l 0 := at2.at fun o g => by rw [h3]; exact Heap.get?_push_of_some _ g
  have lt3 : it < s3.heap.objs.size := by rw [h3, Heap.size_push]; exact Nat.lt_succ_of_lt ltit
  generalize eH : upd H1 L (.lst []) = H3 at I3 w0
  have fp3 : FpOk X pins H3 it := ⟨by rw [← eH, upd_ne neL]; exact fp2.1, fp2.2⟩
  have fps : ∀ b ∈ [it], FpOk X pins H3 b ∧ b < s3.heap.objs.size := fun b hb => by rw [List.mem_singleton.mp hb]; exact ⟨fp3, lt3⟩
  -- the block
  have I4 := block_start I3 ok hN fps
  have rg := hg s3 H3 s3.heap.objs.size (cellsFrom (s3.heap.objs.size + 1) scope.names (cloFrom X.env.cells scope.names [])) [it]
  have rt := ht s3 H3 s3.heap.objs.size (cellsFrom (s3.heap.objs.size + 1) scope.names (cloFrom X.env.cells scope.names [])) [it]
  have re := he s3 H3 s3.heap.objs.size (cellsFrom (s3.heap.objs.size + 1) scope.names (cloFrom X.env.cells scope.names [])) [it]
  show codeAny _ _ (.compStart (.ListComp elt [⟨tg, iter, ifs, 0⟩] scope pos) 0 (.ref it) (.ref L) (compEnvC scope (cellsFrom (s3.heap.objs.size + 1) scope.names (cloFrom X.env.cells scope.names [])) s3.heap.objs.size X.env)) _ { s3 with heap := pushCells (s3.heap.push { cls := .type "dict", data := .dict #[] }) scope.names }
  generalize ece : compEnvC scope (cellsFrom (s3.heap.objs.size + 1) scope.names (cloFrom X.env.cells scope.names [])) s3.heap.objs.size X.env = ce at I4 rg rt re ⊢
  have loc : ce.locals = s3.heap.objs.size := by rw [← ece]; rfl
  generalize e4 : ({ s3 with heap := pushCells (s3.heap.push { cls := .type "dict", data := .dict #[] }) scope.names } : Shared) = s4 at I4 ⊢
  have at4 : s4.heap.IsListIter it l 0 := at3.at fun o g => by rw [← e4]; exact pushCells_keeps _ _ _ _ (Heap.get?_push_of_some _ g)
  -- the exception stands by all through
  have pin3 := I3.pin q (List.mem_append_left _ cg.mem)
  have hqit : it ≠ q.1 := fun e => fp3.2.2.2.2.2 q (List.mem_append_left _ cg.mem) e.symm
  have hqS : q.1 ∉ frs X.stack := fun hm => by
    rcases List.mem_cons.mp (I3.stkSub q.1 hm) with e | e
    · exact pin3.2.2.1 e
    · exact pin3.2.2.2.1 e
  have I4 : Inv (blkE X s3 H3 scope ce [it] q) [] (wipe σ (own.map (·.2))) H3 s4 := toBlkE I4 ⟨I4.base.keep q.1 q.2 pin3.1 pin3.2.1 hqS (fun hm => hqit (List.mem_singleton.mp hm).symm), pin3.2.1, by rw [loc]; exact Nat.ne_of_lt (Heap.lt_size pin3.1), hqS, pin3.2.2.2.2⟩
  have stands : ∀ {σ' : L2.St} {H' : Hp} {s' : Shared}, Inv (blkE X s3 H3 scope ce [it] q) [] σ' H' s' → s'.heap.get? q.1 = some q.2 := fun J => (J.pin q (List.mem_append_left _ (List.mem_singleton.mpr rfl))).1
  have fpB : ∀ {σ' : L2.St} {H' : Hp} {s' : Shared}, Inv (blkE X s3 H3 scope ce [it] q) [] σ' H' s' → H' it = none → ∀ b ∈ [it], FpOk (blkE X s3 H3 scope ce [it] q) [] H' b := fun {σ' H' s'} J n b hb => by
    obtain rfl := List.mem_singleton.mp hb
    exact ⟨n, (J.ok.exf _ hb).1, J.ok.exfs _ hb, .inl hb, fun x c e => (J.ok.exf _ hb).2 x c e, fun p hp => by rw [List.mem_singleton.mp (show p ∈ [q] from hp)]; exact Ne.symm hqit⟩
  have hc1 : ∀ {h : Heap} {j : Nat}, h.IsListIter it l j → ∀ b ∈ [it], ∃ o, h.get? b = some o ∧ ∀ v, o.data ≠ .cell v := fun st b hb => by
    obtain rfl := List.mem_singleton.mp hb
    obtain ⟨o, g, _, dt⟩ := st
    exact ⟨o, g, fun v e => by rw [dt] at e; cases e⟩
  suffices loop : codeAny (model X.prog X.w) X.A (.compLoop (.ListComp elt [⟨tg, iter, ifs, 0⟩] scope pos) 0 (.ref it) (.ref L) ce) (compPost (model X.prog X.w) X.A X.xe (some (assign (.Name y py) X.env)) (fun _ s' => SP X pins D .next s') (.ref L) s3.heap.objs.size) s4 from
    codeAny_compStart_list loop (wpAny_pyIter_listiter at4 loop)
  refine compLoop_any (fun n s' => ∃ j H', Inv (blkE X s3 H3 scope ce [it] q) [] (wipe σ (own.map (·.2))) H' s' ∧ s'.heap.IsListIter it l j ∧ H' it = none ∧ W j n H') ?_ m0 ⟨0, H3, I4, at4, fp3.1, w0⟩
  rintro n s5 ⟨j, H5, I5, at5, n5, w5⟩
  have wide : ∀ {h' : Heap}, (∀ b o, b ≠ it → s5.heap.get? b = some o → h'.get? b = some o) → Inv (blkE X s3 H3 scope ce [it] q) [] (wipe σ (own.map (·.2))) H5 { s5 with heap := h' } := fun {h'} up => by
    obtain ⟨g0, g1, _, g3, g4, g5⟩ := fpB I5 n5 it (List.mem_singleton.mpr rfl)
    exact I5.turned (t' := s5.toks) up g0 g1 g3 g4 g5
  rcases turn j n H5 w5 with ⟨⟨ys, hys, hend⟩, done⟩ | ⟨⟨ys, x, hys, hx⟩, Nx, hNx, step⟩
  · -- the end: the list is stored
    obtain ⟨vs, rvs, lst5, _⟩ := I5.list hys
    refine thnF (list_end_any (X := X) cg.by_ cg.zn cg.fld (stands I5) at5 lst5.isList (by have := rvs.length; simp; omega) hqit (Q := fun r s6 => r = none ∧ Inv (blkE X s3 H3 scope ce [it] q) [] (wipe σ (own.map (·.2))) H5 s6) (fun h' up => ⟨rfl, wide up⟩)) fun r s6 ⟨hr, I6⟩ => ?_
    subst hr
    have I7 : Inv X pins σ H5 s6 := I3.call' (ch := [it]) I6.os I6.base I6.hok I6.bare fun b hb => by
      rw [List.mem_singleton.mp hb]; exact ⟨fp3.2.2.2.1, fp3.2.1, fp3.2.2.2.2.1, fp3.2.2.2.2.2⟩
    have free : H5 s3.heap.objs.size = none := by have e : H5 ce.locals = none := I6.free; rwa [loc] at e
    obtain ⟨mm, ns, _⟩ := I6.loc
    have ns : s6.heap.Ns ce.locals mm := ns
    rw [loc] at ns
    obtain ⟨f0, f1, f2, f3, f4, f5⟩ : FpOk X pins H5 s3.heap.objs.size := I3.fpOk (Nat.le_refl _) free
    show wpAny _ _ (assign (.Name y py) X.env (.ref L)) _ _ _
    refine wpAny_assign_Name (store_ok2 (v := V.ref L) I7 hN hy (.inl hyl) rfl (fun s8 I8 ⟨a, same, ha⟩ => ?_) (.inr hyl))
    have away : s3.heap.objs.size ≠ a := ha.elim (fun e => e ▸ f1) fun e => fun e' => f4 y a e e'.symm
    exact ⟨mm, ns.sameBut same away, fun h9 same9 => ⟨_, H5, I8.turned (t' := s8.toks) (fun b o hb g => (same9.2 b hb).trans g) f0 f1 f3 f4 f5, done⟩⟩
  · -- a turn
    obtain ⟨vs, rvs, lst5, _⟩ := I5.list hys
    obtain ⟨u, hu, ru⟩ := rvs.get hx
    refine thnF (wpAny_pyNext_list_item (Q := fun r s6 => r = some u ∧ Inv (blkE X s3 H3 scope ce [it] q) [] (wipe σ (own.map (·.2))) H5 s6 ∧ s6.heap.IsListIter it l (j + 1)) at5 lst5.isList (x := u) (by simpa using hu) fun h' st same => ⟨rfl, wide fun b o hb g => (same.2 b hb).trans g, st⟩) fun r s6 ⟨hr, I6, at6⟩ => ?_
    subst hr
    obtain ⟨oi, gi, ci, di⟩ := id at6
    refine go_of gi ci di (by decide) ?_
    have I7 := I6.pinned (fpB I6 n5) (hc1 at6)
    refine thnF (rg.run _ s6 _ H5 x u _ I7 ru (step x H5 ⟨rfl, fun zs hzs => by rw [I5.list_inj hzs hys]; exact hx⟩)) fun _ s7 ⟨σ7, H7, I8, wp, k7⟩ => ?_
    refine thnF (rt.run _ s7 σ7 H7 _ I8 k7) fun b s8 ⟨H8, I9, k8⟩ => ?_
    have again : ∀ {s' : Shared} {H' : Hp}, Inv (blkE X s3 H3 scope ce [it] q) ([] ++ pinsAt [it] s6.heap) σ7 H' s' → Nx H' → ∃ m, m < n ∧ ∃ j' H', Inv (blkE X s3 H3 scope ce [it] q) [] (wipe σ (own.map (·.2))) H' s' ∧ s'.heap.IsListIter it l j' ∧ H' it = none ∧ W j' m H' := fun {s' H'} J nx => by
      obtain ⟨m', hm, w'⟩ := hNx H' nx
      have kept := J.pin (it, oi) (List.mem_append_right _ (List.mem_append_right _ (mem_pinsAt (List.mem_singleton.mpr rfl) gi)))
      refine ⟨m', hm, j + 1, H', (J.unpinned (pins := [])).weak (by rw [← wp, wipe_length]) (fun k v e => ?_), ⟨oi, kept.1, ci, di⟩, kept.2.1, w'⟩
      rw [← wp] at e
      exact (wipe_some e).1
    cases b with
    | false =>
      rw [if_neg Bool.false_ne_true] at k8
      exact again I9 k8
    | true =>
      rw [if_pos rfl] at k8
      refine thnF (re.run _ s8 σ7 H8 _ I9 k8) fun v9 s9 ⟨yv, H9, I10, r9, acc, hD9, hz9, nx⟩ => ?_
      exact app_ok (X := blkE X s3 H3 scope ce [it] q) I10 hD9 hz9 r9 fun s10 I11 => again I11 nx
/-- isinstance(e, c) -/
def rIsX (K : PySem.W.Frag) (a : Addr) (cls : Value) (d : Option Addr) : List V → Hp → VK → Prop := fun xs H Q => ∃ (c : V) (cv : Value) (b : Bool) (D dd : Addr) (fs : List (Str × V)), xs = [.ref a, c] ∧ (∀ u, RelV c u → u = cv) ∧ cls = .ref D ∧ d = some dd ∧ H dd = some (.xd fs) ∧ ExcC K D ∧ PySem.W.kitOne K (.ref D) cv = some b ∧ Q (.bl b) H
theorem call_isX (C : Caught X q cls d) : CallR X (.builtin "isinstance") (rIsX X.K q.1 cls d) := by
  intro pins s σ H xs us Q I rel ⟨c, cv, b, D, dd, fs, ex, hcv, ec, ed, ea, T, kit, k⟩
  subst ex ec ed
  cases rel with
  | @cons _ u0 _ us0 r0 rest =>
  cases rest with
  | @cons _ u1 _ us1 r1 rest =>
  cases rest
  obtain rfl : u0 = Value.ref q.1 := r0
  obtain rfl := hcv _ r1
  have there := (I.pin q (List.mem_append_left _ C.mem)).1
  obtain ⟨mA, hns, hr⟩ : ObjOk X.prog X.w H s.heap dd (.xd fs) := I.hok dd _ ea
  obtain ⟨od, ho, hl⟩ := lookIn_ns hns
  have inst : PySem.W.InstAt s.heap q.1 q.2 D (some od) := ⟨there, C.zn.1, by obtain ⟨vs, hd⟩ := C.fld; unfold PySem.W.notCls; rw [hd], by rw [C.zn.2.1]; exact ho⟩
  have some_ : (PySem.W.clsIn X.K D).isSome = true := by
    obtain ⟨cd, hc, _⟩ := PySem.W.any_some T.hd
    rw [hc]; rfl
  exact PySem.W.kia_one (PySem.W.kitx_exc some_ T.hg T.hk T.hs T.ha T.hn T.ht T.hm) I.kIn inst kit (fun z => nomatch z) fun tk => ⟨.bl b, H, I.kept (t' := tk) fun _ _ g => g, rfl, k⟩
end
/-! ### defs that are handed a caught exception -/
structure FnE (P : Program) (w : World) (K : PySem.W.Frag) (mg : Str → Option Value) (B : Heap) (n : Nat) (g : Addr) (fd : FuncData) (ps : List Str) (sp : Addr → Value → Option Addr → Sp) : Prop where
  cnt : ∀ a cls d vs H Q E, sp a cls d vs H Q E → vs.length = ps.length
  go : ∀ (A : Around) (ou : List Env) (t : Shared) (H : Hp) (ar : Args) (us : List Value) (vs : List V) (Q : VK) (E : XK) (q : Addr × Obj) (cls : Value) (d : Option Addr), A.guards = some [] → L2H.RoomH n A → ByQ A q → L2N.Zn cls d q.2 → (∃ vs, q.2.data = .fields vs) → L2H.PinOk ou H t q →
    Env0 P w K mg B A ou t H → BindsTo t fd ar (ps.zip us) → Vals vs us → sp q.1 cls d vs H Q E → codeAny (model P w) A (.call (.ref g) ar) (CR L2.CX0 ou P w H t Q E) t
/-- the context of such a def's body -/
abbrev cxE (P : Program) (w : World) (K : PySem.W.Frag) (mg : Str → Option Value) (B : Heap) (N : List Str) (qual : Str) (sc : Scope) (g : Addr) (cd : Value) (A : Around) (ou : List Env) (t : Shared) (H : Hp) (E : XK) (q : Addr × Obj) : Cx :=
  (L2H.cxH L2.CX0 P w K mg B N qual sc g cd A ou t H E q).nox
theorem okE {P : Program} {w : World} {K : PySem.W.Frag} {mg : Str → Option Value} {base : Heap} {x qual : Str} {st : Stmt} {f : Addr} {fd : FuncData} {N ps : List Str} {k : Nat} {sp : Addr → Value → Option Addr → Sp} (F : Fun K x qual st f fd) (S : FnScope N ps (defScope st)) (cnt : ∀ a cls d vs H Q E, sp a cls d vs H Q E → vs.length = ps.length)
    (body : ∀ (cdv : Value) (A : Around) (ou : List Env) (t : Shared) (H : Hp) (vs : List V) (Q : VK) (E : XK) (q : Addr × Obj) (cls : Value) (d : Option Addr), A.guards = some [] → L2H.RoomH k (A.deeper (envOfC qual (defScope st) t.heap.objs.size f cdv)) →
      Caught (cxE P w K mg base N qual (defScope st) f cdv A ou t H E q) q cls d → sp q.1 cls d vs H Q E →
      ∃ r, PSs (cxE P w K mg base N qual (defScope st) f cdv A ou t H E q) (defBody st) r ∧ r ⟨fun _ H' => Q .non H', Q, fun _ _ => False, fun _ _ => False⟩ (L2.start N vs) H) : FnE P w K mg base (k + 1) f fd ps sp where
  cnt := cnt
  go A ou t H ar us vs Q E q cls d hG room hby hz hf hpin env bi rv z := by
    obtain ⟨oc, od, kV, doc, pm, an, cdv, ct, osl, rfl, lk, hcd⟩ := F.ex
    have kin := env.mod.kin.keeps fun b o e => (env.bs b o e).1
    have lim := env.mod.nolimit.keeps fun b o e => (env.bs b o e).1
    have kinds : ∀ y ∈ ps.zip us, (defScope st).names.lookup y.1 = some .local ∨ ((defScope st).names.lookup y.1 = some .cell ∧ ((cellsFrom (t.heap.objs.size + 1) (defScope st).names []).lookup y.1).isSome = true) := fun y hy =>
      (S.par y.1 (List.of_mem_zip (a := y.1) (b := y.2) hy).1).imp id fun e => ⟨e, PySem.W.cellsFrom_some _ _ _ (.inl e)⟩
    refine codeAny_call_function room.depth (kin _ _ lk) rfl S.co S.gen rfl (PySem.W.codeRec_of kin hcd) (bi _ _ _ _ (wpAny_newFunctionEnv_cells S.kind kinds fun env' he t1 inC => ?_))
    subst he
    have cg : Caught (cxE P w K mg base N qual (defScope st) f cdv A ou t H E q) q cls d := ⟨List.mem_singleton.mpr rfl, hby, hz, hf⟩
    obtain ⟨r, hr, hq⟩ := body cdv A ou t H vs Q E q cls d hG (room.deeper _) cg z
    refine ⟨lim.keeps inC.toInCall.keep, codeAny_func (wpAny_mono (hr.nox.run [] t1 (L2.start N vs) H _ (L2H.inv_startH S hpin env (cnt _ _ _ _ _ _ _ z) rv inC) hq) (fun fl t' res => ?_) (fun e t' res => ?_))⟩
    · match fl, res with
      | .ret u, ⟨v, _, H', J, ru, fin⟩ => exact ⟨v, H', J.os, J.bare, J.base, J.hok, ru, fin⟩
      | .next, ⟨_, H', J, fin⟩ => exact ⟨V.non, H', J.os, J.bare, J.base, J.hok, rfl, fin⟩
      | .brk, ⟨_, _, _, no⟩ => exact no.elim
      | .cont, ⟨_, _, _, no⟩ => exact no.elim
    · exact res
section
variable {X : Cx} {n : Nat} {g : Addr} {fd : FuncData} {ps : List Str} {sp : Addr → Value → Option Addr → Sp} {x : Str} {p pos : Pos} {e : Expr} {es : List Expr} {t : TA} {q : Addr × Obj} {cls : Value} {d : Option Addr}
def tCallE (sp : Sp) (t : TA) : TE := fun σ H Q => t σ H fun vs H1 => sp vs H1 Q fun _ _ _ => False
theorem pe_callE (F : FnE X.prog X.w X.K X.mg X.base n g fd ps sp) (C : Caught X q cls d) (hG : X.A.guards = some []) (room : L2H.RoomH n X.A) (gx : Gl X x) (at' : X.mg x = some (.ref g)) (kp : PySem.W.keepIn X.K (.ref g) = true)
    (bi : Binds X.K fd ps []) (ha : PA X (e :: es) t) (hdb : (x == ("__debug__" : Str)) = false := by decide)
    (he : starEach (e :: es) X.env = (false, eval e X.env) :: starEach es X.env := by rfl) (hpl : (backTo pos (starEach es X.env)).any (·.1) = false := by rfl) : PE X (.Call (.Name x p) (e :: es) [] pos) (tCallE (sp q.1 cls d) t) :=
  ⟨fun pins s σ H Q I z => wpAny_Call_Name_kw (ld_glob I gx at'
    (PySem.W.callWith_K (h₀ := X.base) I.ok.mod.kin kp (thn (ha.run pos pins s σ H _ I z) fun us s1 ⟨vs, H1, J, rv, k⟩ => ⟨J.kIn, by
      have len : us.length = ps.length := rv.length ▸ F.cnt _ _ _ _ _ _ _ k
      have bd := bi s1 us J.kIn (by rw [List.append_nil]; exact len)
      rw [List.append_nil] at bd
      have pinned := J.pin q (List.mem_append_left _ C.mem)
      have okp : L2H.PinOk X.stack H1 s1 q := ⟨pinned.1, pinned.2.1, fun hm => by
        rcases List.mem_cons.mp (J.stkSub q.1 hm) with e | e
        · exact pinned.2.2.1 e
        · exact pinned.2.2.2.1 e, pinned.2.2.2.2⟩
      exact wpAny_call (codeAny_mono (F.go X.A X.stack s1 H1 ⟨us, []⟩ _ _ Q _ q cls d hG room C.by_ C.zn C.fld okp J.env0 bd rv k) fun r s' res => by
        match r, res with
        | .ok (.ret v), res => exact J.after res
        | .error _, res => exact res.elim
        | .ok .next, res => exact res.elim
        | .ok .brk, res => exact res.elim
        | .ok .cont, res => exact res.elim)⟩) he hpl) hdb)⟩
/-- .. in an except suite -/
theorem caughtS {X : Cx} {a : Addr} {oe : Obj} {pn : List (Addr × Obj)} (hz : L2N.Zn cls d oe) (hf : ∃ vs, oe.data = .fields vs) : Caught (X.suite a ((a, oe) :: pn)) (a, oe) cls d := ⟨List.mem_cons_self, .inr rfl, hz, hf⟩
theorem pe_callES {X : Cx} {a : Addr} {oe : Obj} {pn : List (Addr × Obj)} (F : FnE X.prog X.w X.K X.mg X.base n g fd ps sp) (hz : L2N.Zn cls d oe) (hf : ∃ vs, oe.data = .fields vs) (hG : X.A.guards = some []) (room : Room n X.A) (gx : Gl X x) (at' : X.mg x = some (.ref g)) (kp : PySem.W.keepIn X.K (.ref g) = true)
    (bi : Binds X.K fd ps []) (ha : PA (X.suite a ((a, oe) :: pn)) (e :: es) t) (hdb : (x == ("__debug__" : Str)) = false := by decide)
    (he : starEach (e :: es) X.env = (false, eval e X.env) :: starEach es X.env := by rfl) (hpl : (backTo pos (starEach es X.env)).any (·.1) = false := by rfl) : PE (X.suite a ((a, oe) :: pn)) (.Call (.Name x p) (e :: es) [] pos) (tCallE (sp a cls d) t) :=
  pe_callE (X := X.suite a ((a, oe) :: pn)) (q := (a, oe)) F (caughtS hz hf) hG (L2H.roomH_mark room _) gx at' kp bi ha hdb he hpl
theorem pe_xfC (C : Caught X q cls d) {e : Expr} {te : TE} {pos : Pos} {f : Str} (he : PE X e te) (hb : attributeBase e f X.env (eval e X.env) = eval e X.env := by rfl) : PE X (.Attribute e f pos) (tXfA X.K q.1 cls d f te) :=
  pe_xfA C.mem C.zn C.fld he hb
end
theorem unitsE {k : Nat} {A : Around} (r : L2H.RoomH k A) : A.units + 64 < cLine := by have := r.un; omega
section
variable {K : PySem.W.Frag} {a : Addr} {cls : Value} {d : Option Addr} {H : Hp} {Q : VK} {σ : L2.St} {sp : Sp} {t : TA}
theorem r_callE (h : t σ H fun vs H1 => sp vs H1 Q fun _ _ _ => False) : tCallE sp t σ H Q := h
/-- isinstance(e, C), C a class of the text -/
theorem r_isR {C D dd : Addr} {fs : List (Str × V)} {b : Bool} (hd : H dd = some (.xd fs)) (T : ExcC K D) (k : PySem.W.kitOne K (.ref D) (.ref C) = some b) (q : Q (.bl b) H) : rIsX K a (.ref D) (some dd) [.ref a, .ref C] H Q :=
  ⟨_, .ref C, b, D, dd, fs, rfl, fun u r => r, rfl, rfl, hd, T, k, q⟩
/-- isinstance(e, ValueError) -/
theorem r_isT {D dd : Addr} {fs : List (Str × V)} {b : Bool} {c : String} (hd : H dd = some (.xd fs)) (T : ExcC K D) (k : PySem.W.kitOne K (.ref D) (.type c) = some b) (q : Q (.bl b) H) : rIsX K a (.ref D) (some dd) [.ref a, .ty c] H Q :=
  ⟨_, .type c, b, D, dd, fs, rfl, fun u r => r, rfl, rfl, hd, T, k, q⟩
end
end Xk
local macro_rules | `(tactic| fail "ww1") => `(tactic| with_reducible refine Xk.r_callE ?_)

set_option Elab.async false
set_option linter.all false
set_option maxRecDepth 100000
set_option maxHeartbeats 20000000
namespace Xk
open PySem PySem.Spec PyProof.Rows L2
/-! ### classes whose methods raise -/
theorem guards_make {A : Around} (h : A.guards = some []) (C : Addr) (us : List Value) (kw : List (Str × Value)) : (A.under (.builtin "type.__call__" ⟨.ref C :: us, kw⟩)).guards = some [] := by
  obtain ⟨hd, d, fr, gs, u⟩ := A
  dsimp only at h
  subst h
  rfl
section
variable {X : Cx} {W : WX} {k : Nat} {f C : Addr} {fd : FuncData} {ps ks : List Str} {sp : Sp} {x m : Str} {p pos apos : Pos} {o : Expr} {kws : List Keyword} {ta : TE} {t tk : TA} {ff : List Value → List Value → List Value} {fV : List V → List V → List V}
theorem run_makeX {pins : List (Addr × Obj)} {σ : L2.St} {H : Hp} {s : Shared} {Q : VK} {us ws : List Value} {vs zs : List V} (M : Mk X.K C f) (F : FnG X.prog X.w X.K X.mg X.base (L2N.CX X.prog X.w) k f fd ps sp) (hG : X.A.guards = some []) (hr : Room (k + 1) X.A) (hb : KBinds X.K fd ps ks ff fV)
    (tw : L2N.Takes X W) (I : Inv X pins σ H s) (r : Vals vs us) (rz : Vals zs ws)
    (h : ∀ x dx, H x = none → H dx = none → dx ≠ x → sp (fV (.ref x :: vs) zs) (upd (upd H dx (.own x)) x (.ins C dx [])) (fun v H2 => v = .non ∧ Q (.ref x) H2) (WE W σ)) :
    wpAny (model X.prog X.w) X.A (PySem.call (.ref C) us (ks.zip ws)) (EP X pins σ Q) X.xe s := by
  have hq := h (s.heap.objs.size + 1) s.heap.objs.size (I.hok.fresh (Nat.le_succ _)) (I.hok.fresh (Nat.le_refl _)) (Nat.ne_of_lt (Nat.lt_succ_self _))
  have I2 := Inv.made (C := C) I
  have r1 : Vals (V.ref (s.heap.objs.size + 1) :: vs) (Value.ref (s.heap.objs.size + 1) :: us) := .cons rfl r
  have r2 := hb.rel r1 rz
  have hl : (ff (Value.ref (s.heap.objs.size + 1) :: us) ws).length = ps.length := r2.length ▸ F.cnt _ _ _ _ hq
  refine wpAny_call (make_map (f := f) I.kIn M.makes M.init (beq_iff_eq.mp M.fn) (codeAny_mono (F.go _ X.stack _ _ ⟨Value.ref (s.heap.objs.size + 1) :: us, ks.zip ws⟩ (ff (Value.ref (s.heap.objs.size + 1) :: us) ws) _ _ (WE W σ) (guards_make hG C us (ks.zip ws)) (hr.make C us (ks.zip ws))
    (I2.env0.make C us (ks.zip ws)) (hb.to _ (Value.ref (s.heap.objs.size + 1) :: us) ws I2.kIn hl) r2 hq) fun r s' hq' => ?_))
  cases r with
  | error e => exact L2N.passAt tw σ pins _ _ e s' I2 hq'
  | ok fl =>
    cases fl with
    | ret u =>
      obtain ⟨v, H', I3, rv, ev, q3⟩ := I2.after hq'
      subst ev
      exact ⟨rv, ⟨V.ref (s.heap.objs.size + 1), H', I3, rfl, q3⟩⟩
    | next => exact False.elim hq'
    | brk => exact False.elim hq'
    | cont => exact False.elim hq'
/-- C(k = v, ..), whose __init__ may raise -/
def tMakeX (C : Addr) (sp : Sp) (fV : List V → List V → List V) (W : WX) (tk : TA) : TE := fun σ H Q => tk σ H fun zs H1 => ∀ x dx, H1 x = none → H1 dx = none → dx ≠ x → sp (fV [.ref x] zs) (upd (upd H1 dx (.own x)) x (.ins C dx [])) (fun v H2 => v = .non ∧ Q (.ref x) H2) fun cls d H' => W cls d σ H'
theorem pe_makeXK0 (M : Mk X.K C f) (F : FnG X.prog X.w X.K X.mg X.base (L2N.CX X.prog X.w) k f fd ps sp) (hG : X.A.guards = some []) (hr : Room (k + 1) X.A) (hg : Gl X x) (hm : X.mg x = some (.ref C)) (hb : KBinds X.K fd ps ks ff fV)
    (tw : L2N.Takes X W) (hkw : PK X kws tk) (hdb : (x == ("__debug__" : Str)) = false := by decide)
    (all' : (backToKw pos (keywordEach kws X.env)).all (·.1.isSome) = true := by rfl) (nms : (backToKw pos (keywordEach kws X.env)).filterMap (·.1) = ks := by rfl)
    (hpl : ((backTo pos (starEach [] X.env)).any (·.1) || (backToKw pos (keywordEach kws X.env)).any (·.1.isNone)) = false := by rfl) :
    PE X (.Call (.Name x p) [] kws pos) (tMakeX C sp fV W tk) := by
  subst nms
  exact ⟨fun pins s σ H Q I z => wpAny_Call_Name_kw (ld_glob I hg hm
    (PySem.W.callWith_KW0 (h₀ := X.base) I.ok.mod.kin M.kp all' (thn (hkw.run pos pins s σ H _ I z) fun ws s2 ⟨zs, H2, I2, rz, q2⟩ => ⟨I2.kIn, run_makeX M F hG hr hb tw I2 .nil rz q2⟩) hpl) hdb)⟩
/-- o.m(k = v, ..), which may raise -/
def tMethX (C : Addr) (m : Str) (sp : Sp) (fV : List V → List V → List V) (W : WX) (ta : TE) (tk : TA) : TE := fun σ H Q => ta σ H fun x H1 => ∃ a dx fs, x = .ref a ∧ H1 a = some (.ins C dx fs) ∧ fs.lookup m = none ∧ tk σ H1 fun zs H2 => sp (fV [x] zs) H2 Q fun cls d H' => W cls d σ H'
theorem pe_methXK0 {pl : Sem Bool} (he : PE X o ta) (c : Cls X.K C) (hm : Meth X.K C m f) (F : FnG X.prog X.w X.K X.mg X.base (L2N.CX X.prog X.w) k f fd ps sp) (hG : X.A.guards = some []) (hr : Room k X.A) (hb : KBinds X.K fd ps ks ff fV)
    (tw : L2N.Takes X W) (hkw : PK X kws tk)
    (all' : (backToKw pos (keywordEach kws X.env)).all (·.1.isSome) = true := by rfl) (nms : (backToKw pos (keywordEach kws X.env)).filterMap (·.1) = ks := by rfl)
    (hpl : ((backTo pos (starEach [] X.env)).any (·.1) || (backToKw pos (keywordEach kws X.env)).any (·.1.isNone)) = false := by rfl)
    (ht : eval (.Call (.Attribute o m apos) [] kws pos) X.env = (do
      let ov ← eval o X.env
      standAt apos.atName
      let (f, first) ← holding [ov] (getMethod ov m pl)
      callWith pos f first (backTo pos (starEach [] X.env)) (backToKw pos (keywordEach kws X.env))) := by rfl) :
    PE X (.Call (.Attribute o m apos) [] kws pos) (tMethX C m sp fV W ta tk) := by
  subst nms
  refine ⟨fun pins s σ H Q I h => ?_⟩
  refine PySem.W.methodCall_KW (pl := pl) (thn (he.run pins s σ H _ I h) fun u s1 ⟨x, H1, I1, rx, a, dx, fs, ex, ea, l, q⟩ => ?_) ht
  subst ex
  obtain rfl : u = Value.ref a := rx
  refine getmeth_ok I1 ea c hm l ?_
  refine PySem.W.callWith_KW0 (first := [.ref a]) (h₀ := X.base) I1.ok.mod.kin hm.kp all' (thn (hkw.run pos pins s1 σ H1 _ I1 q) fun ws s2 ⟨zs, H2, I2, rz, q2⟩ => ⟨I2.kIn, ?_⟩) hpl
  exact goXK (us := [.ref a]) (vs := [.ref a]) F hG hr hb tw I2 (.cons rfl .nil) rz q2
end
section
variable {K : PySem.W.Frag} {σ : L2.St} {H : Hp} {Q : VK} {C : Addr} {sp : Sp} {fV : List V → List V → List V} {W : WX} {ta : TE} {tk : TA} {m : Str}
theorem r_makeX (h : tk σ H fun zs H1 => ∀ x dx, H1 x = none → H1 dx = none → dx ≠ x → sp (fV [.ref x] zs) (upd (upd H1 dx (.own x)) x (.ins C dx [])) (fun v H2 => v = .non ∧ Q (.ref x) H2) fun cls d H' => W cls d σ H') : tMakeX C sp fV W tk σ H Q := h
theorem r_methX (h : ta σ H fun x H1 => ∃ a dx fs, x = .ref a ∧ H1 a = some (.ins C dx fs) ∧ fs.lookup m = none ∧ tk σ H1 fun zs H2 => sp (fV [x] zs) H2 Q fun cls d H' => W cls d σ H') : tMethX C m sp fV W ta tk σ H Q := h
end
/-! ### isinstance of a caught exception, by a tuple of classes -/
def rIsXT (K : PySem.W.Frag) (a : Addr) (cls : Value) (d : Option Addr) : List V → Hp → VK → Prop := fun xs H Q => ∃ (tp : Addr) (cs : List V) (us : List Value) (b : Bool) (D dd : Addr) (fs : List (Str × V)), xs = [.ref a, .ref tp] ∧ H tp = some (.tup cs) ∧ Paired ClsV cs us ∧ cls = .ref D ∧ d = some dd ∧ H dd = some (.xd fs) ∧ ExcC K D ∧ PySem.W.kitAny K (.ref D) us = some b ∧ Q (.bl b) H
theorem call_isXT {X : Cx} {q : Addr × Obj} {cls : Value} {d : Option Addr} (C : Caught X q cls d) : CallR X (.builtin "isinstance") (rIsXT X.K q.1 cls d) := by
  intro pins s σ H xs us Q I rel ⟨tp, cs, ws, b, D, dd, fs, ex, hT, kk, ec, ed, ea, T, kit, k⟩
  subst ex ec ed
  cases rel with
  | @cons _ u0 _ us0 r0 rest =>
  cases rest with
  | @cons _ u1 _ us1 r1 rest =>
  cases rest
  obtain rfl : u0 = Value.ref q.1 := r0
  obtain rfl : u1 = Value.ref tp := r1
  obtain ⟨_, its, rv, o, h1, h2, n, h3⟩ := (show ObjOk X.prog X.w H s.heap tp (.tup cs) from I.hok tp _ hT)
  have e3 := ClsV.all kk rv
  subst e3
  obtain ⟨oc, od', dt, sl⟩ := o
  simp only at h2 h3
  subst h2 h3
  have there := (I.pin q (List.mem_append_left _ C.mem)).1
  obtain ⟨mA, hns, hr⟩ : ObjOk X.prog X.w H s.heap dd (.xd fs) := I.hok dd _ ea
  obtain ⟨od, ho, hl⟩ := lookIn_ns hns
  have inst : PySem.W.InstAt s.heap q.1 q.2 D (some od) := ⟨there, C.zn.1, by obtain ⟨vs, hd⟩ := C.fld; unfold PySem.W.notCls; rw [hd], by rw [C.zn.2.1]; exact ho⟩
  have some_ : (PySem.W.clsIn X.K D).isSome = true := by
    obtain ⟨cd, hc, _⟩ := PySem.W.any_some T.hd
    rw [hc]; rfl
  exact PySem.W.kia_tup (PySem.W.kitx_exc some_ T.hg T.hk T.hs T.ha T.hn T.ht T.hm) I.kIn inst h1 kit (fun z => nomatch z) fun tk => ⟨.bl b, H, I.kept (t' := tk) fun _ _ g => g, rfl, k⟩
theorem r_isXT {K : PySem.W.Frag} {a tp D dd : Addr} {H : Hp} {Q : VK} {cs : List V} {us : List Value} {fs : List (Str × V)} {b : Bool} (hd : H dd = some (.xd fs)) (T : ExcC K D) (hT : H tp = some (.tup cs)) (kk : Paired ClsV cs us) (k : PySem.W.kitAny K (.ref D) us = some b) (q : Q (.bl b) H) : rIsXT K a (.ref D) (some dd) [.ref a, .ref tp] H Q :=
  ⟨tp, cs, us, b, D, dd, fs, rfl, hT, kk, rfl, rfl, hd, T, k, q⟩
section
variable {X : Cx}
/-- l.count(x), flat values -/
def rCntF (K : PySem.W.Frag) : V → List V → Hp → VK → Prop := fun x xs H Q => ∃ (p : Addr) (ys : List V) (y : V), x = .ref p ∧ xs = [y] ∧ SqL K H p ys ∧ flatV y = true ∧ ys.all flatV = true ∧ Q (.int (ys.countP (fun z => eqV z y) : Nat)) H
theorem cnt_eqU {x : V} : ∀ {xs : List V} {us : List Value}, Vals xs us → xs.all flatV = true → us.countP (eqU x) = xs.countP fun y => eqV y x
  | _, _, .nil, _ => rfl
  | y :: xs, u :: us, .cons r t, f => by
    rw [List.all_cons, Bool.and_eq_true] at f
    rw [List.countP_cons, List.countP_cons, cnt_eqU t f.2, eqU_of r f.1]
theorem mt_lcountF : MtR X "list.count" (rCntF X.K) := by
  intro pins s σ H x xs v us Q I rx rxs h
  obtain ⟨p, ys, y, rfl, rfl, hs, fy, fys, q⟩ := h
  cases rx
  obtain ⟨u, rfl, ru⟩ := rxs.one
  obtain ⟨its, rv, ⟨⟨cls, dd, data, sl⟩, n, ho, hc, hdn, hd⟩, hlen⟩ := I.list hs
  simp only at hc hd
  subst hc hd
  refine call_meets PySem.F.slot_list_count ⟨_, ho, rfl⟩ PySem.F.entry_list_count (PySem.F.args_list_count_2 _ _)
    (SeqAt.list_countAt p its.toArray n dd sl u (eqU y)) ⟨ho, fun z hz => mem_eqAt ru fy rv fys z (by simpa using hz), ?_⟩
  refine ⟨.int (ys.countP (fun z => eqV z y) : Nat), H, I.tok _, ⟨s.toks, ?_⟩, q⟩
  show Value.int ((its.toArray.toList.countP (eqU y) : Nat) : Int) s.toks = _
  rw [show its.toArray.toList = its from rfl, cnt_eqU rv fys]
theorem lcountF (K : PySem.W.Frag) (hK : X.K = K := by rfl) : MtR X "list.count" (rCntF K) := hK ▸ mt_lcountF
end
end Xk
local macro_rules | `(tactic| fail "ww1") => `(tactic| with_reducible first | refine Xk.r_makeX ?_ | refine Xk.r_methX ?_)

set_option Elab.async false
set_option linter.all false
set_option maxRecDepth 100000
set_option maxHeartbeats 20000000
namespace Xk
open PySem PySem.Spec PyProof.Rows L2
/-! ### try .. except x as n: suite, and the exception held on behind -/
/-- what the clause wishes, where the rest is u and knows the exception -/
def wHold (K : PySem.W.Frag) (c : Value) (i : Nat) (ts u : Addr → Value → Option Addr → TS) (Wout : WX) (D : Ends) : WX := fun cls d σ H =>
  ∃ b, PySem.W.exmOne K cls c = some b ∧ (b = true → ∀ a, H a = none → ts a cls d ⟨fun σ' H' => u a cls d D (σ'.set i none) H', D.rt, fun σ' H' => D.bk (σ'.set i none) H', fun σ' H' => D.ct (σ'.set i none) H'⟩ (σ.set i (some (.ref a))) H) ∧ (b = false → Wout cls d σ H)
section
variable {X : Cx} {pins : List (Addr × Obj)} {σ : L2.St} {H : Hp} {s : Shared} {a : Addr} {oe : Obj}
/-- behind the suite, the exception still pinned -/
theorem Inv_held (I : Inv (X.suite a ((a, oe) :: (X.pn ++ pins))) [] σ H s) (ok : X.Ok) : Inv X ((a, oe) :: pins) σ H s :=
  ⟨ok, I.os, I.bare, I.base, I.loc, I.cell, I.free, I.freeC, fun p hp => I.pin p (by
    rw [List.append_nil]
    rcases List.mem_append.mp hp with h | h
    · exact List.mem_cons_of_mem _ (List.mem_append_left _ h)
    · rcases List.mem_cons.mp h with e | h
      · rw [e]; exact List.mem_cons_self
      · exact List.mem_cons_of_mem _ (List.mem_append_right _ h)), I.hok, I.len⟩
theorem Inv_hold (I : Inv X ((a, oe) :: pins) σ H s) : Inv (X.tr ((a, oe) :: X.pn) X.xe) pins σ H s :=
  ⟨I.ok.toTry _ _, I.os, I.bare, I.base, I.loc, I.cell, I.free, I.freeC, fun p hp => I.pin p (by
    rcases List.mem_cons.mp hp with e | h
    · rw [e]; exact List.mem_append_right _ List.mem_cons_self
    · rcases List.mem_append.mp h with h | h
      · exact List.mem_append_left _ h
      · exact List.mem_append_right _ (List.mem_cons_of_mem _ h)), I.hok, I.len⟩
theorem Inv_drop {pn : List (Addr × Obj)} (I : Inv (X.tr ((a, oe) :: X.pn) X.xe) pins σ H s) (ok : X.Ok) : Inv X pins σ H s :=
  ⟨ok, I.os, I.bare, I.base, I.loc, I.cell, I.free, I.freeC, fun p hp => I.pin p (List.mem_cons_of_mem _ hp), I.hok, I.len⟩
theorem Inv_drop0 {q : Addr × Obj} (I : Inv X (q :: pins) σ H s) : Inv X pins σ H s :=
  ⟨I.ok, I.os, I.bare, I.base, I.loc, I.cell, I.free, I.freeC, fun p hp => I.pin p (by
    rcases List.mem_append.mp hp with h | h
    · exact List.mem_append_left _ h
    · exact List.mem_append_right _ (List.mem_cons_of_mem _ h)), I.hok, I.len⟩
end
section
variable {X : Cx} {x n : Str} {c : Value} {i : Nat} {body suite rest : List Stmt} {b₀ : Stmt} {np pos pos' : Pos} {tb : WX → TS} {ts u : Addr → Value → Option Addr → TS} {tr : TS} {Wout : WX}
theorem pss_hold (hs : X.stack = X.env :: X.outer) (hf : X.env.frame = some X.env.locals) (hN : X.N.Nodup) (hi : X.N[i]? = some n) (hln : X.env.kindOf n = some .local) (hc : Names X x c) (tk : L2N.Takes X Wout)
    (hb : ∀ (W : WX) (pn : List (Addr × Obj)) (xe : Value → Shared → Prop), L2N.Takes (X.tr pn xe) W → PassesOwn (model X.prog X.w) X.A X.env xe → PSs (X.tr pn xe) body (tb W))
    (hsu : ∀ (a : Addr) (oe : Obj) (cls : Value) (d : Option Addr) (pn : List (Addr × Obj)), L2N.Zn cls d oe → (∃ vs, oe.data = .fields vs) → PSs (X.suite a ((a, oe) :: pn)) (b₀ :: suite) (ts a cls d))
    (hr : PSs X rest tr)
    (hu : ∀ (a : Addr) (oe : Obj) (cls : Value) (d : Option Addr), L2N.Zn cls d oe → (∃ vs, oe.data = .fields vs) → PSs (X.tr ((a, oe) :: X.pn) X.xe) rest (u a cls d)) :
    PSs X (.Try body [.ExceptHandler (some (.Name x np)) (some n) (b₀ :: suite) pos'] [] [] pos :: rest) (fun D σ H => tb (wHold X.K c i ts u Wout D) { D with nx := tr D } σ H) := by
  refine ⟨fun pins s σ H D I h => wpAny_execs_cons (wpAny_Try_except ?_)⟩
  have ok := I.ok
  have hfr : X.A.frames = some (X.env :: X.outer) := by rw [ok.frames, hs]
  -- what is due behind the statement
  obtain ⟨Mid, eM⟩ : ∃ Mid : Flow → Shared → Prop, Mid = fun f s' => match f with
    | .next => wpAny (model X.prog X.w) X.A (execs rest X.env) (SP X pins D) X.xe s'
    | f => SP X pins D f s' := ⟨_, rfl⟩
  have key : L2N.Takes (X.tr (X.pn ++ pins) (fun e s₁ => wpAny (model X.prog X.w) X.A (noteFrame e X.env) (fun _ s₂ => wpAny (model X.prog X.w) X.A (setFlight e none) (fun _ s₃ =>
    wpAny (model X.prog X.w) X.A (handleBy e X.env [.ExceptHandler (some (.Name x np)) (some n) (b₀ :: suite) pos']) Mid X.xe s₃) X.xe s₂) X.xe s₁)) (wHold X.K c i ts u Wout D) := fun v s' xx => ?_
  · have E0 := (hb (wHold X.K c i ts u Wout D) _ _ key PassesOwn.looking).run [] s σ H { D with nx := tr D } (I.toTry _) h
    subst eM
    refine wpAny_mono E0 (fun f s1 z => ?_) (fun e s1 z => z)
    cases f with
    | next =>
      obtain ⟨σ', H', J, q⟩ := z
      exact wpAny_execs_nil (hr.run pins s1 σ' H' D (J.ofTry ok) q)
    | ret w => obtain ⟨v, σ', H', J, rv, q⟩ := z; exact ⟨v, σ', H', J.ofTry ok, rv, q⟩
    | brk => obtain ⟨σ', H', J, q⟩ := z; exact ⟨σ', H', J.ofTry ok, q⟩
    | cont => obtain ⟨σ', H', J, q⟩ := z; exact ⟨σ', H', J.ofTry ok, q⟩
  · obtain ⟨a, B, sI, pins', σ', H', cls, d, rfl, J', nb, up, sky, na, os, ag, b, hb1, hyes, hno⟩ := xx
    have J : Inv X pins σ' H' sI := J'.ofTry ok
    rw [hs] at sky
    show wpAny (model X.prog X.w) X.A (noteFrame (.ref a) X.env) _ _ _
    refine L2N.Sky.land L2N.Zn.steady hfr hf sky fun h3 fl up3 => ?_
    have J3 : Inv X pins σ' H' { s' with heap := h3 } := J.landed nb fl.1 (up.trans up3) os ag
    obtain ⟨o3, w3, g3, z3, f3⟩ := fl.there
    have away : a ∉ frs (X.env :: X.outer) := fun hm => by
      obtain ⟨_, o', e', hnf⟩ := fl.2.2.1.mem hm
      rw [g3] at e'
      cases e'
      exact hnf _ f3
    have nL : a ≠ X.env.locals := fun z => away (List.mem_filterMap.mpr ⟨X.env, List.mem_cons_self, by rw [hf, z]⟩)
    have nF : a ∉ X.fs := fun hm => by
      obtain ⟨e, he, q⟩ := List.mem_filterMap.mp hm
      exact away (List.mem_filterMap.mpr ⟨e, List.mem_cons_of_mem _ he, q⟩)
    have S3 := J3.suite g3 f3 na nL nF
    have LT : PySem.W.Looks (model X.prog X.w) h3 (typeOf (.ref a)) cls := fun A Q E s k q => wpAny_typeOf_ref (k _ _ g3) (by rw [z3.1]; exact q)
    have LM := PySem.W.exm_one (M := model X.prog X.w) J3.kIn LT hb1
    have test : ∀ {Q : Value → Shared → Prop} {E : Value → Shared → Prop}, Q c { s' with heap := h3 } → wpAny (model X.prog X.w) (X.A.mark (some (.ref a))) (eval (.Name x np) X.env) Q E { s' with heap := h3 } := fun {Q E} q => by
      obtain ⟨gx, dx, at' | ⟨no, iv, nn⟩⟩ := hc
      · exact ld_glob (X := X.suite a ((a, o3) :: (X.pn ++ pins))) S3 gx at' q dx
      · exact ld_blt (X := X.suite a ((a, o3) :: (X.pn ++ pins))) S3 gx no iv q nn dx
    refine wpAny_handleBy_cons (codeAny_handlers_test (test (LM.here ?_))) (by intro q; cases q)
    cases b with
    | false =>
      refine wpAny_handleBy_nil ?_
      obtain ⟨_, _, _, o5, w5, T5, oT5, t5, g5, z5, f5, h15, hr5⟩ := id fl
      unfold PySem.passOn
      refine wpAny_bind (wpAny_field g5 f5 h15 ?_)
      rw [if_neg (show ¬ ((Value.ref T5 == Value.none) = true) from by simp)]
      have fin : wpAny (model X.prog X.w) X.A (setFlight (.ref a) X.env.frame) (fun _ s4 => wpAny (model X.prog X.w) X.A (throw (.ref a) : Sem Flow) Mid X.xe s4) X.xe { s' with heap := h3 } := by
        rw [hf]
        refine HandSPX.setFlight_upZ fl fun h4 held up4 => wpAny_throw (tk _ _ ?_)
        exact ⟨a, B, sI, pins, σ', H', cls, d, rfl, J, nb, (up.trans up3).trans up4, .inr (.inr (by rw [hs]; exact held)), na, os, ag, hno rfl⟩
      first
        | exact wpAny_bind (wpAny_pure (wpAny_bind fin))
        | exact wpAny_bind fin
    | true =>
      refine codeAny_handlers_suite_as (HandSPX.lands_againZ fl fun h4 fl4 up4 => ?_)
      have J4 : Inv X pins σ' H' { s' with heap := h4 } := J.landed nb fl4.1 ((up.trans up3).trans up4) os ag
      obtain ⟨o4, w4, g4, z4, f4⟩ := fl4.there
      have S4 := J4.suite g4 f4 na nL nF
      refine store_ok (X := X.suite a ((a, o4) :: (X.pn ++ pins))) (v := .ref a) S4 hN hi (.inl hln) rfl (fun s5 S5 => ?_) (.inr hln)
      refine wpAny_mono ((hsu a o4 cls d (X.pn ++ pins) z4 ⟨_, f4⟩).run [] s5 _ H' _ S5 (hyes rfl a na)) (fun f s6 z => ?_) (fun _ _ z => False.elim z)
      have gone : ∀ {σ6 : L2.St} {H6 : Hp} {Q : Shared → Prop}, Inv (X.suite a ((a, o4) :: (X.pn ++ pins))) [] σ6 H6 s6 → (∀ s7, Inv X ((a, o4) :: pins) (σ6.set i none) H6 s7 → Q s7) →
          wpAny (model X.prog X.w) X.A (do bindName X.env n .none; unbindBehindTheSuite X.env n pos') (fun _ s7 => Q s7) X.xe s6 := fun {σ6 H6 Q} S6 hq => gone_ok (Inv_held S6 ok) hN hi hln hq
      subst eM
      cases f with
      | next =>
        obtain ⟨σ6, H6, S6, q⟩ := z
        refine gone S6 fun s7 J7 => ?_
        refine wpAny_mono ((hu a o4 cls d z4 ⟨_, f4⟩).run pins s7 _ H6 D (Inv_hold J7) q) (fun f s8 z => ?_) (fun e s1 z => z)
        cases f with
        | next => obtain ⟨σ', H', J, q⟩ := z; exact ⟨σ', H', Inv_drop (pn := []) J ok, q⟩
        | ret w => obtain ⟨v, σ', H', J, rv, q⟩ := z; exact ⟨v, σ', H', Inv_drop (pn := []) J ok, rv, q⟩
        | brk => obtain ⟨σ', H', J, q⟩ := z; exact ⟨σ', H', Inv_drop (pn := []) J ok, q⟩
        | cont => obtain ⟨σ', H', J, q⟩ := z; exact ⟨σ', H', Inv_drop (pn := []) J ok, q⟩
      | brk => obtain ⟨σ6, H6, S6, q⟩ := z; exact gone S6 fun s7 J7 => ⟨_, _, Inv_drop0 J7, q⟩
      | cont => obtain ⟨σ6, H6, S6, q⟩ := z; exact gone S6 fun s7 J7 => ⟨_, _, Inv_drop0 J7, q⟩
      | ret w => obtain ⟨v, σ6, H6, S6, rv, q⟩ := z; exact gone S6 fun s7 J7 => ⟨_, _, _, Inv_drop0 J7, rv, q⟩
end
/-- the exception that is held, where nothing is handled -/
theorem caughtH {X : Cx} {a : Addr} {oe : Obj} {cls : Value} {d : Option Addr} {k : Nat} (hr : Room k X.A) (hz : L2N.Zn cls d oe) (hf : ∃ vs, oe.data = .fields vs) : Caught (X.tr ((a, oe) :: X.pn) X.xe) (a, oe) cls d := ⟨List.mem_cons_self, .inl hr.hd, hz, hf⟩
section
variable {X : Cx} {a : Addr} {oe : Obj} {cls : Value} {d : Option Addr} {n k : Nat} {g : Addr} {fd : FuncData} {ps : List Str} {sp : Addr → Value → Option Addr → Sp} {x : Str} {p pos : Pos} {e : Expr} {es : List Expr} {t : TA}
theorem pe_callEH (F : FnE X.prog X.w X.K X.mg X.base n g fd ps sp) (hz : L2N.Zn cls d oe) (hf : ∃ vs, oe.data = .fields vs) (hG : X.A.guards = some []) (hr : Room n X.A) (gx : Gl X x) (at' : X.mg x = some (.ref g)) (kp : PySem.W.keepIn X.K (.ref g) = true)
    (bi : Binds X.K fd ps []) (ha : PA (X.tr ((a, oe) :: X.pn) X.xe) (e :: es) t) (hdb : (x == ("__debug__" : Str)) = false := by decide)
    (he : starEach (e :: es) X.env = (false, eval e X.env) :: starEach es X.env := by rfl) (hpl : (backTo pos (starEach es X.env)).any (·.1) = false := by rfl) : PE (X.tr ((a, oe) :: X.pn) X.xe) (.Call (.Name x p) (e :: es) [] pos) (tCallE (sp a cls d) t) :=
  pe_callE (X := X.tr ((a, oe) :: X.pn) X.xe) (q := (a, oe)) F (caughtH hr hz hf) hG (L2H.roomH_of hr) gx at' kp bi ha hdb he hpl
theorem pe_xfH {f : Str} {te : TE} (hr : Room k X.A) (hz : L2N.Zn cls d oe) (hf : ∃ vs, oe.data = .fields vs) (he : PE (X.tr ((a, oe) :: X.pn) X.xe) e te) (hb : attributeBase e f X.env (eval e X.env) = eval e X.env := by rfl) :
    PE (X.tr ((a, oe) :: X.pn) X.xe) (.Attribute e f pos) (tXfA X.K a cls d f te) := pe_xfC (X := X.tr ((a, oe) :: X.pn) X.xe) (caughtH hr hz hf) he hb
end
/-- an expression that is not come to -/
theorem pe_never {X : Cx} {e : Expr} : PE X e (fun _ _ _ => False) := ⟨fun _ _ _ _ _ _ z => z.elim⟩
end Xk

namespace My
def IsArr (l : List Int) : Prop := l.Nodup ∧ ∀ v ∈ l, 1 ≤ v ∧ v ≤ l.length
/-- how many of the first p values are at most q -/
def cnt (l : List Int) (p q : Nat) : Nat := ((l.take p).filter (fun v => decide (v ≤ (q : Int)))).length
theorem cnt_zero (l : List Int) (q : Nat) : cnt l 0 q = 0 := by simp [cnt]
theorem cnt_succ {l : List Int} {p : Nat} (h : p < l.length) (q : Nat) : cnt l (p + 1) q = cnt l p q + if l[p] ≤ (q : Int) then 1 else 0 := by
  unfold cnt
  rw [List.take_add_one, List.getElem?_eq_getElem h, List.filter_append, List.length_append]
  by_cases e : l[p] ≤ (q : Int) <;> simp [e]
def AtMost (a b : List Int) : Prop := ∀ p q : Nat, cnt b p q ≤ cnt a p q
theorem cnt_all {l : List Int} {p q : Nat} (h : ∀ v ∈ l, v ≤ (q : Int)) : cnt l p q = min p l.length := by
  unfold cnt
  rw [List.filter_eq_self.mpr fun v hv => decide_eq_true (h v (List.mem_of_mem_take hv)), List.length_take]
theorem cnt_none {l : List Int} {p : Nat} (h : ∀ v ∈ l, 1 ≤ v) : cnt l p 0 = 0 := by
  unfold cnt
  rw [List.length_eq_zero_iff, List.filter_eq_nil_iff]
  intro v hv
  have := h v (List.mem_of_mem_take hv)
  simp; omega
theorem cnt_over {l : List Int} {p q : Nat} (h : l.length ≤ p) : cnt l p q = cnt l l.length q := by
  unfold cnt
  rw [List.take_of_length_le h, List.take_of_length_le (Nat.le_refl _)]
/-- counts with limits below the size tell everything -/
theorem most_iff {a b : List Int} (ha : IsArr a) (hb : IsArr b) (hl : a.length = b.length) : AtMost a b ↔ ∀ p, p ≤ a.length → ∀ q, q < a.length → cnt b p q ≤ cnt a p q := by
  refine ⟨fun h p _ q _ => h p q, fun h p q => ?_⟩
  have key : ∀ p, p ≤ a.length → cnt b p q ≤ cnt a p q := fun p hp => by
    by_cases hq : q < a.length
    · exact h p hp q hq
    · rw [cnt_all fun v hv => Int.le_trans (hb.2 v hv).2 (by omega), cnt_all fun v hv => Int.le_trans (ha.2 v hv).2 (by omega), hl]
      exact Nat.le_refl _
  by_cases hp : p ≤ a.length
  · exact key p hp
  · rw [cnt_over (l := a) (by omega), cnt_over (l := b) (by omega), ← hl]
    exact key _ (Nat.le_refl _)
noncomputable instance (a b : List Int) : Decidable (AtMost a b) := Classical.propDecidable _
theorem arr_asc {l : List Int} {n : Nat} (h : l.Perm ((List.range n).map fun (i : Nat) => (1 + i : Int))) : IsArr l := by
  have hl : l.length = n := by rw [h.length_eq]; simp
  refine ⟨h.symm.nodup ?_, fun v hv => ?_⟩
  · rw [List.Nodup, List.pairwise_map]
    exact List.nodup_range.imp fun h q => h (by omega)
  · obtain ⟨k, hk, rfl⟩ := List.mem_map.mp (h.mem_iff.mp hv)
    have := List.mem_range.mp hk
    omega
/-- a row of numbers by a function of the place -/
def tab (n : Nat) (f : Nat → Int) : List Int := (List.range n).map f
theorem tab_len (n : Nat) (f : Nat → Int) : (tab n f).length = n := by simp [tab]
theorem tab_get {n : Nat} {f : Nat → Int} {k : Nat} (h : k < n) : (tab n f)[k]? = some (f k) := by simp [tab, h]
theorem tab_set {n : Nat} {f : Nat → Int} {k : Nat} {v : Int} : (tab n f).set k v = tab n fun q => if q = k then v else f q := by
  apply List.ext_getElem
  · simp [tab]
  · intro i h1 h2
    rw [List.getElem_set]
    simp only [tab, List.getElem_map, List.getElem_range]
    by_cases e : k = i
    · subst e; simp
    · rw [if_neg e, if_neg (fun q => e q.symm)]
theorem tab_congr {n : Nat} {f g : Nat → Int} (h : ∀ q, q < n → f q = g q) : tab n f = tab n g := by
  unfold tab
  exact List.map_congr_left fun q hq => h q (List.mem_range.mp hq)
theorem tab_const (n : Nat) (c : Int) : List.replicate n c = tab n fun _ => c := by
  apply List.ext_getElem <;> simp [tab]
end My
namespace My
/-! ### sorted lists -/
def ins (x : Int) : List Int → List Int
  | [] => [x]
  | y :: r => if x ≤ y then x :: y :: r else y :: ins x r
def srt : List Int → List Int
  | [] => []
  | x :: r => ins x (srt r)
theorem ins_perm (x : Int) : ∀ l : List Int, (ins x l).Perm (x :: l)
  | [] => List.Perm.refl _
  | y :: r => by
    unfold ins
    split
    · exact List.Perm.refl _
    · exact ((ins_perm x r).cons y).trans (List.Perm.swap x y r)
theorem srt_perm : ∀ l : List Int, (srt l).Perm l
  | [] => List.Perm.refl _
  | x :: r => (ins_perm x (srt r)).trans ((srt_perm r).cons x)
theorem ins_up (x : Int) : ∀ l : List Int, l.Pairwise (· ≤ ·) → (ins x l).Pairwise (· ≤ ·)
  | [], _ => List.pairwise_singleton _ _
  | y :: r, h => by
    have h1 := List.pairwise_cons.mp h
    unfold ins
    split
    · rename_i hxy
      exact List.pairwise_cons.mpr ⟨fun z hz => by
        rcases List.mem_cons.mp hz with e | e
        · rw [e]; exact hxy
        · exact Int.le_trans hxy (h1.1 z e), h⟩
    · refine List.pairwise_cons.mpr ⟨fun z hz => ?_, ins_up x r h1.2⟩
      rcases List.mem_cons.mp ((ins_perm x r).mem_iff.mp hz) with e | e
      · rw [e]; omega
      · exact h1.1 z e
theorem srt_up : ∀ l : List Int, (srt l).Pairwise (· ≤ ·)
  | [] => List.Pairwise.nil
  | x :: r => ins_up x _ (srt_up r)
theorem up_unique : ∀ {l m : List Int}, l.Perm m → l.Pairwise (· ≤ ·) → m.Pairwise (· ≤ ·) → l = m
  | [], m, h, _, _ => (h.nil_eq).symm ▸ rfl
  | x :: r, m, h, h1, h2 => by
    cases m with
    | nil => exact absurd h.eq_nil (by simp)
    | cons y t =>
      have a1 := List.pairwise_cons.mp h1
      have a2 := List.pairwise_cons.mp h2
      have e : x = y := by
        have hx : x ∈ y :: t := h.mem_iff.mp List.mem_cons_self
        have hy : y ∈ x :: r := h.mem_iff.mpr List.mem_cons_self
        rcases List.mem_cons.mp hx with q | q
        · exact q
        · rcases List.mem_cons.mp hy with q' | q'
          · exact q'.symm
          · have := a1.1 y q'; have := a2.1 x q; omega
      subst e
      rw [up_unique ((List.perm_cons x).mp h) a1.2 a2.2]
theorem srt_is {l m : List Int} (h : m.Perm l) (u : m.Pairwise (· ≤ ·)) : m = srt l := up_unique (h.trans (srt_perm l).symm) u (srt_up l)
theorem srt_len (l : List Int) : (srt l).length = l.length := (srt_perm l).length_eq
/-- the values at the places i to j sorted -/
def seg (l : List Int) (i j : Nat) : List Int := l.take (i - 1) ++ srt ((l.drop (i - 1)).take (j - (i - 1))) ++ l.drop j
theorem seg_perm {l : List Int} {i j : Nat} (h1 : i ≤ j) (_h2 : j ≤ l.length) : (seg l i j).Perm l := by
  unfold seg
  have e : l = l.take (i - 1) ++ (l.drop (i - 1)).take (j - (i - 1)) ++ l.drop j := by
    conv => lhs; rw [← List.take_append_drop (i - 1) l, ← List.take_append_drop (j - (i - 1)) (l.drop (i - 1)), List.drop_drop]
    rw [List.append_assoc, show i - 1 + (j - (i - 1)) = j by omega]
  conv => rhs; rw [e]
  exact ((srt_perm _).append_left _).append_right _
theorem seg_len {l : List Int} {i j : Nat} (h1 : i ≤ j) (h2 : j ≤ l.length) : (seg l i j).length = l.length := (seg_perm h1 h2).length_eq
abbrev Cmd := Nat × Nat
def step (l : List Int) (c : Cmd) : List Int := seg l c.1 c.2
def runM (l : List Int) (cs : List Cmd) : List Int := cs.foldl step l
/-- the commands fit rows of n places -/
def Fits (n : Nat) (cs : List Cmd) : Prop := ∀ c ∈ cs, 1 ≤ c.1 ∧ c.1 ≤ c.2 ∧ c.2 ≤ n
theorem runM_perm : ∀ (cs : List Cmd) (l : List Int), Fits l.length cs → (runM l cs).Perm l
  | [], l, _ => List.Perm.refl l
  | c :: r, l, h => by
    have hc := h c List.mem_cons_self
    have p := seg_perm hc.2.1 hc.2.2
    refine List.Perm.trans (runM_perm r (step l c) ?_) p
    show Fits (seg l c.1 c.2).length r
    rw [p.length_eq]
    exact fun d hd => h d (List.mem_cons_of_mem _ hd)
theorem runM_len {cs : List Cmd} {l : List Int} (h : Fits l.length cs) : (runM l cs).length = l.length := (runM_perm cs l h).length_eq
theorem runM_snoc (l : List Int) (cs : List Cmd) (c : Cmd) : runM l (cs ++ [c]) = step (runM l cs) c := by unfold runM; rw [List.foldl_append]; rfl
theorem runM_app (l : List Int) (cs ds : List Cmd) : runM l (cs ++ ds) = runM (runM l cs) ds := List.foldl_append ..
theorem Fits.take {n k : Nat} {cs : List Cmd} (h : Fits n cs) : Fits n (cs.take k) := fun c hc => h c (List.mem_of_mem_take hc)
theorem Fits.drop {n k : Nat} {cs : List Cmd} (h : Fits n cs) : Fits n (cs.drop k) := fun c hc => h c (List.mem_of_mem_drop hc)
end My
namespace My
/-! ### counts of small values ahead of a place -/
def zc (l : List Int) (t : Int) (p : Nat) : Nat := (l.take p).countP (fun v => decide (v ≤ t))
theorem zc_succ {l : List Int} {p : Nat} (h : p < l.length) (t : Int) : zc l t (p + 1) = zc l t p + if l[p] ≤ t then 1 else 0 := by
  unfold zc
  rw [List.take_add_one, List.getElem?_eq_getElem h, List.countP_append]
  by_cases g : l[p] ≤ t <;> simp [g]
theorem zc_le (l : List Int) (t : Int) (p : Nat) : zc l t p ≤ p := Nat.le_trans List.countP_le_length (by rw [List.length_take]; omega)
theorem zc_step (l : List Int) (t : Int) (p : Nat) : zc l t p ≤ zc l t (p + 1) ∧ zc l t (p + 1) ≤ zc l t p + 1 := by
  by_cases h : p < l.length
  · rw [zc_succ h]; split <;> omega
  · have : zc l t (p + 1) = zc l t p := by unfold zc; rw [List.take_of_length_le (by omega), List.take_of_length_le (by omega)]
    omega
theorem zc_mono {l : List Int} {t : Int} {p : Nat} : ∀ d, zc l t p ≤ zc l t (p + d) ∧ zc l t (p + d) ≤ zc l t p + d
  | 0 => by simp
  | d + 1 => by
    have h1 := zc_mono (l := l) (t := t) (p := p) d
    have h2 := zc_step l t (p + d)
    rw [show p + (d + 1) = p + d + 1 by omega]
    omega
theorem up_zc (t : Int) : ∀ (s : List Int) (k : Nat), s.Pairwise (· ≤ ·) → zc s t k = min k (s.countP (fun v => decide (v ≤ t)))
  | [], k, _ => by simp [zc]
  | x :: r, 0, _ => by simp [zc]
  | x :: r, k + 1, h => by
    have h1 := List.pairwise_cons.mp h
    have ih := up_zc t r k h1.2
    unfold zc at ih ⊢
    rw [List.take_succ_cons, List.countP_cons, List.countP_cons]
    by_cases g : x ≤ t
    · simp only [g, decide_true, if_true]; rw [ih]; omega
    · have z : r.countP (fun v => decide (v ≤ t)) = 0 := List.countP_eq_zero.mpr fun v hv => by have := h1.1 v hv; simp; omega
      rw [z] at ih ⊢
      simp only [g, decide_false, Bool.false_eq_true, if_false]; rw [ih]; simp
theorem zc_app (a b : List Int) (t : Int) (p : Nat) : zc (a ++ b) t p = zc a t p + zc b t (p - a.length) := by
  unfold zc; rw [List.take_append, List.countP_append]
theorem zc_all {l : List Int} {t : Int} {p : Nat} (h : l.length ≤ p) : zc l t p = l.countP (fun v => decide (v ≤ t)) := by unfold zc; rw [List.take_of_length_le h]
theorem zc_seg {l : List Int} {i j : Nat} (h1 : 1 ≤ i) (h2 : i ≤ j) (h3 : j ≤ l.length) (t : Int) (p : Nat) :
    zc (seg l i j) t p = if p < i ∨ j < p then zc l t p else min (zc l t (i - 1) + (p - (i - 1))) (zc l t j) := by
  obtain ⟨A, M, B, rfl, hA, hM⟩ : ∃ A M B, l = A ++ M ++ B ∧ A.length = i - 1 ∧ M.length = j - (i - 1) := by
    refine ⟨l.take (i - 1), (l.drop (i - 1)).take (j - (i - 1)), l.drop j, ?_, by rw [List.length_take]; omega, by rw [List.length_take, List.length_drop]; omega⟩
    conv => lhs; rw [← List.take_append_drop (i - 1) l, ← List.take_append_drop (j - (i - 1)) (l.drop (i - 1)), List.drop_drop]
    rw [List.append_assoc, show i - 1 + (j - (i - 1)) = j by omega]
  have e : seg (A ++ M ++ B) i j = A ++ srt M ++ B := by
    unfold seg
    have e1 : (A ++ M ++ B).take (i - 1) = A := by rw [List.append_assoc, ← hA, List.take_left]
    have e2 : (A ++ M ++ B).drop (i - 1) = M ++ B := by rw [List.append_assoc, ← hA, List.drop_left]
    have e3 : (A ++ M ++ B).drop j = B := by rw [show j = (A ++ M).length by rw [List.length_append]; omega, List.drop_left]
    rw [e1, e2, e3, ← hM, List.take_left]
  rw [e]
  have hs : (srt M).length = M.length := srt_len M
  have cM : (srt M).countP (fun v => decide (v ≤ t)) = M.countP (fun v => decide (v ≤ t)) := (srt_perm M).countP_eq _
  simp only [zc_app, List.length_append, hs, hA, hM]
  rw [zc_all (l := A) (p := j) (by omega), zc_all (l := M) (p := j - (i - 1)) (by omega), show j - (i - 1 + (j - (i - 1))) = 0 by omega]
  rw [zc_all (l := A) (p := i - 1) (by omega), show i - 1 - (i - 1) = 0 by omega, show i - 1 - (i - 1 + (j - (i - 1))) = 0 by omega]
  have z0 : ∀ b : List Int, zc b t 0 = 0 := fun b => by simp [zc]
  rw [z0, z0, up_zc t _ _ (srt_up M), cM]
  by_cases g : p < i ∨ j < p
  · rw [if_pos g]
    rcases g with g | g
    · rw [show p - (i - 1) = 0 by omega]; rw [z0]; simp
    · rw [zc_all (l := M) (p := p - (i - 1)) (by omega)]
      have := List.countP_le_length (p := fun v => decide (v ≤ t)) (l := M)
      omega
  · rw [if_neg g, zc_all (l := A) (p := p) (by omega), show p - (i - 1 + (j - (i - 1))) = 0 by omega, z0]
    omega
/-- rows of one length with the same counts are equal -/
theorem zc_ext {l m : List Int} (hl : l.length = m.length) (h : ∀ t p, p ≤ l.length → zc l t p = zc m t p) : l = m := by
  refine List.ext_getElem hl fun k h1 h2 => ?_
  have key : ∀ t, l[k] ≤ t ↔ m[k] ≤ t := fun t => by
    have a := h t (k + 1) (by omega)
    rw [zc_succ h1, zc_succ h2, h t k (by omega)] at a
    by_cases g : l[k] ≤ t <;> by_cases g' : m[k] ≤ t <;> simp [g, g'] at a ⊢
  have := (key l[k]).mp (Int.le_refl _)
  have := (key m[k]).mpr (Int.le_refl _)
  omega
def desc (n : Nat) : List Int := (List.range n).map fun (k : Nat) => ((n : Int) - k)
theorem desc_len (n : Nat) : (desc n).length = n := by simp [desc]
theorem desc_get {n k : Nat} (h : k < (desc n).length) : (desc n)[k] = (n : Int) - k := by simp [desc]
theorem zc_desc {n : Nat} (q : Nat) (hq : q ≤ n) : ∀ p, p ≤ n → zc (desc n) ((n : Int) - q) p = p - q
  | 0, _ => by simp [zc]
  | p + 1, h => by
    have h' : p < (desc n).length := by rw [desc_len]; omega
    rw [zc_succ h', zc_desc q hq p (by omega), desc_get]
    split <;> omega
/-- what a script makes of a row, told by what it makes of the descending arrangement -/
def Told (n : Nat) (l0 l e : List Int) : Prop := l.length = n ∧ e.length = n ∧ ∀ (t : Int) (p : Nat), p ≤ n →
  (∀ q, q ≤ n → zc l t p ≤ zc l0 t q + zc e ((n : Int) - q) p) ∧ ∃ q, q ≤ n ∧ zc l t p = zc l0 t q + zc e ((n : Int) - q) p
theorem told_nil {l : List Int} : Told l.length l l (desc l.length) := ⟨rfl, desc_len _, fun t p hp => ⟨fun q hq => by
    rw [zc_desc q hq p hp]
    by_cases g : q ≤ p
    · have := (zc_mono (l := l) (t := t) (p := q) (p - q)).2
      rw [show q + (p - q) = p by omega] at this
      exact this
    · have := (zc_mono (l := l) (t := t) (p := p) (q - p)).1
      rw [show p + (q - p) = q by omega] at this
      omega, p, hp, by rw [zc_desc p hp p hp]; omega⟩⟩
theorem told_step {n : Nat} {l0 l e : List Int} {c : Cmd} (h1 : 1 ≤ c.1) (h2 : c.1 ≤ c.2) (h3 : c.2 ≤ n) (h : Told n l0 l e) : Told n l0 (step l c) (step e c) := by
  obtain ⟨hl, he, h⟩ := h
  refine ⟨(seg_len h2 (by omega)).trans hl, (seg_len h2 (by omega)).trans he, fun t p hp => ?_⟩
  have key : zc (step l c) t p = if p < c.1 ∨ c.2 < p then zc l t p else min (zc l t (c.1 - 1) + (p - (c.1 - 1))) (zc l t c.2) := zc_seg (l := l) h1 h2 (by omega) t p
  have kee : ∀ q : Nat, zc (step e c) ((n : Int) - q) p = _ := fun q => zc_seg (l := e) h1 h2 (by omega) ((n : Int) - q) p
  by_cases g : p < c.1 ∨ c.2 < p
  · have a := h t p hp
    refine ⟨fun q hq => ?_, ?_⟩
    · rw [key, kee q, if_pos g, if_pos g]; exact a.1 q hq
    · obtain ⟨q, hq, e1⟩ := a.2
      exact ⟨q, hq, by rw [key, kee q, if_pos g, if_pos g]; exact e1⟩
  · have a := h t (c.1 - 1) (by omega)
    have b := h t c.2 h3
    refine ⟨fun q hq => ?_, ?_⟩
    · rw [key, kee q, if_neg g, if_neg g]
      have := a.1 q hq; have := b.1 q hq
      omega
    · by_cases w : zc l t (c.1 - 1) + (p - (c.1 - 1)) ≤ zc l t c.2
      · obtain ⟨q, hq, e1⟩ := a.2
        refine ⟨q, hq, ?_⟩
        rw [key, kee q, if_neg g, if_neg g]
        have := b.1 q hq
        omega
      · obtain ⟨q, hq, e1⟩ := b.2
        refine ⟨q, hq, ?_⟩
        rw [key, kee q, if_neg g, if_neg g]
        have := a.1 q hq
        omega
theorem told_run {n : Nat} {l0 : List Int} : ∀ (cs : List Cmd) (l e : List Int), Fits n cs → Told n l0 l e → Told n l0 (runM l cs) (runM e cs)
  | [], _, _, _, h => h
  | c :: r, l, e, f, h => told_run r (step l c) (step e c) (fun d hd => f d (List.mem_cons_of_mem _ hd))
      (told_step (f c List.mem_cons_self).1 (f c List.mem_cons_self).2.1 (f c List.mem_cons_self).2.2 h)
theorem told_one {n : Nat} {l0 l m e : List Int} (h : Told n l0 l e) (g : Told n l0 m e) : l = m :=
  zc_ext (h.1.trans g.1.symm) fun t p hp => by
    rw [h.1] at hp
    obtain ⟨q, hq, e1⟩ := (h.2.2 t p hp).2
    obtain ⟨q', hq', e2⟩ := (g.2.2 t p hp).2
    have := (h.2.2 t p hp).1 q' hq'
    have := (g.2.2 t p hp).1 q hq
    omega
/-- scripts with one effect do the same -/
theorem same_eff {cs ds : List Cmd} {l : List Int} (hc : Fits l.length cs) (hd : Fits l.length ds) (h : runM (desc l.length) cs = runM (desc l.length) ds) : runM l cs = runM l ds := by
  have a := told_run cs l (desc l.length) hc told_nil
  have b := told_run ds l (desc l.length) hd told_nil
  rw [← h] at b
  exact told_one a b
end My
namespace My
/-! ### exchanges of neighbours -/
theorem two_at {l : List Int} {k : Nat} (h1 : 1 ≤ k) (h2 : k < l.length) : ∃ A B, l = A ++ l[k - 1] :: l[k] :: B ∧ A.length = k - 1 := by
  refine ⟨l.take (k - 1), l.drop (k + 1), ?_, by rw [List.length_take]; omega⟩
  have e1 : l.drop (k - 1) = l[k - 1] :: l.drop k := by
    rw [List.drop_eq_getElem_cons (by omega)]
    simp only [show k - 1 + 1 = k by omega]
  have e2 : l.drop k = l[k] :: l.drop (k + 1) := List.drop_eq_getElem_cons h2
  rw [← e2, ← e1, List.take_append_drop]
theorem seg_two {A B : List Int} {a b : Int} {k : Nat} (h1 : 1 ≤ k) (hA : A.length = k - 1) : seg (A ++ a :: b :: B) k (k + 1) = if b < a then A ++ b :: a :: B else A ++ a :: b :: B := by
  unfold seg
  have e1 : (A ++ a :: b :: B).take (k - 1) = A := by rw [← hA, List.take_left]
  have e2 : (A ++ a :: b :: B).drop (k - 1) = a :: b :: B := by rw [← hA, List.drop_left]
  have e3 : (A ++ a :: b :: B).drop (k + 1) = B := by
    rw [show A ++ a :: b :: B = (A ++ [a, b]) ++ B by simp, show k + 1 = (A ++ [a, b]).length by rw [List.length_append]; show _ = A.length + 2; omega, List.drop_left]
  rw [e1, e2, e3, show k + 1 - (k - 1) = 2 by omega]
  have e4 : srt [a, b] = if a ≤ b then [a, b] else [b, a] := by simp [srt, ins]
  show A ++ srt [a, b] ++ B = _
  rw [e4]
  by_cases g : a ≤ b
  · rw [if_pos g, if_neg (by omega)]; simp
  · rw [if_neg g, if_pos (by omega)]; simp
/-- two neighbours exchanged -/
def swp (l : List Int) (k : Nat) (x y : Int) : List Int := (l.set (k - 1) x).set k y
theorem swp_two {A B : List Int} {a b x y : Int} {k : Nat} (h1 : 1 ≤ k) (hA : A.length = k - 1) : swp (A ++ a :: b :: B) k x y = A ++ x :: y :: B := by
  unfold swp
  rw [List.set_append_right _ _ (by omega), show k - 1 - A.length = 0 by omega]
  rw [List.set_append_right _ _ (by omega), show k - A.length = 1 by omega]
  rfl
theorem nb_gt {l : List Int} {k : Nat} (h1 : 1 ≤ k) (h2 : k < l.length) (g : l[k] < l[k - 1]) : seg l k (k + 1) = swp l k l[k] l[k - 1] := by
  obtain ⟨A, B, e, hA⟩ := two_at h1 h2
  generalize l[k] = b at e g; generalize l[k - 1] = a at e g
  rw [e, seg_two h1 hA, if_pos g, swp_two h1 hA]
theorem nb_le {l : List Int} {k : Nat} (h1 : 1 ≤ k) (h2 : k < l.length) (g : ¬ l[k] < l[k - 1]) : seg l k (k + 1) = l := by
  obtain ⟨A, B, e, hA⟩ := two_at h1 h2
  generalize l[k] = b at e g; generalize l[k - 1] = a at e g
  rw [e, seg_two h1 hA, if_neg g]
theorem swp_len {l : List Int} {k : Nat} {x y : Int} : (swp l k x y).length = l.length := by simp [swp]
theorem nb_back {l : List Int} {k : Nat} (h1 : 1 ≤ k) (h2 : k < l.length) (g : l[k - 1] < l[k]) : seg (swp l k l[k] l[k - 1]) k (k + 1) = l := by
  obtain ⟨A, B, e, hA⟩ := two_at h1 h2
  generalize l[k] = b at e g ⊢; generalize l[k - 1] = a at e g ⊢
  rw [e, swp_two h1 hA, seg_two h1 hA, if_pos g]
theorem swp_perm {l : List Int} {k : Nat} (h1 : 1 ≤ k) (h2 : k < l.length) : (swp l k l[k] l[k - 1]).Perm l := by
  obtain ⟨A, B, e, hA⟩ := two_at h1 h2
  generalize l[k] = b at e ⊢; generalize l[k - 1] = a at e ⊢
  rw [e, swp_two h1 hA]
  exact (List.Perm.swap _ _ _).append_left _
def nbs (l : List Int) (ps : List Nat) : List Int := runM l (ps.map fun k => (k, k + 1))
def Nb (n : Nat) (ps : List Nat) : Prop := ∀ k ∈ ps, 1 ≤ k ∧ k < n
theorem Nb.fits {n : Nat} {ps : List Nat} (h : Nb n ps) : Fits n (ps.map fun k => (k, k + 1)) := fun c hc => by
  obtain ⟨k, hk, rfl⟩ := List.mem_map.mp hc
  have := h k hk
  show 1 ≤ k ∧ k ≤ k + 1 ∧ k + 1 ≤ n
  omega
theorem nbs_cons (l : List Int) (k : Nat) (ps : List Nat) : nbs l (k :: ps) = nbs (seg l k (k + 1)) ps := rfl
theorem nbs_snoc (l : List Int) (k : Nat) (ps : List Nat) : nbs l (ps ++ [k]) = seg (nbs l ps) k (k + 1) := by unfold nbs; rw [List.map_append, runM_app]; rfl
theorem nbs_len {l : List Int} {ps : List Nat} (h : Nb l.length ps) : (nbs l ps).length = l.length := runM_len h.fits
theorem nbs_perm {l : List Int} {ps : List Nat} (h : Nb l.length ps) : (nbs l ps).Perm l := runM_perm _ _ h.fits
/-- the values ahead of place e, all but the one at place pl, do not rise -/
def Ins (l : List Int) (e pl : Nat) : Prop := ∀ a b, a < b → b ≤ e → b ≠ pl → l.getD b 0 ≤ l.getD a 0
def Down (l : List Int) (e : Nat) : Prop := ∀ a b, a < b → b < e → l.getD b 0 ≤ l.getD a 0
theorem swp_get {l : List Int} {k j : Nat} {x y : Int} (h1 : 1 ≤ k) (h2 : k < l.length) : (swp l k x y).getD j 0 = if j = k then y else if j = k - 1 then x else l.getD j 0 := by
  unfold swp
  simp only [List.getD_eq_getElem?_getD, List.getElem?_set, List.length_set]
  by_cases e1 : k = j
  · subst e1; simp [h2]
  · by_cases e2 : k - 1 = j
    · rw [if_neg e1, if_pos e2, if_pos (by omega), if_neg (Ne.symm e1), if_pos e2.symm]; rfl
    · rw [if_neg e1, if_neg e2, if_neg (Ne.symm e1), if_neg (Ne.symm e2)]
theorem getD_at {l : List Int} {k : Nat} (h : k < l.length) : l[k] = l.getD k 0 := by simp [List.getD, h]
theorem ins_step {l : List Int} {e pl : Nat} (h : Ins l e pl) (h1 : 1 ≤ pl) (h2 : pl < l.length) (h3 : pl ≤ e) (g : l[pl - 1] < l[pl]) : Ins (swp l pl l[pl] l[pl - 1]) e (pl - 1) := fun a b hab hb hne => by
  rw [swp_get h1 h2, swp_get h1 h2]
  rw [getD_at h2, getD_at (show pl - 1 < l.length by omega)] at *
  by_cases e1 : b = pl
  · rw [if_pos e1, if_neg (by omega)]
    split
    · omega
    · exact h a (pl - 1) (by omega) (by omega) (by omega)
  · rw [if_neg e1, if_neg hne]
    split
    · exact h (pl - 1) b (by omega) hb e1
    · split
      · exact h pl b (by omega) hb e1
      · exact h a b hab hb e1
theorem ins_done {l : List Int} {e pl : Nat} (h : Ins l e pl) (h2 : pl < l.length) (h3 : pl ≤ e) (g : pl = 0 ∨ ∃ h0 : 1 ≤ pl, ¬ l[pl - 1] < l[pl]) : Down l (e + 1) := fun a b hab hb => by
  by_cases e1 : b = pl
  · subst e1
    rcases g with g | ⟨h0, g⟩
    · omega
    · rw [getD_at h2, getD_at (show b - 1 < l.length by omega)] at g
      by_cases e2 : a = b - 1
      · rw [e2]; omega
      · have := h a (b - 1) (by omega) (by omega) (by omega)
        omega
  · exact h a b hab (by omega) e1
theorem ins_start {l : List Int} {e : Nat} (h : Down l e) : Ins l e e := fun a b hab hb hne => h a b hab (by omega)
def ascN (n : Nat) : List Int := (List.range n).map fun (i : Nat) => (1 + i : Int)
theorem desc_rev (n : Nat) : desc n = (ascN n).reverse := by
  refine List.ext_getElem (by simp [desc, ascN]) fun k h1 h2 => ?_
  have : k < n := by simpa [desc] using h1
  simp [desc, ascN]
  omega
theorem asc_up : ∀ n, (ascN n).Pairwise (· ≤ ·)
  | 0 => List.Pairwise.nil
  | n + 1 => by
    unfold ascN
    rw [List.range_succ, List.map_append]
    refine List.pairwise_append.mpr ⟨asc_up n, List.pairwise_singleton _ _, fun a ha b hb => ?_⟩
    obtain ⟨i, hi, rfl⟩ := List.mem_map.mp ha
    rw [List.map_singleton, List.mem_singleton] at hb
    have := List.mem_range.mp hi
    omega
theorem down_desc {l : List Int} {n : Nat} (hp : l.Perm (ascN n)) (h : Down l n) : l = desc n := by
  rw [desc_rev]
  have hl : l.length = n := by rw [hp.length_eq]; simp [ascN]
  have e : l.reverse = ascN n := up_unique ((List.reverse_perm l).trans hp) (by
    rw [List.pairwise_reverse, List.pairwise_iff_getElem]
    intro i j hi hj hij
    have := h i j hij (by omega)
    rw [← getD_at hi, ← getD_at hj] at this
    exact this) (asc_up n)
  rw [← e, List.reverse_reverse]
theorem desc_perm (n : Nat) : (desc n).Perm (ascN n) := by rw [desc_rev]; exact List.reverse_perm _
/-- each exchange changes the row at its turn -/
def Liv : List Int → List Nat → Prop
  | _, [] => True
  | l, k :: r => seg l k (k + 1) ≠ l ∧ Liv (seg l k (k + 1)) r
/-- the exchange places as they are found: one value sinks in -/
def bub : Nat → List Int → List Nat → List Int × List Nat
  | 0, l, ps => (l, ps)
  | k + 1, l, ps => if l.getD k 0 < l.getD (k + 1) 0 then bub k (swp l (k + 1) (l.getD (k + 1) 0) (l.getD k 0)) (ps ++ [k + 1]) else (l, ps)
def exU (E : List Int) : Nat → List Int × List Nat
  | 0 => (E, [])
  | i + 1 => bub (1 + i) (exU E i).1 (exU E i).2
def exM (E : List Int) : List Nat := (exU E (E.length - 1)).2.reverse
theorem bub_step {l : List Int} {k : Nat} {ps : List Nat} (h1 : 1 ≤ k) (h2 : k < l.length) (g : l[k - 1] < l[k]) : bub k l ps = bub (k - 1) (swp l k l[k] l[k - 1]) (ps ++ [k]) := by
  obtain ⟨j, rfl⟩ : ∃ j, k = j + 1 := ⟨k - 1, by omega⟩
  have a : l.getD j 0 = l[j] := (getD_at (by omega)).symm
  have b : l.getD (j + 1) 0 = l[j + 1] := (getD_at h2).symm
  rw [bub, a, b]
  exact if_pos g
theorem bub_done {l : List Int} {k : Nat} {ps : List Nat} (h2 : k < l.length) (g : k = 0 ∨ ∃ h0 : 1 ≤ k, ¬ l[k - 1] < l[k]) : bub k l ps = (l, ps) := by
  cases k with
  | zero => rfl
  | succ j =>
    rcases g with g | ⟨_, g⟩
    · omega
    have a : l.getD j 0 = l[j] := (getD_at (by omega)).symm
    have b : l.getD (j + 1) 0 = l[j + 1] := (getD_at h2).symm
    rw [bub, a, b]
    exact if_neg g
/-- a row on its way from an effect back to the descending arrangement -/
def Way (E l : List Int) (ps : List Nat) : Prop := l.Perm E ∧ Nb E.length ps ∧ nbs l ps.reverse = E ∧ Liv l ps.reverse
theorem way_nil (E : List Int) : Way E E [] := ⟨List.Perm.refl _, ⟨fun k hk => (by cases hk), rfl, trivial⟩⟩
theorem way_step {E l : List Int} {ps : List Nat} {k : Nat} (h : Way E l ps) (h1 : 1 ≤ k) (h2 : k < l.length) (g : l[k - 1] < l[k]) : Way E (swp l k l[k] l[k - 1]) (ps ++ [k]) := by
  refine ⟨(swp_perm h1 h2).trans h.1, fun j hj => ?_, ?_, ?_⟩
  · rcases List.mem_append.mp hj with z | z
    · exact h.2.1 j z
    · rw [List.mem_singleton.mp z, ← h.1.length_eq]; exact ⟨h1, h2⟩
  · rw [List.reverse_append]
    show nbs (seg (swp l k l[k] l[k - 1]) k (k + 1)) ps.reverse = E
    rw [nb_back h1 h2 g]
    exact h.2.2.1
  · rw [List.reverse_append]
    show seg (swp l k l[k] l[k - 1]) k (k + 1) ≠ swp l k l[k] l[k - 1] ∧ Liv (seg (swp l k l[k] l[k - 1]) k (k + 1)) ps.reverse
    rw [nb_back h1 h2 g]
    refine ⟨fun e => ?_, h.2.2.2⟩
    have e1 := swp_get (l := l) (k := k) (j := k) (x := l[k]) (y := l[k - 1]) h1 h2
    rw [← e, if_pos rfl, ← getD_at h2] at e1
    omega
/-- what stands for any script with an effect -/
def Stand (E : List Int) (ps : List Nat) : Prop := Nb E.length ps ∧ nbs (desc E.length) ps = E
theorem way_end {E l : List Int} {ps : List Nat} {n : Nat} (h : Way E l ps) (hE : E.Perm (ascN n)) (hd : Down l n) : Stand E ps.reverse := by
  have hn : E.length = n := by rw [hE.length_eq]; simp [ascN]
  refine ⟨fun k hk => h.2.1 k (List.mem_reverse.mp hk), ?_⟩
  rw [hn, ← down_desc (h.1.trans hE) hd]
  exact h.2.2.1
theorem way_liv {E l : List Int} {ps : List Nat} {n : Nat} (h : Way E l ps) (hE : E.Perm (ascN n)) (hd : Down l n) : Liv (desc n) ps.reverse := by
  rw [← down_desc (h.1.trans hE) hd]
  exact h.2.2.2
theorem stand_run {E l : List Int} {ps : List Nat} {cs : List Cmd} (h : Stand E ps) (hl : l.length = E.length) (hc : Fits E.length cs) (he : runM (desc E.length) cs = E) : nbs l ps = runM l cs := by
  refine same_eff (hl ▸ h.1.fits) (hl ▸ hc) ?_
  rw [hl, he]
  exact h.2
end My
namespace My
theorem seg_split {l : List Int} {i j : Nat} (h1 : i ≤ j) (h2 : j ≤ l.length) : ∃ A M B, l = A ++ M ++ B ∧ A.length = i - 1 ∧ M.length = j - (i - 1) ∧ seg l i j = A ++ srt M ++ B := by
  refine ⟨l.take (i - 1), (l.drop (i - 1)).take (j - (i - 1)), l.drop j, ?_, by rw [List.length_take]; omega, by rw [List.length_take, List.length_drop]; omega, rfl⟩
  conv => lhs; rw [← List.take_append_drop (i - 1) l, ← List.take_append_drop (j - (i - 1)) (l.drop (i - 1)), List.drop_drop]
  rw [List.append_assoc, show i - 1 + (j - (i - 1)) = j by omega]
theorem srt_id {l : List Int} (h : l.Pairwise (· ≤ ·)) : srt l = l := (srt_is (List.Perm.refl l) h).symm
theorem seg_app {A M B : List Int} {i j : Nat} (hA : A.length = i - 1) (hM : M.length = j - (i - 1)) (h : i ≤ j) : seg (A ++ M ++ B) i j = A ++ srt M ++ B := by
  unfold seg
  have e1 : (A ++ M ++ B).take (i - 1) = A := by rw [List.append_assoc, ← hA, List.take_left]
  have e2 : (A ++ M ++ B).drop (i - 1) = M ++ B := by rw [List.append_assoc, ← hA, List.drop_left]
  have e3 : (A ++ M ++ B).drop j = B := by rw [show j = (A ++ M).length by rw [List.length_append]; omega, List.drop_left]
  rw [e1, e2, e3, ← hM, List.take_left]
theorem step_twice {l : List Int} {c : Cmd} (h1 : c.1 ≤ c.2) (h2 : c.2 ≤ l.length) : step (step l c) c = step l c := by
  unfold step
  obtain ⟨A, M, B, _, hA, hM, e⟩ := seg_split h1 h2
  rw [e, seg_app hA (by rw [srt_len]; exact hM) h1, srt_id (srt_up M)]
end My
namespace My
def less (x : Int) (l : List Int) : Nat := (l.filter (fun y => decide (y < x))).length
def inv : List Int → Nat
  | [] => 0
  | x :: r => less x r + inv r
theorem less_perm {x : Int} {l m : List Int} (h : l.Perm m) : less x l = less x m := (h.filter _).length_eq
theorem less_cons (x y : Int) (r : List Int) : less x (y :: r) = (if y < x then 1 else 0) + less x r := by
  unfold less
  rw [List.filter_cons]
  by_cases h : y < x <;> simp [h]; omega
theorem inv_sorted : ∀ (s : List Int), s.Pairwise (· ≤ ·) → inv s = 0
  | [], _ => rfl
  | x :: r, h => by
    have h1 := List.pairwise_cons.mp h
    show less x r + inv r = 0
    rw [inv_sorted r h1.2]
    have : less x r = 0 := by
      unfold less
      rw [List.length_eq_zero_iff, List.filter_eq_nil_iff]
      intro y hy
      have := h1.1 y hy
      simp; omega
    omega
def invU (ns : List Int) : Nat → Nat
  | 0 => 0
  | i + 1 => invU ns i + less (ns.getD i 0) (ns.drop (i + 1))
theorem invU_cons (x : Int) (r : List Int) : ∀ i, invU (x :: r) (i + 1) = less x r + invU r i
  | 0 => by simp [invU]
  | i + 1 => by
    rw [invU, invU_cons x r i, invU]
    simp
    omega
theorem invU_all : ∀ ns : List Int, invU ns ns.length = inv ns
  | [] => rfl
  | x :: r => by rw [List.length_cons, invU_cons, invU_all r]; rfl
theorem less_le (x : Int) (l : List Int) : less x l ≤ l.length := List.length_filter_le _ _
theorem inv_le : ∀ ns : List Int, inv ns ≤ ns.length * ns.length
  | [] => Nat.le_refl _
  | x :: r => by
    have h1 := less_le x r
    have ih := inv_le r
    show less x r + inv r ≤ (r.length + 1) * (r.length + 1)
    rw [Nat.add_mul, Nat.mul_add, Nat.one_mul, Nat.mul_one]
    omega
def gt (x : Int) (l : List Int) : Nat := (l.filter (fun y => decide (x < y))).length
theorem inv_snoc (x : Int) : ∀ l : List Int, inv (l ++ [x]) = inv l + gt x l
  | [] => rfl
  | y :: r => by
    show less y (r ++ [x]) + inv (r ++ [x]) = less y r + inv r + gt x (y :: r)
    rw [inv_snoc x r]
    have e1 : less y (r ++ [x]) = less y r + if x < y then 1 else 0 := by
      unfold less
      rw [List.filter_append, List.length_append]
      by_cases h : x < y <;> simp [h]
    have e2 : gt x (y :: r) = (if x < y then 1 else 0) + gt x r := by
      unfold gt
      rw [List.filter_cons]
      by_cases h : x < y <;> simp [h]; omega
    omega
def gts (l : List Int) : Nat → List Int
  | 0 => []
  | i + 1 => gts l i ++ [((gt (l.getD i 0) (l.take i) : Nat) : Int)]
theorem gts_len (l : List Int) : ∀ i, (gts l i).length = i
  | 0 => rfl
  | i + 1 => by rw [gts, List.length_append, gts_len l i]; rfl
theorem gts_sum (l : List Int) : ∀ i, i ≤ l.length → (gts l i).sum = ((inv (l.take i) : Nat) : Int)
  | 0, _ => by simp [gts, inv]
  | i + 1, h => by
    have hi : i < l.length := h
    rw [gts, List.sum_append, gts_sum l i (by omega), List.take_add_one, List.getElem?_eq_getElem hi]
    show _ = ((inv (l.take i ++ [l[i]]) : Nat) : Int)
    rw [inv_snoc, show l.getD i 0 = l[i] by simp [List.getD, hi]]
    simp
theorem gt_less {x : Int} : ∀ {l : List Int}, x ∉ l → gt x l + less x l = l.length
  | [], _ => rfl
  | y :: r, h => by
    have h1 := gt_less (x := x) (l := r) (fun q => h (List.mem_cons_of_mem _ q))
    have h2 : x ≠ y := fun q => h (q ▸ List.mem_cons_self)
    rw [less_cons, List.length_cons]
    have e2 : gt x (y :: r) = (if x < y then 1 else 0) + gt x r := by
      unfold gt
      rw [List.filter_cons]
      by_cases h : x < y <;> simp [h]; omega
    rw [e2]
    by_cases h3 : x < y
    · rw [if_pos h3, if_neg (by omega)]; omega
    · rw [if_neg h3, if_pos (by omega)]; omega
theorem gt_perm {x : Int} {l m : List Int} (h : l.Perm m) : gt x l = gt x m := (h.filter _).length_eq
theorem inv_rev : ∀ l : List Int, l.Nodup → 2 * (inv l.reverse + inv l) + l.length = l.length * l.length
  | [], _ => rfl
  | x :: r, h => by
    have h1 := List.nodup_cons.mp h
    have ih := inv_rev r h1.2
    have g := gt_less h1.1
    rw [List.reverse_cons, inv_snoc, gt_perm (List.reverse_perm r), List.length_cons]
    show 2 * (inv r.reverse + gt x r + (less x r + inv r)) + (r.length + 1) = (r.length + 1) * (r.length + 1)
    have e : (r.length + 1) * (r.length + 1) = r.length * r.length + r.length + r.length + 1 := by rw [Nat.succ_mul, Nat.mul_succ]; omega
    rw [e]
    omega
end My
namespace My
def crs (a b : List Int) : Nat := (a.map fun x => less x b).sum
theorem less_app (x : Int) (a b : List Int) : less x (a ++ b) = less x a + less x b := by unfold less; rw [List.filter_append, List.length_append]
theorem inv_app : ∀ (a b : List Int), inv (a ++ b) = inv a + inv b + crs a b
  | [], b => by simp [inv, crs]
  | x :: r, b => by
    show less x (r ++ b) + inv (r ++ b) = less x r + inv r + inv b + ((less x b) + crs r b)
    rw [less_app, inv_app r b]; omega
theorem crs_right {a b c : List Int} (h : b.Perm c) : crs a b = crs a c := by
  unfold crs
  rw [show (fun x => less x b) = fun x => less x c from funext fun x => less_perm h]
theorem crs_left {a b c : List Int} (h : a.Perm b) : crs a c = crs b c := (h.map _).sum_nat
theorem inv_zero : ∀ {l : List Int}, inv l = 0 → l.Pairwise (· ≤ ·)
  | [], _ => List.Pairwise.nil
  | x :: r, h => by
    have h' : less x r + inv r = 0 := h
    refine List.pairwise_cons.mpr ⟨fun y hy => ?_, inv_zero (by omega)⟩
    have h0 : less x r = 0 := by omega
    unfold less at h0
    rw [List.length_eq_zero_iff, List.filter_eq_nil_iff] at h0
    have := h0 y hy
    simp at this; omega
theorem inv_mid (A M B : List Int) : inv (A ++ srt M ++ B) + inv M = inv (A ++ M ++ B) := by
  have p := srt_perm M
  rw [inv_app, inv_app, inv_app (A ++ M), inv_app A M, crs_right p, crs_left (p.append_left A), inv_sorted _ (srt_up M)]
  omega
theorem step_inv {l : List Int} {c : Cmd} (h1 : c.1 ≤ c.2) (h2 : c.2 ≤ l.length) : inv (step l c) ≤ inv l ∧ (inv (step l c) = inv l → step l c = l) := by
  obtain ⟨A, M, B, e, _, _, e2⟩ := seg_split h1 h2
  unfold step
  rw [e2]
  have k := inv_mid A M B
  rw [← e] at k
  refine ⟨by omega, fun q => ?_⟩
  have z : inv M = 0 := by omega
  rw [srt_id (inv_zero z), ← e]
theorem run_inv : ∀ (cs : List Cmd) (l : List Int), Fits l.length cs → inv (runM l cs) ≤ inv l ∧ (inv (runM l cs) = inv l → runM l cs = l)
  | [], _, _ => ⟨Nat.le_refl _, fun _ => rfl⟩
  | c :: r, l, h => by
    have hc := h c List.mem_cons_self
    have a := step_inv (l := l) hc.2.1 hc.2.2
    have hl : (step l c).length = l.length := seg_len hc.2.1 hc.2.2
    have b := run_inv r (step l c) (by rw [hl]; exact fun d hd => h d (List.mem_cons_of_mem _ hd))
    show inv (runM (step l c) r) ≤ inv l ∧ (inv (runM (step l c) r) = inv l → runM (step l c) r = l)
    refine ⟨by omega, fun q => ?_⟩
    have e1 := a.2 (by omega)
    rw [e1] at b q ⊢
    exact b.2 (by omega)
end My
namespace My
/-- the values at the places of a command, falling -/
def dstep (l : List Int) (c : Cmd) : List Int := l.take (c.1 - 1) ++ (srt ((l.drop (c.1 - 1)).take (c.2 - (c.1 - 1)))).reverse ++ l.drop c.2
theorem dstep_perm {l : List Int} {c : Cmd} (h1 : c.1 ≤ c.2) (h2 : c.2 ≤ l.length) : (dstep l c).Perm l := by
  unfold dstep
  have e : l = l.take (c.1 - 1) ++ (l.drop (c.1 - 1)).take (c.2 - (c.1 - 1)) ++ l.drop c.2 := by
    conv => lhs; rw [← List.take_append_drop (c.1 - 1) l, ← List.take_append_drop (c.2 - (c.1 - 1)) (l.drop (c.1 - 1)), List.drop_drop]
    rw [List.append_assoc, show c.1 - 1 + (c.2 - (c.1 - 1)) = c.2 by omega]
  conv => rhs; rw [e]
  exact (((List.reverse_perm _).trans (srt_perm _)).append_left _).append_right _
def backR (rs : List Cmd) (l : List Int) : List Int := rs.foldl dstep l
def backM (cs : List Cmd) (l : List Int) : List Int := backR cs.reverse l
theorem backR_perm : ∀ (rs : List Cmd) (l : List Int), Fits l.length rs → (backR rs l).Perm l
  | [], l, _ => List.Perm.refl l
  | c :: r, l, h => by
    have hc := h c List.mem_cons_self
    have p := dstep_perm hc.2.1 hc.2.2
    refine List.Perm.trans (backR_perm r (dstep l c) ?_) p
    rw [p.length_eq]
    exact fun d hd => h d (List.mem_cons_of_mem _ hd)
theorem Fits.rev {n : Nat} {cs : List Cmd} (h : Fits n cs) : Fits n cs.reverse := fun c hc => h c (List.mem_reverse.mp hc)
theorem backM_perm {cs : List Cmd} {l : List Int} (h : Fits l.length cs) : (backM cs l).Perm l := backR_perm _ _ h.rev
theorem backR_snoc (l : List Int) (cs : List Cmd) (c : Cmd) : backR (cs ++ [c]) l = dstep (backR cs l) c := by unfold backR; rw [List.foldl_append]; rfl
theorem down_is {l m : List Int} (h : m.Perm l) (u : m.Pairwise (· ≥ ·)) : m = (srt l).reverse := by
  have := srt_is (l := l) (m := m.reverse) ((List.reverse_perm m).trans h) (List.pairwise_reverse.mpr u)
  rw [← this, List.reverse_reverse]
theorem srt_eq {l m : List Int} (h : l.Perm m) : srt l = srt m := srt_is ((srt_perm l).trans h) (srt_up l)
theorem srt_run {l : List Int} {cs : List Cmd} (h : Fits l.length cs) : srt (runM l cs) = srt l := srt_eq (runM_perm cs l h)
/-- the value behind the first descent -/
def witM : List Int → Option Int
  | [] => none
  | [_] => none
  | x :: y :: r => if y < x then some y else witM (y :: r)
theorem wit_none : ∀ {l : List Int}, witM l = none → l.Pairwise (· ≤ ·)
  | [], _ => List.Pairwise.nil
  | [x], _ => List.pairwise_singleton _ _
  | x :: y :: r, h => by
    unfold witM at h
    split at h
    · cases h
    · rename_i g
      have ih := wit_none h
      refine List.pairwise_cons.mpr ⟨fun z hz => ?_, ih⟩
      rcases List.mem_cons.mp hz with e | e
      · rw [e]; omega
      · have := (List.pairwise_cons.mp ih).1 z e; omega
theorem wit_some : ∀ {l : List Int} {v : Int}, witM l = some v → ¬ (l.map fun x => if v < x then (1 : Int) else 0).Pairwise (· ≤ ·)
  | x :: y :: r, v, h => by
    unfold witM at h
    intro hp
    rw [List.map_cons] at hp
    have hp1 := List.pairwise_cons.mp hp
    split at h
    · rename_i g
      cases h
      have := hp1.1 _ (List.mem_map.mpr ⟨y, List.mem_cons_self, rfl⟩)
      rw [if_pos g, if_neg (by omega)] at this
      omega
    · exact wit_some h hp1.2
theorem wit_up {l : List Int} (h : l.Pairwise (· ≤ ·)) : witM l = none := by
  cases e : witM l with
  | none => rfl
  | some v =>
    refine absurd ?_ (wit_some e)
    rw [List.pairwise_map]
    exact h.imp fun {a b} hab => by split <;> split <;> omega
theorem wit_sorted {l : List Int} : witM l = none ↔ l = srt l := ⟨fun h => srt_is (List.Perm.refl _) (wit_none h), fun h => wit_up (h ▸ srt_up l)⟩
/-- sorting heeds the order alone -/
theorem srt_map {f : Int → Int} (hf : ∀ a b, a ≤ b → f a ≤ f b) (l : List Int) : srt (l.map f) = (srt l).map f :=
  (srt_is ((srt_perm l).map f) (List.pairwise_map.mpr ((srt_up l).imp fun {a b} h => hf a b h))).symm
theorem step_map {f : Int → Int} (hf : ∀ a b, a ≤ b → f a ≤ f b) (l : List Int) (c : Cmd) : step (l.map f) c = (step l c).map f := by
  unfold step seg
  rw [List.map_append, List.map_append, ← List.map_drop, ← List.map_take, ← List.map_take, ← List.map_drop, srt_map hf]
theorem run_map {f : Int → Int} (hf : ∀ a b, a ≤ b → f a ≤ f b) : ∀ (cs : List Cmd) (l : List Int), runM (l.map f) cs = (runM l cs).map f
  | [], _ => rfl
  | c :: r, l => by
    show runM (step (l.map f) c) r = (runM (step l c) r).map f
    rw [step_map hf, run_map hf r]
theorem bit_mono (v : Int) : ∀ a b : Int, a ≤ b → (if v < a then (1 : Int) else 0) ≤ if v < b then 1 else 0 := fun a b h => by split <;> split <;> omega
end My
namespace My
theorem most_zc {a b : List Int} : AtMost a b ↔ ∀ p q : Nat, zc b q p ≤ zc a q p := by
  unfold AtMost cnt zc
  simp only [List.countP_eq_length_filter]
theorem zc_low {l : List Int} {t : Int} (h : ∀ v ∈ l, 1 ≤ v) (ht : t < 1) (p : Nat) : zc l t p = 0 := List.countP_eq_zero.mpr fun v hv => by
  have := h v (List.mem_of_mem_take hv)
  simp; omega
theorem zc_rev {s : List Int} (t : Int) (h : s.Pairwise (· ≤ ·)) {k : Nat} (hk : k ≤ s.length) : zc s.reverse t k = s.countP (fun v => decide (v ≤ t)) - (s.length - k) := by
  have e : zc s.reverse t k = (s.drop (s.length - k)).countP (fun v => decide (v ≤ t)) := by
    unfold zc
    rw [List.take_reverse, List.countP_reverse]
  have e2 : (s.take (s.length - k)).countP (fun v => decide (v ≤ t)) + (s.drop (s.length - k)).countP (fun v => decide (v ≤ t)) = s.countP (fun v => decide (v ≤ t)) := by
    rw [← List.countP_append, List.take_append_drop]
  have e3 := up_zc t s (s.length - k) h
  unfold zc at e3
  have e4 : (s.drop (s.length - k)).countP (fun v => decide (v ≤ t)) ≤ k := Nat.le_trans List.countP_le_length (by rw [List.length_drop]; omega)
  rw [e]
  omega
theorem zc_dseg {l : List Int} {c : Cmd} (h1 : 1 ≤ c.1) (h2 : c.1 ≤ c.2) (h3 : c.2 ≤ l.length) (t : Int) (p : Nat) :
    zc (dstep l c) t p = if p < c.1 ∨ c.2 < p then zc l t p else max (zc l t (c.1 - 1)) (zc l t c.2 - (c.2 - p)) := by
  obtain ⟨i, j⟩ := c
  simp only at h1 h2 h3 ⊢
  obtain ⟨A, M, B, rfl, hA, hM⟩ : ∃ A M B, l = A ++ M ++ B ∧ A.length = i - 1 ∧ M.length = j - (i - 1) := by
    refine ⟨l.take (i - 1), (l.drop (i - 1)).take (j - (i - 1)), l.drop j, ?_, by rw [List.length_take]; omega, by rw [List.length_take, List.length_drop]; omega⟩
    conv => lhs; rw [← List.take_append_drop (i - 1) l, ← List.take_append_drop (j - (i - 1)) (l.drop (i - 1)), List.drop_drop]
    rw [List.append_assoc, show i - 1 + (j - (i - 1)) = j by omega]
  have e : dstep (A ++ M ++ B) (i, j) = A ++ (srt M).reverse ++ B := by
    unfold dstep
    simp only
    have e1 : (A ++ M ++ B).take (i - 1) = A := by rw [List.append_assoc, ← hA, List.take_left]
    have e2 : (A ++ M ++ B).drop (i - 1) = M ++ B := by rw [List.append_assoc, ← hA, List.drop_left]
    have e3 : (A ++ M ++ B).drop j = B := by rw [show j = (A ++ M).length by rw [List.length_append]; omega, List.drop_left]
    rw [e1, e2, e3, ← hM, List.take_left]
  rw [e]
  have hs : (srt M).length = M.length := srt_len M
  have cM : (srt M).countP (fun v => decide (v ≤ t)) = M.countP (fun v => decide (v ≤ t)) := (srt_perm M).countP_eq _
  simp only [zc_app, List.length_append, List.length_reverse, hs, hA, hM]
  rw [zc_all (l := A) (p := j) (by omega), zc_all (l := M) (p := j - (i - 1)) (by omega), show j - (i - 1 + (j - (i - 1))) = 0 by omega]
  rw [zc_all (l := A) (p := i - 1) (by omega), show i - 1 - (i - 1) = 0 by omega, show i - 1 - (i - 1 + (j - (i - 1))) = 0 by omega]
  have z0 : ∀ b : List Int, zc b t 0 = 0 := fun b => by simp [zc]
  rw [z0, z0]
  have hle := List.countP_le_length (p := fun v => decide (v ≤ t)) (l := M)
  by_cases g : p < i ∨ j < p
  · rw [if_pos g]
    rcases g with g | g
    · rw [show p - (i - 1) = 0 by omega]; rw [z0, z0]
    · rw [zc_all (l := M) (p := p - (i - 1)) (by omega), zc_all (l := (srt M).reverse) (p := p - (i - 1)) (by rw [List.length_reverse]; omega), List.countP_reverse, cM]
  · rw [if_neg g, zc_all (l := A) (p := p) (by omega), show p - (i - 1 + (j - (i - 1))) = 0 by omega, z0, zc_rev t (srt_up M) (by omega), cM, hs]
    omega
theorem most_refl (a : List Int) : AtMost a a := fun p q => Nat.le_refl _
theorem most_trans {a b c : List Int} (h : AtMost a b) (g : AtMost b c) : AtMost a c := fun p q => Nat.le_trans (g p q) (h p q)
theorem step_mono {l m : List Int} {c : Cmd} (h1 : 1 ≤ c.1) (h2 : c.1 ≤ c.2) (h3 : c.2 ≤ l.length) (h4 : c.2 ≤ m.length) (h : AtMost l m) : AtMost (step l c) (step m c) := by
  rw [most_zc] at h ⊢
  intro p q
  have e1 : zc (step l c) q p = _ := zc_seg (l := l) h1 h2 h3 q p
  have e2 : zc (step m c) q p = _ := zc_seg (l := m) h1 h2 h4 q p
  rw [e1, e2]
  have a1 := h p q
  have a2 := h (c.1 - 1) q
  have a3 := h c.2 q
  split <;> omega
theorem step_le {l : List Int} {c : Cmd} (h1 : 1 ≤ c.1) (h2 : c.1 ≤ c.2) (h3 : c.2 ≤ l.length) : AtMost (step l c) l := by
  rw [most_zc]
  intro p q
  have e1 : zc (step l c) q p = _ := zc_seg (l := l) h1 h2 h3 q p
  rw [e1]
  split
  · exact Nat.le_refl _
  · rename_i g
    have m1 := zc_mono (l := l) (t := q) (p := c.1 - 1) (p - (c.1 - 1))
    have m2 := zc_mono (l := l) (t := q) (p := p) (c.2 - p)
    rw [show c.1 - 1 + (p - (c.1 - 1)) = p by omega] at m1
    rw [show p + (c.2 - p) = c.2 by omega] at m2
    omega
theorem gal_step {l m : List Int} {c : Cmd} (h1 : 1 ≤ c.1) (h2 : c.1 ≤ c.2) (h3 : c.2 ≤ l.length) (h4 : c.2 ≤ m.length) : AtMost (step l c) m ↔ AtMost l (dstep m c) := by
  rw [most_zc, most_zc]
  have e1 : ∀ (q p : Nat), zc (step l c) q p = _ := fun q p => zc_seg (l := l) h1 h2 h3 q p
  have e2 : ∀ (q p : Nat), zc (dstep m c) q p = _ := fun q p => zc_dseg (l := m) h1 h2 h4 q p
  constructor
  · intro h p q
    rw [e2]
    have a0 := h p q
    have a1 := h (c.1 - 1) q
    have a2 := h c.2 q
    rw [e1] at a0 a1 a2
    rw [if_pos (by omega)] at a1
    rw [if_neg (by omega)] at a2
    split
    · rename_i g
      rw [if_pos g] at a0
      exact a0
    · rename_i g
      have m1 := zc_mono (l := l) (t := q) (p := c.1 - 1) (p - (c.1 - 1))
      have m2 := zc_mono (l := l) (t := q) (p := p) (c.2 - p)
      rw [show c.1 - 1 + (p - (c.1 - 1)) = p by omega] at m1
      rw [show p + (c.2 - p) = c.2 by omega] at m2
      omega
  · intro h p q
    rw [e1]
    have a0 := h p q
    have a1 := h (c.1 - 1) q
    have a2 := h c.2 q
    rw [e2] at a0 a1 a2
    rw [if_pos (by omega)] at a1
    rw [if_neg (by omega)] at a2
    split
    · rename_i g
      rw [if_pos g] at a0
      exact a0
    · rename_i g
      have m1 := zc_mono (l := m) (t := q) (p := c.1 - 1) (p - (c.1 - 1))
      have m2 := zc_mono (l := m) (t := q) (p := p) (c.2 - p)
      rw [show c.1 - 1 + (p - (c.1 - 1)) = p by omega] at m1
      rw [show p + (c.2 - p) = c.2 by omega] at m2
      omega
theorem back_cons (c : Cmd) (r : List Cmd) (m : List Int) : backM (c :: r) m = dstep (backM r m) c := by
  unfold backM
  rw [List.reverse_cons, backR_snoc]
theorem back_app (a b : List Cmd) (m : List Int) : backM (a ++ b) m = backM a (backM b m) := by
  unfold backM backR
  rw [List.reverse_append, List.foldl_append]
theorem gal_run : ∀ (cs : List Cmd) {l m : List Int}, l.length = m.length → Fits m.length cs → (AtMost (runM l cs) m ↔ AtMost l (backM cs m))
  | [], _, _, _, _ => Iff.rfl
  | c :: r, l, m, hl, h => by
    have hc := h c List.mem_cons_self
    have hr : Fits m.length r := fun d hd => h d (List.mem_cons_of_mem _ hd)
    have hb : (backM r m).length = m.length := (backM_perm hr).length_eq
    have hs : (step l c).length = l.length := seg_len hc.2.1 (by omega)
    show AtMost (runM (step l c) r) m ↔ _
    rw [gal_run r (by rw [hs, hl]) hr, back_cons, gal_step hc.1 hc.2.1 (by omega) (by omega)]
theorem run_mono : ∀ (cs : List Cmd) {l m : List Int}, l.length = m.length → Fits m.length cs → AtMost l m → AtMost (runM l cs) (runM m cs)
  | [], _, _, _, _, h => h
  | c :: r, l, m, hl, hf, h => by
    have hc := hf c List.mem_cons_self
    have hs : (step l c).length = l.length := seg_len hc.2.1 (by omega)
    have hs2 : (step m c).length = m.length := seg_len hc.2.1 hc.2.2
    exact run_mono r (by rw [hs, hs2, hl]) (by rw [hs2]; exact fun d hd => hf d (List.mem_cons_of_mem _ hd)) (step_mono hc.1 hc.2.1 (by omega) (by omega) h)
theorem run_le : ∀ (cs : List Cmd) {l : List Int}, Fits l.length cs → AtMost (runM l cs) l
  | [], l, _ => most_refl l
  | c :: r, l, hf => by
    have hc := hf c List.mem_cons_self
    have hs : (step l c).length = l.length := seg_len hc.2.1 hc.2.2
    exact most_trans (run_le r (by rw [hs]; exact fun d hd => hf d (List.mem_cons_of_mem _ hd))) (step_le hc.1 hc.2.1 hc.2.2)
theorem perm_pos {l : List Int} {n : Nat} (h : l.Perm (ascN n)) : ∀ v ∈ l, 1 ≤ v := fun v hv => by
  obtain ⟨k, _, rfl⟩ := List.mem_map.mp (h.mem_iff.mp hv)
  omega
theorem most_anti {a b : List Int} {n : Nat} (ha : a.Perm (ascN n)) (hb : b.Perm (ascN n)) (h : AtMost a b) (g : AtMost b a) : a = b := by
  rw [most_zc] at h g
  refine zc_ext (ha.length_eq.trans hb.length_eq.symm) fun t p _ => ?_
  by_cases ht : t < 1
  · rw [zc_low (perm_pos ha) ht, zc_low (perm_pos hb) ht]
  · obtain ⟨q, rfl⟩ := Int.eq_ofNat_of_zero_le (show 0 ≤ t by omega)
    exact Nat.le_antisymm (g p q) (h p q)
theorem asc_least {m : List Int} {n : Nat} (h : m.Perm (ascN n)) : AtMost (ascN n) m := by
  rw [most_zc]
  intro p q
  rw [up_zc (q : Int) (ascN n) p (asc_up n), ← h.countP_eq]
  refine Nat.le_min.mpr ⟨zc_le m q p, ?_⟩
  exact (List.take_sublist p m).countP_le
theorem least_is {m : List Int} {n : Nat} (h : m.Perm (ascN n)) (g : AtMost m (ascN n)) : m = ascN n := most_anti h (List.Perm.refl _) g (asc_least h)
theorem ascN_length' (n : Nat) : (ascN n).length = n := by simp [ascN]
theorem run_perm_n {l : List Int} {n : Nat} {cs : List Cmd} (h : l.Perm (ascN n)) (hf : Fits n cs) : (runM l cs).Perm (ascN n) := (runM_perm cs l (by rw [h.length_eq, ascN_length']; exact hf)).trans h
theorem back_perm_n {l : List Int} {n : Nat} {cs : List Cmd} (h : l.Perm (ascN n)) (hf : Fits n cs) : (backM cs l).Perm (ascN n) := (backM_perm (by rw [h.length_eq, ascN_length']; exact hf)).trans h
theorem perm_len {l : List Int} {n : Nat} (h : l.Perm (ascN n)) : l.length = n := by rw [h.length_eq, ascN_length']
/-- a row gets sorted exactly if it is at most the greatest row that does -/
theorem sorted_iff {l : List Int} {n : Nat} {cs : List Cmd} (h : l.Perm (ascN n)) (hf : Fits n cs) : runM l cs = ascN n ↔ AtMost l (backM cs (ascN n)) := by
  rw [← gal_run cs (by rw [perm_len h, ascN_length']) (by rw [ascN_length']; exact hf)]
  exact ⟨fun e => e ▸ most_refl _, fun g => least_is (run_perm_n h hf) g⟩
/-- the greatest row before a row is led to at most it -/
theorem back_run {m : List Int} {n : Nat} {cs : List Cmd} (h : m.Perm (ascN n)) (hf : Fits n cs) : AtMost (runM (backM cs m) cs) m :=
  (gal_run cs (by rw [perm_len (back_perm_n h hf), perm_len h]) (by rw [perm_len h]; exact hf)).mpr (most_refl _)
theorem to_back {l : List Int} {n : Nat} {cs : List Cmd} (h : l.Perm (ascN n)) (hf : Fits n cs) : AtMost l (backM cs (runM l cs)) := by
  have hl := perm_len (run_perm_n h hf)
  exact (gal_run cs (by rw [hl, perm_len h]) (by rw [hl]; exact hf)).mp (most_refl _)
/-- what a script made is made of the greatest row before it -/
theorem made_back {l : List Int} {n : Nat} {cs : List Cmd} (h : l.Perm (ascN n)) (hf : Fits n cs) : runM (backM cs (runM l cs)) cs = runM l cs := by
  have hr := run_perm_n h hf
  have hb := back_perm_n hr hf
  refine most_anti (run_perm_n hb hf) hr (back_run hr hf) ?_
  exact run_mono cs (by rw [perm_len h, perm_len hb]) (by rw [perm_len hb]; exact hf) (to_back h hf)
theorem back_mono {l m : List Int} {n : Nat} {cs : List Cmd} (h : l.Perm (ascN n)) (g : m.Perm (ascN n)) (hf : Fits n cs) (a : AtMost l m) : AtMost (backM cs l) (backM cs m) := by
  have hb := back_perm_n h hf
  refine (gal_run cs (by rw [perm_len hb, perm_len g]) (by rw [perm_len g]; exact hf)).mp (most_trans (back_run h hf) a)
/-- every arrangement is at most the falling one -/
theorem desc_most {m : List Int} {n : Nat} (h : m.Perm (ascN n)) : AtMost m (desc n) := by
  have hl := perm_len h
  refine (most_iff (arr_asc h) (arr_asc (desc_perm n)) (by rw [hl, desc_len])).mpr fun p hp q hq => ?_
  rw [hl] at hp hq
  have cz : ∀ (l : List Int), cnt l p q = zc l q p := fun l => by unfold cnt zc; rw [List.countP_eq_length_filter]
  rw [cz, cz]
  have eq' : ((n : Int) - ((n - q : Nat) : Int)) = (q : Int) := by omega
  have d1 := zc_desc (n := n) (n - q) (by omega) p hp
  have d2 := zc_desc (n := n) (n - q) (by omega) n (Nat.le_refl _)
  rw [eq'] at d1 d2
  have e1 : zc m q n = zc (desc n) q n := by
    rw [zc_all (by rw [hl]; exact Nat.le_refl _), zc_all (by rw [desc_len]; exact Nat.le_refl _), (h.trans (desc_perm n).symm).countP_eq]
  have m1 := (zc_mono (l := m) (t := q) (p := p) (n - p)).2
  rw [show p + (n - p) = n by omega] at m1
  omega
/-- a script whose effect is at most another one's leads all rows to at most what the other one does -/
theorem eff_most {l : List Int} {n : Nat} {cs ds : List Cmd} (hl : l.length = n) (hc : Fits n cs) (hd : Fits n ds) (h : AtMost (runM (desc n) cs) (runM (desc n) ds)) : AtMost (runM l cs) (runM l ds) := by
  have a := told_run (n := n) (l0 := l) cs l (desc n) hc (by have := told_nil (l := l); rwa [hl] at this)
  have b := told_run (n := n) (l0 := l) ds l (desc n) hd (by have := told_nil (l := l); rwa [hl] at this)
  rw [most_zc] at h ⊢
  have key : ∀ p, p ≤ n → ∀ q : Nat, zc (runM l ds) q p ≤ zc (runM l cs) q p := fun p hp q => by
    obtain ⟨k, hk, e1⟩ := (a.2.2 q p hp).2
    have e2 := (b.2.2 q p hp).1 k hk
    have e3 := h p (n - k)
    rw [show (((n - k : Nat) : Nat) : Int) = (n : Int) - (k : Int) by omega] at e3
    omega
  intro p q
  by_cases hp : p ≤ n
  · exact key p hp q
  · have := key n (Nat.le_refl _) q
    rw [zc_all (l := runM l ds) (p := p) (by rw [b.1]; omega), zc_all (l := runM l cs) (p := p) (by rw [a.1]; omega)]
    rw [zc_all (l := runM l ds) (p := n) (by rw [b.1]; exact Nat.le_refl _), zc_all (l := runM l cs) (p := n) (by rw [a.1]; exact Nat.le_refl _)] at this
    exact this
theorem srt_asc {l : List Int} {n : Nat} (h : l.Perm (ascN n)) : srt l = ascN n := (srt_is h.symm (asc_up n)).symm
end My
namespace My
/-- whether some command holds both this place and the next one -/
def lnk (cs : List Cmd) (p : Nat) : Bool := cs.any fun c => decide (c.1 ≤ p) && decide (p < c.2)
/-- the flags of the places 1 to n -/
def flg (n : Nat) (cs : List Cmd) : List Bool := (List.range n).map fun k => lnk cs (k + 1)
/-- blocks so far: closed ones, and where the open one begins, behind i places -/
def blkU (cs : List Cmd) : Nat → List Cmd × Nat
  | 0 => ([], 1)
  | i + 1 => if lnk cs (i + 1) then blkU cs i else ((blkU cs i).1 ++ [((blkU cs i).2, i + 1)], i + 2)
def blkM (n : Nat) (cs : List Cmd) : List Cmd := (blkU cs n).1
theorem flg_len (n : Nat) (cs : List Cmd) : (flg n cs).length = n := by simp [flg]
theorem flg_at {n : Nat} {cs : List Cmd} {i : Nat} (h : i < (flg n cs).length) : (flg n cs)[i] = lnk cs (i + 1) := by simp [flg]
end My
namespace My
open L2
theorem set_fun {α : Type} (f g : Nat → α) {n k : Nat} {v : α} (h : ∀ i, i < n → g i = if i = k then v else f i) : ((List.range n).map f).set k v = (List.range n).map g := by
  refine List.ext_getElem (by simp) fun i h1 h2 => ?_
  have hi : i < n := by simpa using h2
  rw [List.getElem_set, List.getElem_map, List.getElem_map, List.getElem_range, h i hi]
  by_cases e : k = i
  · rw [if_pos e, if_pos e.symm]
  · rw [if_neg e, if_neg fun z => e z.symm]
theorem lnk_snoc (cs : List Cmd) (c : Cmd) (p : Nat) : lnk (cs ++ [c]) p = (lnk cs p || (decide (c.1 ≤ p) && decide (p < c.2))) := by
  unfold lnk; rw [List.any_append]; simp
/-- flags amid the walk over a command -/
def flgU (n : Nat) (cs : List Cmd) (c : Cmd) (j : Nat) : List V := (List.range n).map fun i => V.bl (lnk cs (i + 1) || (decide (c.1 ≤ i + 1) && decide (i + 1 < c.1 + j)))
theorem flgU_0 (n : Nat) (cs : List Cmd) (c : Cmd) : flgU n cs c 0 = (flg n cs).map V.bl := by
  unfold flgU flg
  rw [List.map_map]
  refine List.map_congr_left fun i _ => ?_
  have : (decide (c.1 ≤ i + 1) && decide (i + 1 < c.1 + 0)) = false := by
    by_cases h : c.1 ≤ i + 1
    · rw [decide_eq_false (by omega : ¬ i + 1 < c.1 + 0)]; simp
    · rw [decide_eq_false h]; rfl
  rw [this]; simp
theorem flgU_end (n : Nat) (cs : List Cmd) (c : Cmd) (h : c.1 ≤ c.2) : flgU n cs c (c.2 - c.1) = (flg n (cs ++ [c])).map V.bl := by
  unfold flgU flg
  rw [List.map_map]
  refine List.map_congr_left fun i _ => ?_
  show V.bl _ = V.bl (lnk (cs ++ [c]) (i + 1))
  rw [lnk_snoc, show c.1 + (c.2 - c.1) = c.2 by omega]
theorem flgU_set (n : Nat) (cs : List Cmd) (c : Cmd) (j : Nat) (h1 : 1 ≤ c.1) : (flgU n cs c j).set (c.1 + j - 1) (V.bl true) = flgU n cs c (j + 1) := by
  unfold flgU
  refine set_fun _ _ fun i hi => ?_
  by_cases e : i = c.1 + j - 1
  · subst e
    rw [if_pos rfl, decide_eq_true (by omega : c.1 ≤ c.1 + j - 1 + 1), decide_eq_true (by omega : c.1 + j - 1 + 1 < c.1 + (j + 1))]; simp
  · rw [if_neg e]
    have : decide (i + 1 < c.1 + (j + 1)) = decide (i + 1 < c.1 + j) ∨ ¬ c.1 ≤ i + 1 := by
      by_cases g : c.1 ≤ i + 1
      · left; exact decide_eq_decide.mpr ⟨fun _ => by omega, fun _ => by omega⟩
      · right; exact g
    rcases this with g | g
    · rw [g]
    · rw [decide_eq_false g]; rfl
theorem flgU_len (n : Nat) (cs : List Cmd) (c : Cmd) (j : Nat) : (flgU n cs c j).length = n := by simp [flgU]
theorem flg_nil (n : Nat) : (List.replicate n [V.bl false]).flatten = (flg n []).map V.bl := by
  unfold flg lnk
  rw [List.map_map]
  induction n with
  | zero => rfl
  | succ n ih =>
    rw [List.replicate_succ', List.flatten_append, ih, List.range_succ, List.map_append]; rfl
end My
namespace My
/-! the arrangements that a script leaves as they are -/
theorem up_adj : ∀ {l : List Int}, (∀ i, i + 1 < l.length → l.getD i 0 ≤ l.getD (i + 1) 0) → l.Pairwise (· ≤ ·)
  | [], _ => List.Pairwise.nil
  | [x], _ => List.pairwise_singleton _ _
  | x :: y :: r, h => by
    have h0 : x ≤ y := h 0 (by simp)
    have ih := up_adj (l := y :: r) fun i hi => h (i + 1) (by simpa using hi)
    refine List.pairwise_cons.mpr ⟨fun z hz => ?_, ih⟩
    rcases List.mem_cons.mp hz with e | e
    · rw [e]; exact h0
    · exact Int.le_trans h0 ((List.pairwise_cons.mp ih).1 z e)
theorem adj_up {l : List Int} (h : l.Pairwise (· ≤ ·)) {i : Nat} (hi : i + 1 < l.length) : l.getD i 0 ≤ l.getD (i + 1) 0 := by
  have := List.pairwise_iff_getElem.mp h i (i + 1) (by omega) hi (by omega)
  simpa [List.getD, hi, show i < l.length by omega] using this
theorem str_adj {l : List Int} {a b : Nat} (h1 : 1 ≤ a) (h2 : b ≤ l.length) : ((l.drop (a - 1)).take (b - (a - 1))).Pairwise (· ≤ ·) ↔ ∀ p, a ≤ p → p < b → l.getD (p - 1) 0 ≤ l.getD p 0 := by
  have hg : ∀ i, i < b - (a - 1) → ((l.drop (a - 1)).take (b - (a - 1))).getD i 0 = l.getD (a - 1 + i) 0 := fun i hi => by
    simp [List.getD, List.getElem?_take, hi, List.getElem?_drop]
  have hl : ((l.drop (a - 1)).take (b - (a - 1))).length = b - (a - 1) := by rw [List.length_take, List.length_drop]; omega
  constructor
  · intro h p hp1 hp2
    have := adj_up h (i := p - a) (by rw [hl]; omega)
    rw [hg _ (by omega), hg _ (by omega), show a - 1 + (p - a) = p - 1 by omega, show a - 1 + (p - a + 1) = p by omega] at this
    exact this
  · intro h
    refine up_adj fun i hi => ?_
    rw [hl] at hi
    rw [hg _ (by omega), hg _ (by omega)]
    have := h (a + i) (by omega) (by omega)
    rw [show a + i - 1 = a - 1 + i by omega] at this
    rw [show a - 1 + (i + 1) = a + i by omega]
    exact this
theorem step_fix {l : List Int} {c : Cmd} (h1 : 1 ≤ c.1) (h2 : c.1 ≤ c.2) (h3 : c.2 ≤ l.length) : step l c = l ↔ ∀ p, c.1 ≤ p → p < c.2 → l.getD (p - 1) 0 ≤ l.getD p 0 := by
  rw [← str_adj h1 h3]
  have e0 : l.take (c.1 - 1) ++ (l.drop (c.1 - 1)).take (c.2 - (c.1 - 1)) ++ l.drop c.2 = l := by
    conv => rhs; rw [← List.take_append_drop (c.1 - 1) l, ← List.take_append_drop (c.2 - (c.1 - 1)) (l.drop (c.1 - 1)), List.drop_drop, show c.1 - 1 + (c.2 - (c.1 - 1)) = c.2 by omega]
    rw [List.append_assoc]
  constructor
  · intro e
    have e1 : l.take (c.1 - 1) ++ srt ((l.drop (c.1 - 1)).take (c.2 - (c.1 - 1))) ++ l.drop c.2 = l.take (c.1 - 1) ++ (l.drop (c.1 - 1)).take (c.2 - (c.1 - 1)) ++ l.drop c.2 := by
      rw [e0]; exact e
    have e2 := List.append_cancel_left (List.append_cancel_right e1 |>.trans rfl)
    rw [← e2]; exact srt_up _
  · intro h
    show l.take (c.1 - 1) ++ srt ((l.drop (c.1 - 1)).take (c.2 - (c.1 - 1))) ++ l.drop c.2 = l
    rw [srt_id h]; exact e0
theorem run_fix_all : ∀ (cs : List Cmd) (l : List Int), Fits l.length cs → (runM l cs = l ↔ ∀ c ∈ cs, step l c = l)
  | [], l, _ => ⟨(fun _ c hc => by cases hc), fun _ => rfl⟩
  | c :: r, l, hf => by
    have hc := hf c List.mem_cons_self
    have hs : (step l c).length = l.length := seg_len hc.2.1 hc.2.2
    have hr : Fits l.length r := fun d hd => hf d (List.mem_cons_of_mem _ hd)
    have i1 := step_inv hc.2.1 hc.2.2
    have i2 := run_inv r (step l c) (by rw [hs]; exact hr)
    constructor
    · intro h
      have h' : runM (step l c) r = l := h
      rw [h'] at i2
      have e : step l c = l := i1.2 (by omega)
      rw [e] at h'
      have ih := (run_fix_all r l hr).mp h'
      intro d hd
      rcases List.mem_cons.mp hd with g | g
      · rw [g]; exact e
      · exact ih d g
    · intro h
      show runM (step l c) r = l
      rw [h c List.mem_cons_self]
      exact (run_fix_all r l hr).mpr fun d hd => h d (List.mem_cons_of_mem _ hd)
theorem lnk_iff {cs : List Cmd} {p : Nat} : lnk cs p = true ↔ ∃ c ∈ cs, c.1 ≤ p ∧ p < c.2 := by
  unfold lnk
  rw [List.any_eq_true]
  constructor
  · rintro ⟨c, hc, e⟩; simp at e; exact ⟨c, hc, e⟩
  · rintro ⟨c, hc, e1, e2⟩; exact ⟨c, hc, by simp [e1, e2]⟩
theorem fix_lnk {cs : List Cmd} {l : List Int} (hf : Fits l.length cs) : runM l cs = l ↔ ∀ p, lnk cs p = true → l.getD (p - 1) 0 ≤ l.getD p 0 := by
  rw [run_fix_all cs l hf]
  constructor
  · intro h p hp
    obtain ⟨c, hc, e1, e2⟩ := lnk_iff.mp hp
    have hc' := hf c hc
    exact (step_fix hc'.1 hc'.2.1 hc'.2.2).mp (h c hc) p e1 e2
  · intro h c hc
    have hc' := hf c hc
    exact (step_fix hc'.1 hc'.2.1 hc'.2.2).mpr fun p h1 h2 => h p (lnk_iff.mpr ⟨c, hc, h1, h2⟩)
/-- blocks that lie one behind the other -/
def Tile : Nat → List Cmd → Nat → Prop
  | s, [], e => s = e
  | s, c :: r, e => c.1 = s ∧ s ≤ c.2 ∧ Tile (c.2 + 1) r e
theorem tile_snoc : ∀ {bs : List Cmd} {s m : Nat} {c : Cmd}, Tile s bs m → c.1 = m → m ≤ c.2 → Tile s (bs ++ [c]) (c.2 + 1)
  | [], _, _, _, h, h1, h2 => ⟨h1.trans h.symm, by rw [show _ = _ from h]; exact h2, rfl⟩
  | _ :: _, _, _, _, h, h1, h2 => ⟨h.1, h.2.1, tile_snoc h.2.2 h1 h2⟩
theorem blkU_ok (cs : List Cmd) : ∀ i, Tile 1 (blkU cs i).1 (blkU cs i).2 ∧ 1 ≤ (blkU cs i).2 ∧ (blkU cs i).2 ≤ i + 1 ∧ (∀ p, (blkU cs i).2 ≤ p → p ≤ i → lnk cs p = true) ∧ (∀ c ∈ (blkU cs i).1, lnk cs c.2 = false ∧ ∀ p, c.1 ≤ p → p < c.2 → lnk cs p = true)
  | 0 => ⟨rfl, Nat.le_refl _, Nat.le_refl _, (fun p h1 h2 => by have : (blkU cs 0).2 = 1 := rfl; omega), fun c hc => by cases hc⟩
  | i + 1 => by
    obtain ⟨h1, h2, h3, h4, h5⟩ := blkU_ok cs i
    have e : blkU cs (i + 1) = if lnk cs (i + 1) then blkU cs i else ((blkU cs i).1 ++ [((blkU cs i).2, i + 1)], i + 2) := rfl
    by_cases g : lnk cs (i + 1) = true
    · rw [e, if_pos g]
      refine ⟨h1, h2, by omega, fun p hp1 hp2 => ?_, h5⟩
      by_cases q : p ≤ i
      · exact h4 p hp1 q
      · rw [show p = i + 1 by omega]; exact g
    · rw [e, if_neg g]
      refine ⟨tile_snoc (c := ((blkU cs i).2, i + 1)) h1 rfl h3, by show 1 ≤ i + 2; omega, Nat.le_refl _, (fun p hp1 hp2 => by have : i + 2 ≤ p := hp1; omega), fun c hc => ?_⟩
      rcases List.mem_append.mp hc with q | q
      · exact h5 c q
      · rw [List.mem_singleton.mp q]
        exact ⟨by simpa using g, fun p hp1 hp2 => h4 p hp1 (by have : p < i + 1 := hp2; omega)⟩
theorem blkM_ok {n : Nat} {cs : List Cmd} (hf : Fits n cs) (hn : 1 ≤ n) : Tile 1 (blkM n cs) (n + 1) ∧ ∀ c ∈ blkM n cs, lnk cs c.2 = false ∧ ∀ p, c.1 ≤ p → p < c.2 → lnk cs p = true := by
  obtain ⟨h1, h2, h3, h4, h5⟩ := blkU_ok cs n
  have hl : lnk cs n = false := by
    cases e : lnk cs n with
    | false => rfl
    | true =>
      obtain ⟨c, hc, e1, e2⟩ := lnk_iff.mp e
      have := hf c hc
      omega
  have hs : (blkU cs n).2 = n + 1 := by
    apply Classical.byContradiction
    intro g
    have := h4 n (by omega) (Nat.le_refl n)
    rw [hl] at this; cases this
  exact ⟨by rw [hs] at h1; exact h1, h5⟩
theorem tile_mem : ∀ {bs : List Cmd} {s e p : Nat}, Tile s bs e → s ≤ p → p < e → ∃ c ∈ bs, c.1 ≤ p ∧ p ≤ c.2
  | [], s, e, p, h, h1, h2 => by have : s = e := h; omega
  | c :: r, s, e, p, h, h1, h2 => by
    by_cases q : p ≤ c.2
    · exact ⟨c, List.mem_cons_self, by rw [h.1]; exact h1, q⟩
    · obtain ⟨d, hd, g⟩ := tile_mem h.2.2 (by omega) h2
      exact ⟨d, List.mem_cons_of_mem _ hd, g⟩
theorem tile_le : ∀ {bs : List Cmd} {s e : Nat}, Tile s bs e → s ≤ e ∧ ∀ c ∈ bs, s ≤ c.1 ∧ c.1 ≤ c.2 ∧ c.2 < e
  | [], s, e, h => ⟨Nat.le_of_eq h, fun c hc => by cases hc⟩
  | c :: r, s, e, h => by
    obtain ⟨h1, h2⟩ := tile_le h.2.2
    have h3 := h.1
    have h4 := h.2.1
    refine ⟨by omega, fun d hd => ?_⟩
    rcases List.mem_cons.mp hd with g | g
    · rw [g]; exact ⟨by omega, by omega, by omega⟩
    · obtain ⟨a, b, c'⟩ := h2 d g
      exact ⟨by omega, b, c'⟩
/-- the rows that rise along each block -/
def RiseB (bs : List Cmd) (l : List Int) : Prop := ∀ c ∈ bs, ∀ p, c.1 ≤ p → p < c.2 → l.getD (p - 1) 0 ≤ l.getD p 0
theorem fix_rise {n : Nat} {cs : List Cmd} {l : List Int} (hf : Fits n cs) (hn : 1 ≤ n) (hl : l.length = n) : runM l cs = l ↔ RiseB (blkM n cs) l := by
  obtain ⟨h1, h2⟩ := blkM_ok hf hn
  rw [fix_lnk (by rw [hl]; exact hf)]
  constructor
  · intro h c hc p hp1 hp2
    exact h p ((h2 c hc).2 p hp1 hp2)
  · intro h p hp
    obtain ⟨c0, hc0, e1, e2⟩ := lnk_iff.mp hp
    have := hf c0 hc0
    obtain ⟨c, hc, g1, g2⟩ := tile_mem h1 (p := p) (by omega) (by omega)
    refine h c hc p g1 ?_
    rcases Nat.lt_or_eq_of_le g2 with g | g
    · exact g
    · have := (h2 c hc).1
      rw [← g, hp] at this; cases this
/-! choices -/
def chs : List Int → Nat → List (List Int)
  | _, 0 => [[]]
  | [], _ + 1 => []
  | v :: r, k + 1 => (chs r k).map (fun t => v :: t) ++ chs r (k + 1)
theorem chs_zero (vs : List Int) : chs vs 0 = [[]] := by cases vs <;> rfl
theorem chs_len : ∀ (vs : List Int) (k : Nat), (chs vs k).length = Xk.cmb vs.length k
  | [], 0 => rfl
  | _ :: _, 0 => rfl
  | [], _ + 1 => rfl
  | v :: r, k + 1 => by
    show ((chs r k).map _ ++ chs r (k + 1)).length = Xk.cmb r.length k + Xk.cmb r.length (k + 1)
    rw [List.length_append, List.length_map, chs_len r k, chs_len r (k + 1)]
theorem chs_mem : ∀ {vs : List Int} {k : Nat} {c : List Int}, c ∈ chs vs k ↔ c.Sublist vs ∧ c.length = k
  | vs, 0, c => by
    rw [chs_zero, List.mem_singleton]
    exact ⟨fun h => by rw [h]; exact ⟨List.nil_sublist _, rfl⟩, fun h => List.eq_nil_of_length_eq_zero h.2⟩
  | [], k + 1, c => by
    show c ∈ ([] : List (List Int)) ↔ _
    constructor
    · intro h; cases h
    · rintro ⟨h1, h2⟩
      rw [List.sublist_nil.mp h1] at h2; cases h2
  | v :: r, k + 1, c => by
    show c ∈ (chs r k).map (fun t => v :: t) ++ chs r (k + 1) ↔ _
    rw [List.mem_append, List.mem_map, chs_mem (k := k + 1)]
    constructor
    · rintro (⟨t, ht, rfl⟩ | ⟨h1, h2⟩)
      · obtain ⟨h1, h2⟩ := chs_mem.mp ht
        exact ⟨h1.cons₂ v, by rw [List.length_cons, h2]⟩
      · exact ⟨h1.cons v, h2⟩
    · rintro ⟨h1, h2⟩
      cases h1 with
      | cons _ h => exact .inr ⟨h, h2⟩
      | cons_cons _ h => exact .inl ⟨_, chs_mem.mpr ⟨h, by simpa using h2⟩, rfl⟩
/-- the order of lists -/
def lexL : List Int → List Int → Prop
  | x :: r, y :: t => x < y ∨ (x = y ∧ lexL r t)
  | _, _ => False
theorem lex_asym : ∀ {a b : List Int}, lexL a b → ¬ lexL b a
  | [], _, h => h.elim
  | _ :: _, [], h => h.elim
  | x :: r, y :: t, h => by
    intro g
    rcases h with h | ⟨h, h'⟩ <;> rcases g with g | ⟨g, g'⟩
    · omega
    · omega
    · omega
    · exact lex_asym h' g'
theorem lex_app : ∀ {a b x y : List Int}, a.length = b.length → lexL a b → lexL (a ++ x) (b ++ y)
  | [], _, _, _, _, h => h.elim
  | _ :: _, [], _, _, _, h => h.elim
  | p :: r, q :: t, x, y, hl, h => by
    rcases h with h | ⟨h, h'⟩
    · exact .inl h
    · exact .inr ⟨h, lex_app (by simpa using hl) h'⟩
theorem lex_same : ∀ (a : List Int) {x y : List Int}, lexL x y → lexL (a ++ x) (a ++ y)
  | [], _, _, h => h
  | _ :: r, _, _, h => .inr ⟨rfl, lex_same r h⟩
theorem chs_lex : ∀ {vs : List Int} {k : Nat}, vs.Pairwise (· < ·) → (chs vs k).Pairwise lexL
  | vs, 0, _ => by rw [chs_zero]; exact List.pairwise_singleton _ _
  | [], k + 1, _ => List.Pairwise.nil
  | v :: r, k + 1, h => by
    obtain ⟨h1, h2⟩ := List.pairwise_cons.mp h
    show ((chs r k).map (fun t => v :: t) ++ chs r (k + 1)).Pairwise lexL
    rw [List.pairwise_append]
    refine ⟨?_, chs_lex h2, fun a ha b hb => ?_⟩
    · rw [List.pairwise_map]
      exact (chs_lex h2).imp fun h => .inr ⟨rfl, h⟩
    · obtain ⟨t, _, rfl⟩ := List.mem_map.mp ha
      obtain ⟨g1, g2⟩ := chs_mem.mp hb
      match b, g2 with
      | y :: u, _ => exact .inl (h1 y (g1.subset List.mem_cons_self))
theorem sorted_eq : ∀ {A B : List (List Int)}, A.Pairwise lexL → B.Pairwise lexL → (∀ x, x ∈ A ↔ x ∈ B) → A = B
  | [], [], _, _, _ => rfl
  | [], b :: B, _, _, h => by have := (h b).mpr List.mem_cons_self; cases this
  | a :: A, [], _, _, h => by have := (h a).mp List.mem_cons_self; cases this
  | a :: A, b :: B, hA, hB, h => by
    obtain ⟨a1, a2⟩ := List.pairwise_cons.mp hA
    obtain ⟨b1, b2⟩ := List.pairwise_cons.mp hB
    have e : a = b := by
      rcases List.mem_cons.mp ((h a).mp List.mem_cons_self) with g | g
      · exact g
      · rcases List.mem_cons.mp ((h b).mpr List.mem_cons_self) with q | q
        · exact q.symm
        · exact absurd (a1 b q) (lex_asym (b1 a g))
    subst e
    have irr : ∀ {x : List Int}, ¬ lexL x x := fun g => lex_asym g g
    rw [sorted_eq a2 b2 fun x => ?_]
    constructor
    · intro hx
      rcases List.mem_cons.mp ((h x).mp (List.mem_cons_of_mem _ hx)) with g | g
      · rw [g] at hx; exact absurd (a1 a hx) irr
      · exact g
    · intro hx
      rcases List.mem_cons.mp ((h x).mpr (List.mem_cons_of_mem _ hx)) with g | g
      · rw [g] at hx; exact absurd (b1 a hx) irr
      · exact g
/-! rows block by block -/
def rest (vs c : List Int) : List Int := vs.filter fun v => !decide (v ∈ c)
def enu : List Nat → List Int → List (List Int)
  | [], _ => [[]]
  | k :: ks, vs => (chs vs k).flatMap fun c => (enu ks (rest vs c)).map fun t => c ++ t
def mulM : List Nat → Nat → Nat
  | [], _ => 1
  | k :: ks, m => Xk.cmb m k * mulM ks (m - k)
theorem rest_sub (vs c : List Int) : (rest vs c).Sublist vs := List.filter_sublist
theorem rest_up {vs c : List Int} (h : vs.Pairwise (· < ·)) : (rest vs c).Pairwise (· < ·) := h.sublist (rest_sub vs c)
theorem up_nodup {vs : List Int} (h : vs.Pairwise (· < ·)) : vs.Nodup := h.imp fun g => by omega
theorem rest_perm {vs c : List Int} (h : vs.Pairwise (· < ·)) (hc : c.Sublist vs) : (c ++ rest vs c).Perm vs := by
  have e1 : vs.filter (fun v => decide (v ∈ c)) = c := by
    have hp : (vs.filter fun v => decide (v ∈ c)).Pairwise (· ≤ ·) := (h.sublist List.filter_sublist).imp fun g => by omega
    have hq : c.Pairwise (· ≤ ·) := (h.sublist hc).imp fun g => by omega
    refine up_unique ?_ hp hq
    refine (List.perm_ext_iff_of_nodup (up_nodup (h.sublist List.filter_sublist)) (up_nodup (h.sublist hc))).mpr fun x => ?_
    rw [List.mem_filter, decide_eq_true_eq]
    exact ⟨fun g => g.2, fun g => ⟨hc.subset g, g⟩⟩
  have := List.filter_append_perm (fun v => decide (v ∈ c)) vs
  rw [e1] at this
  exact this
theorem rest_len {vs c : List Int} (h : vs.Pairwise (· < ·)) (hc : c.Sublist vs) : (rest vs c).length = vs.length - c.length := by
  have := (rest_perm h hc).length_eq
  rw [List.length_append] at this
  omega
theorem flat_len {α β : Type} {f : α → List β} {q : Nat} : ∀ {A : List α}, (∀ a ∈ A, (f a).length = q) → (A.flatMap f).length = A.length * q
  | [], _ => by simp
  | a :: A, h => by
    rw [List.flatMap_cons, List.length_append, h a List.mem_cons_self, flat_len fun b hb => h b (List.mem_cons_of_mem _ hb), List.length_cons, Nat.succ_mul]; omega
theorem flat_at {α β : Type} {f : α → List β} {q : Nat} (hq : 0 < q) : ∀ {A : List α}, (∀ a ∈ A, (f a).length = q) → ∀ i, (A.flatMap f)[i]? = (A[i / q]?).bind fun a => (f a)[i % q]?
  | [], _, i => by simp
  | a :: A, h, i => by
    have h0 := h a List.mem_cons_self
    rw [List.flatMap_cons]
    by_cases g : i < q
    · rw [List.getElem?_append_left (by omega), Nat.div_eq_of_lt g, Nat.mod_eq_of_lt g]; rfl
    · rw [List.getElem?_append_right (by omega), h0, flat_at hq (fun b hb => h b (List.mem_cons_of_mem _ hb)) (i - q)]
      have e1 : i / q = (i - q) / q + 1 := by
        rw [Nat.div_eq_sub_div hq (by omega)]
      have e2 : (i - q) % q = i % q := by rw [Nat.mod_eq_sub_mod (a := i) (by omega)]
      rw [e1, e2]; rfl
theorem enu_len : ∀ (ks : List Nat) {vs : List Int}, vs.Pairwise (· < ·) → (enu ks vs).length = mulM ks vs.length
  | [], _, _ => rfl
  | k :: ks, vs, h => by
    show ((chs vs k).flatMap _).length = _
    rw [flat_len (q := mulM ks (vs.length - k)) fun c hc => ?_, chs_len]
    · rfl
    · obtain ⟨h1, h2⟩ := chs_mem.mp hc
      rw [List.length_map, enu_len ks (rest_up h), rest_len h h1, h2]
/-- rows that rise by lengths -/
def Rise : List Nat → List Int → Prop
  | [], l => l = []
  | k :: ks, l => (l.take k).Pairwise (· ≤ ·) ∧ Rise ks (l.drop k)
theorem enu_mem : ∀ (ks : List Nat) {vs l : List Int}, vs.Pairwise (· < ·) → ks.sum = vs.length → (l ∈ enu ks vs ↔ l.Perm vs ∧ Rise ks l)
  | [], vs, l, h, hs => by
    have hv : vs = [] := List.eq_nil_of_length_eq_zero hs.symm
    subst hv
    show l ∈ [[]] ↔ _
    rw [List.mem_singleton]
    exact ⟨fun e => by rw [e]; exact ⟨List.Perm.refl _, rfl⟩, fun g => g.2⟩
  | k :: ks, vs, l, h, hs => by
    rw [List.sum_cons] at hs
    show l ∈ (chs vs k).flatMap _ ↔ _
    rw [List.mem_flatMap]
    constructor
    · rintro ⟨c, hc, hl⟩
      obtain ⟨t, ht, rfl⟩ := List.mem_map.mp hl
      obtain ⟨h1, h2⟩ := chs_mem.mp hc
      obtain ⟨g1, g2⟩ := (enu_mem ks (rest_up h) (by rw [rest_len h h1, h2]; omega)).mp ht
      refine ⟨(g1.append_left c).trans (rest_perm h h1), ?_, ?_⟩
      · rw [← h2, List.take_left]
        exact (h.sublist h1).imp fun g => by omega
      · rw [← h2, List.drop_left]; exact g2
    · rintro ⟨g1, g2, g3⟩
      have hn : l.Nodup := g1.nodup_iff.mpr (up_nodup h)
      have hll := g1.length_eq
      have hlt : (l.take k).Pairwise (· < ·) := by
        have hn' : (l.take k).Nodup := hn.sublist (List.take_sublist _ _)
        exact (g2.and hn').imp fun g => by have := g.1; have := g.2; omega
      have hsub : (l.take k).Sublist vs := by
        have hp : (l.take k).Perm (vs.filter fun v => decide (v ∈ l.take k)) := by
          refine (List.perm_ext_iff_of_nodup (up_nodup hlt) (up_nodup (h.sublist List.filter_sublist))).mpr fun x => ?_
          rw [List.mem_filter, decide_eq_true_eq]
          exact ⟨fun q => ⟨g1.mem_iff.mp (List.mem_of_mem_take q), q⟩, fun q => q.2⟩
        rw [up_unique hp g2 ((h.sublist List.filter_sublist).imp fun g => by omega)]
        exact List.filter_sublist
      have hck : (l.take k).length = k := by rw [List.length_take]; omega
      refine ⟨l.take k, chs_mem.mpr ⟨hsub, hck⟩, List.mem_map.mpr ⟨l.drop k, ?_, List.take_append_drop k l⟩⟩
      refine (enu_mem ks (rest_up h) (by rw [rest_len h hsub, hck]; omega)).mpr ⟨?_, g3⟩
      have e1 := rest_perm h hsub
      have e2 : (l.take k ++ l.drop k).Perm (l.take k ++ rest vs (l.take k)) := by
        rw [List.take_append_drop]; exact g1.trans e1.symm
      exact (List.perm_append_left_iff _).mp e2
theorem enu_lex : ∀ (ks : List Nat) {vs : List Int}, vs.Pairwise (· < ·) → (enu ks vs).Pairwise lexL
  | [], _, _ => List.pairwise_singleton _ _
  | k :: ks, vs, h => by
    show ((chs vs k).flatMap _).Pairwise lexL
    rw [List.flatMap, List.pairwise_flatten]
    refine ⟨fun L hL => ?_, ?_⟩
    · obtain ⟨c, hc, rfl⟩ := List.mem_map.mp hL
      rw [List.pairwise_map]
      exact (enu_lex ks (rest_up h)).imp fun g => lex_same c g
    · rw [List.pairwise_map]
      have hm : ∀ a ∈ chs vs k, ∀ b ∈ chs vs k, lexL a b → ∀ x ∈ (enu ks (rest vs a)).map (fun t => a ++ t), ∀ y ∈ (enu ks (rest vs b)).map (fun t => b ++ t), lexL x y := fun a ha b hb g x hx y hy => by
        obtain ⟨t, _, rfl⟩ := List.mem_map.mp hx
        obtain ⟨u, _, rfl⟩ := List.mem_map.mp hy
        exact lex_app (by rw [(chs_mem.mp ha).2, (chs_mem.mp hb).2]) g
      exact List.Pairwise.imp_of_mem (fun ha hb g => hm _ ha _ hb g) (chs_lex h)
theorem tile_rise : ∀ {bs : List Cmd} {s e : Nat} {l : List Int}, Tile s bs e → 1 ≤ s → l.length + 1 = e → (Rise (bs.map fun c => c.2 - c.1 + 1) (l.drop (s - 1)) ↔ RiseB bs l)
  | [], s, e, l, h, h1, h2 => by
    have : s = e := h
    show l.drop (s - 1) = [] ↔ _
    rw [List.drop_of_length_le (by omega)]
    exact ⟨(fun _ c hc => by cases hc), fun _ => rfl⟩
  | c :: r, s, e, l, h, h1, h2 => by
    have hc1 := h.1
    have hc2 := h.2.1
    have ih := tile_rise h.2.2 (by omega) h2
    have hle := (tile_le h.2.2).1
    show ((l.drop (s - 1)).take (c.2 - c.1 + 1)).Pairwise (· ≤ ·) ∧ Rise (r.map fun c => c.2 - c.1 + 1) ((l.drop (s - 1)).drop (c.2 - c.1 + 1)) ↔ _
    rw [List.drop_drop, show s - 1 + (c.2 - c.1 + 1) = c.2 + 1 - 1 by omega, ih]
    have e1 : c.2 - c.1 + 1 = c.2 - (c.1 - 1) := by omega
    rw [e1, ← hc1, str_adj (by omega) (by omega)]
    constructor
    · rintro ⟨g1, g2⟩ d hd
      rcases List.mem_cons.mp hd with q | q
      · rw [q]; exact g1
      · exact g2 d q
    · intro g
      exact ⟨g c List.mem_cons_self, fun d hd => g d (List.mem_cons_of_mem _ hd)⟩
theorem tile_sum : ∀ {bs : List Cmd} {s e : Nat}, Tile s bs e → (bs.map fun c => c.2 - c.1 + 1).sum + s = e
  | [], s, e, h => by have : s = e := h; simp [this]
  | c :: r, s, e, h => by
    have := tile_sum h.2.2
    have h1 := h.1
    have h2 := h.2.1
    rw [List.map_cons, List.sum_cons]
    omega
/-- the lengths of a script's blocks -/
def lenM (n : Nat) (cs : List Cmd) : List Nat := (blkM n cs).map fun c => c.2 - c.1 + 1
theorem lenM_sum {n : Nat} {cs : List Cmd} (hf : Fits n cs) (hn : 1 ≤ n) : (lenM n cs).sum = n := by
  have := tile_sum (blkM_ok hf hn).1
  unfold lenM; omega
theorem asc_lt (n : Nat) : (ascN n).Pairwise (· < ·) := by
  unfold ascN
  rw [List.pairwise_map]
  exact List.pairwise_lt_range.imp fun h => by omega
/-- the rows that a script does not change, in the order of lists -/
theorem enu_fix {n : Nat} {cs : List Cmd} {l : List Int} (hf : Fits n cs) (hn : 1 ≤ n) : l ∈ enu (lenM n cs) (ascN n) ↔ l.Perm (ascN n) ∧ runM l cs = l := by
  rw [enu_mem (lenM n cs) (asc_lt n) (by rw [lenM_sum hf hn, ascN_length'])]
  constructor
  · rintro ⟨h1, h2⟩
    have hl := perm_len h1
    refine ⟨h1, (fix_rise hf hn hl).mpr ?_⟩
    have := (tile_rise (l := l) (blkM_ok hf hn).1 (Nat.le_refl 1) (by omega)).mp
    exact this h2
  · rintro ⟨h1, h2⟩
    have hl := perm_len h1
    refine ⟨h1, ?_⟩
    have := (tile_rise (l := l) (blkM_ok hf hn).1 (Nat.le_refl 1) (by omega)).mpr ((fix_rise hf hn hl).mp h2)
    exact this
/-! the number of a row -/
def chIx : List Int → List Int → Nat
  | v :: r, x :: t => if v = x then chIx r t else Xk.cmb r.length t.length + chIx r (x :: t)
  | _, _ => 0
theorem ch_at : ∀ {vs c : List Int}, vs.Pairwise (· < ·) → c.Sublist vs → (chs vs c.length)[chIx vs c]? = some c
  | vs, [], _, _ => by
    have : chIx vs [] = 0 := by cases vs <;> rfl
    rw [this]; show (chs vs 0)[0]? = _; rw [chs_zero]; rfl
  | [], x :: t, _, h => by have := List.sublist_nil.mp h; cases this
  | v :: r, x :: t, h, hc => by
    obtain ⟨h1, h2⟩ := List.pairwise_cons.mp h
    show ((chs r t.length).map (fun u => v :: u) ++ chs r (t.length + 1))[chIx (v :: r) (x :: t)]? = _
    by_cases e : v = x
    · subst e
      have hs : t.Sublist r := by
        cases hc with
        | cons _ g => exact absurd (h1 v (g.subset List.mem_cons_self)) (by omega)
        | cons_cons _ g => exact g
      have ih := ch_at h2 hs
      have hlt := (List.getElem?_eq_some_iff.mp ih).1
      rw [show chIx (v :: r) (v :: t) = chIx r t from if_pos rfl, List.getElem?_append_left (by rw [List.length_map]; exact hlt), List.getElem?_map, ih]; rfl
    · have hs : (x :: t).Sublist r := by
        cases hc with
        | cons _ g => exact g
        | cons_cons _ g => exact absurd rfl e
      have ih := ch_at h2 hs
      rw [show chIx (v :: r) (x :: t) = Xk.cmb r.length t.length + chIx r (x :: t) from if_neg e, List.getElem?_append_right (by rw [List.length_map, chs_len]; omega), List.length_map, chs_len,
        show Xk.cmb r.length t.length + chIx r (x :: t) - Xk.cmb r.length t.length = chIx r (x :: t) by omega]
      exact ih
def eIx : List Nat → List Int → List Int → Nat
  | [], _, _ => 0
  | k :: ks, vs, l => chIx vs (l.take k) * mulM ks (vs.length - k) + eIx ks (rest vs (l.take k)) (l.drop k)
theorem cmb_pos : ∀ {n k : Nat}, k ≤ n → 0 < Xk.cmb n k
  | n, 0, _ => by rw [Xk.cmb_zero]; exact Nat.one_pos
  | n + 1, k + 1, h => by
    show 0 < Xk.cmb n k + Xk.cmb n (k + 1)
    have := cmb_pos (n := n) (k := k) (by omega)
    omega
theorem mul_pos' : ∀ (ks : List Nat) {m : Nat}, ks.sum = m → 0 < mulM ks m
  | [], _, _ => Nat.one_pos
  | k :: ks, m, h => by
    rw [List.sum_cons] at h
    exact Nat.mul_pos (cmb_pos (by omega)) (mul_pos' ks (by omega))
theorem enu_at : ∀ (ks : List Nat) {vs l : List Int}, vs.Pairwise (· < ·) → ks.sum = vs.length → l.Perm vs → Rise ks l → (enu ks vs)[eIx ks vs l]? = some l ∧ eIx ks vs l < mulM ks vs.length
  | [], vs, l, h, hs, hp, hr => by
    have : l = [] := hr
    subst this
    exact ⟨rfl, Nat.one_pos⟩
  | k :: ks, vs, l, h, hs, hp, hr => by
    have hmem := (enu_mem (k :: ks) h hs).mpr ⟨hp, hr⟩
    rw [List.sum_cons] at hs
    have hll := hp.length_eq
    have hck : (l.take k).length = k := by rw [List.length_take]; omega
    obtain ⟨c, hc, hl⟩ := List.mem_flatMap.mp hmem
    obtain ⟨t, ht, e⟩ := List.mem_map.mp hl
    obtain ⟨h1, h2⟩ := chs_mem.mp hc
    have ec : l.take k = c := by rw [← e, ← h2, List.take_left]
    have et : l.drop k = t := by rw [← e, ← h2, List.drop_left]
    rw [← ec] at h1 ht
    rw [← et] at ht
    have hrl : (rest vs (l.take k)).length = vs.length - k := by rw [rest_len h h1, hck]
    obtain ⟨p1, p2⟩ := (enu_mem ks (rest_up h) (by rw [hrl]; omega)).mp ht
    obtain ⟨i1, i2⟩ := enu_at ks (rest_up h) (by rw [hrl]; omega) p1 p2
    rw [hrl] at i2
    have hq : 0 < mulM ks (vs.length - k) := mul_pos' ks (by omega)
    have a1 := ch_at h h1
    rw [hck] at a1
    have a2 := (List.getElem?_eq_some_iff.mp a1).1
    rw [chs_len] at a2
    have hdiv : (chIx vs (l.take k) * mulM ks (vs.length - k) + eIx ks (rest vs (l.take k)) (l.drop k)) / mulM ks (vs.length - k) = chIx vs (l.take k) := by
      rw [Nat.mul_comm, Nat.mul_add_div hq, Nat.div_eq_of_lt i2, Nat.add_zero]
    have hmod : (chIx vs (l.take k) * mulM ks (vs.length - k) + eIx ks (rest vs (l.take k)) (l.drop k)) % mulM ks (vs.length - k) = eIx ks (rest vs (l.take k)) (l.drop k) := by
      rw [Nat.mul_comm, Nat.mul_add_mod, Nat.mod_eq_of_lt i2]
    constructor
    · show ((chs vs k).flatMap fun c => (enu ks (rest vs c)).map fun t => c ++ t)[chIx vs (l.take k) * mulM ks (vs.length - k) + eIx ks (rest vs (l.take k)) (l.drop k)]? = _
      rw [flat_at hq (fun c hc => by
        obtain ⟨g1, g2⟩ := chs_mem.mp hc
        rw [List.length_map, enu_len ks (rest_up h), rest_len h g1, g2]), hdiv, hmod, a1]
      show ((enu ks (rest vs (l.take k))).map fun t => l.take k ++ t)[_]? = _
      rw [List.getElem?_map, i1]
      show some (l.take k ++ l.drop k) = _
      rw [List.take_append_drop]
    · show chIx vs (l.take k) * mulM ks (vs.length - k) + eIx ks (rest vs (l.take k)) (l.drop k) < Xk.cmb vs.length k * mulM ks (vs.length - k)
      have := Nat.mul_le_mul_right (mulM ks (vs.length - k)) (show chIx vs (l.take k) + 1 ≤ Xk.cmb vs.length k by omega)
      rw [Nat.succ_mul] at this
      omega
/-- no row stands twice -/
theorem lex_nodup {A : List (List Int)} (h : A.Pairwise lexL) : A.Nodup := h.imp fun g e => by subst e; exact lex_asym g g
theorem nodup_ix {α : Type} {A : List α} (h : A.Nodup) {i j : Nat} {x : α} (e : A[i]? = some x) (g : A[j]? = some x) : i = j := by
  obtain ⟨h1, e1⟩ := List.getElem?_eq_some_iff.mp e
  obtain ⟨h2, e2⟩ := List.getElem?_eq_some_iff.mp g
  have hp := List.pairwise_iff_getElem.mp (show A.Pairwise (· ≠ ·) from h)
  rcases Nat.lt_trichotomy i j with q | q | q
  · exact absurd (e1.trans e2.symm) (hp i j h1 h2 q)
  · exact q
  · exact absurd (e2.trans e1.symm) (hp j i h2 h1 q)
end My
namespace My
/-- commands as rows of two -/
def rowsC (cs : List Cmd) : List (List Int) := cs.map fun c => [((c.1 : Nat) : Int), ((c.2 : Nat) : Int)]
theorem rowsC_app (a b : List Cmd) : rowsC (a ++ b) = rowsC a ++ rowsC b := List.map_append
/-- the blocks up to place p + 1 -/
def blkP (cs : List Cmd) (p : Nat) : List Cmd := (blkU cs p).1 ++ [((blkU cs p).2, p + 1)]
theorem blkP_yes {cs : List Cmd} {p : Nat} (h : lnk cs (p + 1) = true) : blkP cs (p + 1) = (blkU cs p).1 ++ [((blkU cs p).2, p + 2)] := by
  have e : blkU cs (p + 1) = blkU cs p := by show (if lnk cs (p + 1) then _ else _) = _; rw [if_pos h]
  unfold blkP; rw [e]
theorem blkP_no {cs : List Cmd} {p : Nat} (h : ¬ lnk cs (p + 1) = true) : blkP cs (p + 1) = blkP cs p ++ [(p + 2, p + 2)] := by
  have e : blkU cs (p + 1) = ((blkU cs p).1 ++ [((blkU cs p).2, p + 1)], p + 2) := by show (if lnk cs (p + 1) then _ else _) = _; rw [if_neg h]
  unfold blkP; rw [e]
theorem blkP_end {cs : List Cmd} {p : Nat} (h : Fits (p + 1) cs) : blkP cs p = blkM (p + 1) cs := by
  have hl : ¬ lnk cs (p + 1) = true := by
    unfold lnk
    rw [List.any_eq_true]
    rintro ⟨c, hc, e⟩
    have := (h c hc).2.2
    simp at e
    omega
  unfold blkM blkP
  show _ = (if lnk cs (p + 1) then blkU cs p else ((blkU cs p).1 ++ [((blkU cs p).2, p + 1)], p + 2)).1
  rw [if_neg hl]
theorem blkP_len (cs : List Cmd) : ∀ p, (blkP cs p).length ≤ p + 1
  | 0 => by show 1 ≤ 1; omega
  | p + 1 => by
    by_cases h : lnk cs (p + 1) = true
    · have := blkP_len cs p
      rw [blkP_yes h]
      unfold blkP at this
      rw [List.length_append] at this ⊢
      simp only [List.length_singleton] at this ⊢
      omega
    · have := blkP_len cs p
      rw [blkP_no h, List.length_append]
      simp only [List.length_singleton]
      omega
/-- the hits of a place among the first j commands -/
def hitU (cs : List Cmd) (p j : Nat) : List Cmd := (cs.take j).filter fun c => decide (c.1 ≤ p) && decide (p < c.2)
theorem hit_nil (cs : List Cmd) (p : Nat) : hitU cs p cs.length = [] ↔ ¬ lnk cs p = true := by
  unfold hitU lnk
  rw [List.take_of_length_le (Nat.le_refl _), List.filter_eq_nil_iff, List.any_eq_true]
  constructor
  · rintro h ⟨c, hc, e⟩; exact h c hc e
  · intro h c hc e; exact h ⟨c, hc, e⟩
theorem hit_succ {cs : List Cmd} {p j : Nat} (hj : j < cs.length) : hitU cs p (j + 1) = hitU cs p j ++ if (decide (cs[j].1 ≤ p) && decide (p < cs[j].2)) = true then [cs[j]] else [] := by
  unfold hitU
  rw [List.take_add_one, List.getElem?_eq_getElem hj, List.filter_append]
  show _ ++ List.filter _ [cs[j]] = _
  by_cases g : (decide (cs[j].1 ≤ p) && decide (p < cs[j].2)) = true
  · rw [if_pos g, List.filter_cons_of_pos (p := fun c : Cmd => decide (c.1 ≤ p) && decide (p < c.2)) g]; rfl
  · rw [if_neg g, List.filter_cons_of_neg (p := fun c : Cmd => decide (c.1 ≤ p) && decide (p < c.2)) g]; rfl
theorem hit_len (cs : List Cmd) (p j : Nat) : (hitU cs p j).length ≤ j := by
  unfold hitU
  exact Nat.le_trans (List.length_filter_le _ _) (by rw [List.length_take]; omega)
end My
namespace My
/-! ### the stable effect -/
theorem zc_stay {l : List Int} {c : Cmd} {p : Nat} (h1 : 1 ≤ c.1) (h2 : c.1 ≤ c.2) (h3 : c.2 ≤ l.length) (t : Int) (g : ¬ (c.1 ≤ p ∧ p < c.2)) : zc (step l c) t p = zc l t p := by
  show zc (seg l c.1 c.2) t p = _
  rw [zc_seg h1 h2 h3]
  by_cases q : p < c.1 ∨ c.2 < p
  · rw [if_pos q]
  · rw [if_neg q]
    obtain rfl : p = c.2 := by omega
    have := (zc_mono (l := l) (t := t) (p := c.1 - 1) (c.2 - (c.1 - 1))).2
    rw [show c.1 - 1 + (c.2 - (c.1 - 1)) = c.2 by omega] at this
    omega
theorem zc_off {p : Nat} (t : Int) : ∀ (cs : List Cmd) (l : List Int), Fits l.length cs → (∀ c ∈ cs, ¬ (c.1 ≤ p ∧ p < c.2)) → zc (runM l cs) t p = zc l t p
  | [], l, _, _ => rfl
  | c :: r, l, hf, h => by
    have hc := hf c List.mem_cons_self
    have e : (step l c).length = l.length := seg_len hc.2.1 hc.2.2
    show zc (runM (step l c) r) t p = _
    rw [zc_off t r (step l c) (by rw [e]; exact fun d hd => hf d (List.mem_cons_of_mem _ hd)) fun d hd => h d (List.mem_cons_of_mem _ hd)]
    exact zc_stay hc.1 hc.2.1 hc.2.2 t (h c List.mem_cons_self)
theorem tile_fits {bs : List Cmd} {s e n : Nat} (h : Tile s bs e) (hs : 1 ≤ s) (he : e ≤ n + 1) : Fits n bs := fun c hc => by
  have := (tile_le h).2 c hc
  exact ⟨by omega, by omega, by omega⟩
theorem tile_zc (t : Int) : ∀ {bs : List Cmd} {s e : Nat} {l : List Int}, Tile s bs e → 1 ≤ s → e ≤ l.length + 1 →
    ∀ c ∈ bs, ∀ p, c.1 ≤ p → p < c.2 → zc (runM l bs) t p = min (zc l t (c.1 - 1) + (p - (c.1 - 1))) (zc l t c.2)
  | [], _, _, _, _, _, _, c, hc, _, _, _ => by cases hc
  | d :: r, s, e, l, h, hs, he, c, hc, p, h1, h2 => by
    have hle := tile_le h.2.2
    have hd1 : 1 ≤ d.1 := by have := h.1; omega
    have hd2 : d.1 ≤ d.2 := by have := h.1; have := h.2.1; omega
    have hd3 : d.2 ≤ l.length := by have := hle.1; omega
    have el : (step l d).length = l.length := seg_len hd2 hd3
    show zc (runM (step l d) r) t p = _
    rcases List.mem_cons.mp hc with g | g
    · subst g
      rw [zc_off t r (step l c) (by rw [el]; exact tile_fits h.2.2 (by omega) (by omega)) fun b hb => by have := hle.2 b hb; omega]
      show zc (seg l c.1 c.2) t p = _
      rw [zc_seg hd1 hd2 hd3, if_neg (by omega)]
    · have hb := hle.2 c g
      rw [tile_zc t h.2.2 (by omega) (by rw [el]; exact he) c g p h1 h2, zc_stay hd1 hd2 hd3 t (by omega), zc_stay hd1 hd2 hd3 t (by omega)]
theorem blk_off {n : Nat} {cs : List Cmd} (hf : Fits n cs) (hn : 1 ≤ n) {p : Nat} (h : lnk cs p = false) : ∀ c ∈ blkM n cs, ¬ (c.1 ≤ p ∧ p < c.2) := fun c hc g => by
  have := ((blkM_ok hf hn).2 c hc).2 p g.1 g.2
  rw [h] at this; cases this
theorem lnk_off {cs : List Cmd} {p : Nat} (h : lnk cs p = false) : ∀ c ∈ cs, ¬ (c.1 ≤ p ∧ p < c.2) := fun c hc g => by
  have := lnk_iff.mpr ⟨c, hc, g.1, g.2⟩
  rw [h] at this; cases this
/-! ### how many rows are unchanged: by factorials -/
def wholeM (w : Nat) (ks : List Nat) : Nat := ks.foldl (fun w k => w / Xk.fac k) w
theorem whole_mul : ∀ (ks : List Nat) (m c : Nat), ks.sum = m → wholeM (c * Xk.fac m) ks = c * mulM ks m
  | [], m, c, h => by have : m = 0 := h.symm; subst this; rfl
  | k :: ks, m, c, h => by
    have hk : k + ks.sum = m := by rw [← h, List.sum_cons]
    have e : Xk.cmb m k * (Xk.fac k * Xk.fac (m - k)) = Xk.fac m := by
      have := Xk.cmb_fac (m - k) k
      rw [show m - k + k = m by omega] at this
      exact this
    show wholeM (c * Xk.fac m / Xk.fac k) ks = c * (Xk.cmb m k * mulM ks (m - k))
    have : c * Xk.fac m / Xk.fac k = c * Xk.cmb m k * Xk.fac (m - k) := by
      rw [← e, show c * (Xk.cmb m k * (Xk.fac k * Xk.fac (m - k))) = Xk.fac k * (c * Xk.cmb m k * Xk.fac (m - k)) by simp only [Nat.mul_assoc, Nat.mul_left_comm, Nat.mul_comm], Nat.mul_div_cancel_left _ (Xk.fac_pos k)]
    rw [this, whole_mul ks (m - k) _ (by omega), Nat.mul_assoc]
/-! ### two stretches by turns -/
def tcmd (x m y t : Nat) : Cmd := if t % 2 = 0 then (1, x + m) else (x + 1, x + m + y)
def altC (x m y : Nat) : Nat → List Cmd
  | 0 => []
  | t + 1 => altC x m y t ++ [tcmd x m y t]
def rowT (x m y t : Nat) : List Int := runM (desc (x + m + y)) (altC x m y t)
theorem rowT_succ (x m y t : Nat) : rowT x m y (t + 1) = step (rowT x m y t) (tcmd x m y t) := runM_snoc _ _ _
theorem tcmd_ok {x m y : Nat} (hm : 1 ≤ m) (t : Nat) : 1 ≤ (tcmd x m y t).1 ∧ (tcmd x m y t).1 ≤ (tcmd x m y t).2 ∧ (tcmd x m y t).2 ≤ x + m + y := by
  unfold tcmd
  split
  · exact ⟨Nat.le_refl _, by show 1 ≤ x + m; omega, by show x + m ≤ _; omega⟩
  · exact ⟨by show 1 ≤ x + 1; omega, by show x + 1 ≤ x + m + y; omega, Nat.le_refl _⟩
theorem altC_fits {x m y : Nat} (hm : 1 ≤ m) : ∀ t, Fits (x + m + y) (altC x m y t)
  | 0 => fun c hc => by cases hc
  | t + 1 => fun c hc => by
    rcases List.mem_append.mp hc with e | e
    · exact altC_fits hm t c e
    · rw [List.mem_singleton.mp e]; exact tcmd_ok hm t
theorem rowT_perm {x m y : Nat} (hm : 1 ≤ m) (t : Nat) : (rowT x m y t).Perm (ascN (x + m + y)) :=
  (runM_perm _ _ (by rw [desc_len]; exact altC_fits hm t)).trans (desc_perm _)
theorem rowT_len {x m y : Nat} (hm : 1 ≤ m) (t : Nat) : (rowT x m y t).length = x + m + y := by rw [(rowT_perm hm t).length_eq]; simp [ascN]
/-- the counts at the two places that matter, for the threshold n - q -/
def abT (x m y q : Nat) : Nat → Nat × Nat
  | 0 => (x - q, x + m - q)
  | t + 1 => if t % 2 = 0 then (min x (abT x m y q t).2, (abT x m y q t).2) else ((abT x m y q t).1, min ((abT x m y q t).1 + m) (x + m + y - q))
def fullT (x m y q : Nat) (t p : Nat) : Nat := zc (rowT x m y t) (((x + m + y : Nat) : Int) - q) p
theorem full_end {x m y q : Nat} (hm : 1 ≤ m) (hq : q ≤ x + m + y) (t : Nat) : fullT x m y q t (x + m + y) = x + m + y - q := by
  unfold fullT
  rw [zc_all (by rw [rowT_len hm]; exact Nat.le_refl _), ((rowT_perm hm t).trans (desc_perm _).symm).countP_eq _]
  have := zc_desc (n := x + m + y) q hq (x + m + y) (Nat.le_refl _)
  rw [zc_all (by rw [desc_len]; exact Nat.le_refl _)] at this
  exact this
theorem full_succ {x m y q : Nat} (hm : 1 ≤ m) (hq : q ≤ x + m + y) (t p : Nat) : fullT x m y q (t + 1) p = if t % 2 = 0 then (if p ≤ x + m then min p (fullT x m y q t (x + m)) else fullT x m y q t p) else (if p ≤ x then fullT x m y q t p else if p ≤ x + m + y then min (fullT x m y q t x + (p - x)) (x + m + y - q) else fullT x m y q t p) := by
  have he := full_end hm hq t
  unfold fullT at he ⊢
  rw [rowT_succ]
  have hl := rowT_len (x := x) (y := y) hm t
  unfold tcmd
  by_cases e : t % 2 = 0
  · rw [if_pos e, if_pos e]
    show zc (seg _ 1 (x + m)) _ _ = _
    rw [zc_seg (Nat.le_refl _) (by omega) (by omega)]
    have z0 : ∀ (b : List Int) (t : Int), zc b t 0 = 0 := fun b t => by simp [zc]
    by_cases g : p ≤ x + m
    · rw [if_pos g]
      by_cases h0 : p = 0
      · subst h0; rw [if_pos (by omega), z0]; simp
      · rw [if_neg (by omega), z0]; congr 1; omega
    · rw [if_neg g, if_pos (by omega)]
  · rw [if_neg e, if_neg e]
    show zc (seg _ (x + 1) (x + m + y)) _ _ = _
    rw [zc_seg (by omega) (by omega) (by omega)]
    by_cases g : p ≤ x
    · rw [if_pos g, if_pos (by omega)]
    · rw [if_neg g]
      by_cases g2 : p ≤ x + m + y
      · rw [if_pos g2, if_neg (by omega), he, show x + 1 - 1 = x by omega]
      · rw [if_neg g2, if_pos (by omega)]
theorem full_zero {x m y q : Nat} (hq : q ≤ x + m + y) {p : Nat} (hp : p ≤ x + m + y) : fullT x m y q 0 p = p - q := zc_desc q hq p hp
/-- after an odd number of turns: what the left one's own places hold -/
theorem full_odd {x m y q : Nat} (hm : 1 ≤ m) (hq : q ≤ x + m + y) : ∀ j, fullT x m y q (2 * j + 1) x = min x (min (x + m + y - q) (x + m - q + j * m)) ∧ fullT x m y q (2 * j + 2) x = min x (min (x + m + y - q) (x + m - q + j * m)) ∧ fullT x m y q (2 * j + 2) (x + m) = min (fullT x m y q (2 * j + 1) x + m) (x + m + y - q)
  | 0 => by
    have h0 : fullT x m y q 0 (x + m) = x + m - q := full_zero hq (by omega)
    have a1 := full_succ hm hq 0 x
    rw [if_pos rfl, if_pos (by omega), h0] at a1
    have a2 := full_succ hm hq 1 x
    rw [if_neg (by decide), if_pos (Nat.le_refl _)] at a2
    have a3 := full_succ hm hq 1 (x + m)
    rw [if_neg (by decide), if_neg (by omega), if_pos (by omega), show x + m - x = m by omega] at a3
    rw [Nat.zero_mul]
    have a1' : fullT x m y q (2 * 0 + 1) x = min x (x + m - q) := a1
    refine ⟨by omega, ?_, a3⟩
    show fullT x m y q (1 + 1) x = _
    rw [a2]; show fullT x m y q (0 + 1) x = _; omega
  | j + 1 => by
    obtain ⟨h1, h2, h3⟩ := full_odd (x := x) (y := y) hm hq j
    have a1 := full_succ hm hq (2 * j + 2) x
    rw [if_pos (by omega), if_pos (by omega), h3] at a1
    have a2 := full_succ hm hq (2 * j + 3) x
    rw [if_neg (by omega), if_pos (Nat.le_refl _)] at a2
    have a3 := full_succ hm hq (2 * j + 3) (x + m)
    rw [if_neg (by omega), if_neg (by omega), if_pos (by omega), show x + m - x = m by omega] at a3
    rw [show (j + 1) * m = j * m + m from Nat.succ_mul j m]
    generalize j * m = jm at *
    have e1 : fullT x m y q (2 * (j + 1) + 1) x = min x (min (x + m + y - q) (x + m - q + (jm + m))) := by
      show fullT x m y q (2 * j + 2 + 1) x = _
      rw [a1, h1]; omega
    refine ⟨e1, ?_, a3⟩
    show fullT x m y q (2 * j + 3 + 1) x = _
    rw [a2]; exact e1
/-- after an even number of turns, and after an odd one, sorted or not -/
theorem asc_zc {n : Nat} {l : List Int} (hl : l.Perm (ascN n)) (h : ∀ q, q ≤ n → ∀ p, p ≤ n → zc l ((n : Int) - q) p = min p (n - q)) : l = ascN n := by
  have hlen : l.length = n := by rw [hl.length_eq]; simp [ascN]
  have h1 : ∀ v ∈ l, 1 ≤ v ∧ v ≤ n := fun v hv => by
    have := hl.mem_iff.mp hv
    simp [ascN] at this
    omega
  have up := asc_up n
  have cnt : ∀ t : Int, l.countP (fun v => decide (v ≤ t)) = (ascN n).countP (fun v => decide (v ≤ t)) := fun t => hl.countP_eq _
  refine zc_ext (by rw [hl.length_eq]) fun t p hp => ?_
  rw [up_zc t _ p up, ← cnt]
  by_cases g : t < 1
  · rw [zc_low (fun v hv => (h1 v hv).1) g p]
    have := zc_low (fun v hv => (h1 v hv).1) g l.length
    rw [zc_all (Nat.le_refl _)] at this
    omega
  by_cases g2 : (n : Int) < t
  · have e : ∀ p, zc l t p = zc l ((n : Int) - (0 : Nat)) p := fun p => by
      unfold zc
      refine List.countP_congr fun v hv => ?_
      have := h1 v (List.mem_of_mem_take hv)
      simp only [decide_eq_true_eq]; omega
    have e2 := e l.length
    rw [zc_all (Nat.le_refl _), hlen, h 0 (Nat.zero_le _) n (Nat.le_refl _)] at e2
    rw [e, h 0 (Nat.zero_le _) p (by omega), e2]; omega
  · have e : t = (n : Int) - ((n : Int) - t).toNat := by omega
    have e2 := h ((n : Int) - t).toNat (by omega) n (Nat.le_refl _)
    rw [← e] at e2
    have e3 := h ((n : Int) - t).toNat (by omega) p (by omega)
    rw [← e] at e3
    rw [zc_all (l := l) (p := n) (by omega)] at e2
    rw [e3, e2]; omega
theorem zc_asc {n q p : Nat} (hq : q ≤ n) : zc (ascN n) ((n : Int) - q) p = min p (n - q) := by
  rw [up_zc _ _ p (asc_up n)]
  have := zc_desc (n := n) q hq n (Nat.le_refl _)
  rw [zc_all (by rw [desc_len]; exact Nat.le_refl _), (desc_perm n).countP_eq _] at this
  rw [this]
theorem row_even {x m y j : Nat} (hm : 1 ≤ m) : rowT x m y (2 * j + 2) = ascN (x + m + y) ↔ (x ≤ j * m ∨ y ≤ j * m) := by
  constructor
  · intro h
    apply Classical.byContradiction
    intro g
    -- the threshold: as many zeros as fit
    have hq : x + m + y - min x y ≤ x + m + y := Nat.sub_le _ _
    have e := (full_odd (x := x) (y := y) hm hq j).2.1
    unfold fullT at e
    rw [h, zc_asc hq] at e
    generalize j * m = jm at *
    omega
  · intro g
    refine asc_zc (rowT_perm hm _) fun q hq p hp => ?_
    have e := (full_odd (x := x) (y := y) hm hq j)
    have s := full_succ (x := x) (y := y) hm hq (2 * j + 1) p
    rw [if_neg (by omega)] at s
    have s1 := full_succ (x := x) (y := y) hm hq (2 * j) p
    rw [if_pos (by omega)] at s1
    have sx := full_succ (x := x) (y := y) hm hq (2 * j) x
    rw [if_pos (by omega), if_pos (by omega)] at sx
    show fullT x m y q (2 * j + 1 + 1) p = _
    rw [s]
    generalize j * m = jm at *
    have e1 := e.1
    generalize fullT x m y q (2 * j) (x + m) = B at *
    by_cases g1 : p ≤ x
    · rw [if_pos g1, s1, if_pos (by omega)]; omega
    · rw [if_neg g1, if_pos hp]; omega
theorem row_odd {x m y j : Nat} (hm : 1 ≤ m) : rowT x m y (2 * j + 3) = ascN (x + m + y) ↔ (x ≤ j * m ∨ y ≤ (j + 1) * m) := by
  rw [show (j + 1) * m = j * m + m from Nat.succ_mul j m]
  constructor
  · intro h
    apply Classical.byContradiction
    intro g
    have hq : x + m + y - min (x + m) y ≤ x + m + y := Nat.sub_le _ _
    have e := (full_odd (x := x) (y := y) hm hq j)
    have s := full_succ (x := x) (y := y) hm hq (2 * j + 2) (x + m)
    rw [if_pos (by omega), if_pos (Nat.le_refl _), e.2.2, e.1] at s
    unfold fullT at s
    rw [h, zc_asc hq] at s
    generalize j * m = jm at *
    omega
  · intro g
    refine asc_zc (rowT_perm hm _) fun q hq p hp => ?_
    have e := (full_odd (x := x) (y := y) hm hq j)
    have s := full_succ (x := x) (y := y) hm hq (2 * j + 2) p
    rw [if_pos (by omega), e.2.2] at s
    have s1 := full_succ (x := x) (y := y) hm hq (2 * j + 1) p
    rw [if_neg (by omega)] at s1
    show fullT x m y q (2 * j + 2 + 1) p = _
    rw [s]
    generalize j * m = jm at *
    have e1 := e.1
    rw [e1]
    by_cases g1 : p ≤ x + m
    · rw [if_pos g1]; omega
    · rw [if_neg g1, s1, if_neg (by omega), if_pos hp, e1]; omega
theorem row_one {x m y : Nat} (hm : 1 ≤ m) : rowT x m y 1 = ascN (x + m + y) ↔ y = 0 := by
  constructor
  · intro h
    apply Classical.byContradiction
    intro g
    have hq : x + m + y - 1 ≤ x + m + y := Nat.sub_le _ _
    have s := full_succ (x := x) (y := y) hm hq 0 (x + m)
    rw [if_pos rfl, if_pos (Nat.le_refl _), full_zero hq (by omega)] at s
    unfold fullT at s
    rw [h, zc_asc hq] at s
    omega
  · rintro rfl
    refine asc_zc (rowT_perm hm _) fun q hq p hp => ?_
    have s := full_succ (x := x) (y := 0) hm hq 0 p
    rw [if_pos rfl, if_pos (by omega), full_zero hq (by omega)] at s
    show fullT x m 0 q (0 + 1) p = _
    rw [s]; omega
theorem row_none {x m y : Nat} (h : 2 ≤ x + m + y) : rowT x m y 0 ≠ ascN (x + m + y) := by
  intro e
  have hq : x + m + y - 1 ≤ x + m + y := Nat.sub_le _ _
  have s := full_zero (x := x) (m := m) (y := y) hq (p := 1) (by omega)
  unfold fullT at s
  rw [e, zc_asc hq] at s
  omega
def upD (a m : Nat) : Nat := (a + m - 1) / m
theorem upD_le {a m j : Nat} (hm : 1 ≤ m) : upD a m ≤ j ↔ a ≤ j * m := by
  unfold upD
  rw [← Nat.lt_succ_iff, Nat.div_lt_iff_lt_mul (by omega), Nat.succ_mul]
  generalize j * m = jm
  omega
/-- how many turns -/
def trnM (x m y : Nat) : Nat := if x + m + y = 1 then 0 else min (2 * upD y m + 1) (2 * upD x m + 2)
theorem row_iff {x m y t : Nat} (hm : 1 ≤ m) : rowT x m y t = ascN (x + m + y) ↔ trnM x m y ≤ t := by
  unfold trnM
  by_cases h1 : x + m + y = 1
  · rw [if_pos h1]
    refine ⟨fun _ => Nat.zero_le _, fun _ => ?_⟩
    have hp := rowT_perm (x := x) (y := y) hm t
    rw [h1] at hp ⊢
    exact List.perm_singleton.mp hp
  · rw [if_neg h1]
    have k1 := fun j => upD_le (a := x) (j := j) hm
    have k2 := fun j => upD_le (a := y) (j := j) hm
    match t with
    | 0 => exact ⟨fun e => absurd e (row_none (by omega)), fun e => by omega⟩
    | 1 =>
      rw [row_one hm]
      have := k2 0
      rw [Nat.zero_mul] at this
      omega
    | t + 2 =>
      rcases Nat.mod_two_eq_zero_or_one t with e | e
      · obtain ⟨j, rfl⟩ : ∃ j, t = 2 * j := ⟨t / 2, by omega⟩
        rw [row_even hm, ← k1, ← k2]; omega
      · obtain ⟨j, rfl⟩ : ∃ j, t = 2 * j + 1 := ⟨t / 2, by omega⟩
        rw [show 2 * j + 1 + 2 = 2 * j + 3 by omega, row_odd hm, ← k1, ← k2]; omega
end My
namespace My
abbrev Pr := Int × Int
/-- the first number below n that p holds of -/
def firstN (p : Nat → Bool) (n : Nat) : Option Nat := ((List.range n).filter p).head?
theorem first_some {p : Nat → Bool} {n i : Nat} (hi : i < n) (h : p i = true) (hj : ∀ j, j < i → p j = false) : firstN p n = some i := by
  unfold firstN
  rw [show n = i + (n - i) by omega, List.range_add, List.filter_append, show (List.range i).filter p = [] from List.filter_eq_nil_iff.mpr fun j hm => by rw [hj j (List.mem_range.mp hm)]; decide, List.nil_append,
    show n - i = 1 + (n - i - 1) by omega, List.range_add, List.map_append, List.filter_append]
  simp [h]
theorem first_none {p : Nat → Bool} {n : Nat} (h : ∀ j, j < n → p j = false) : firstN p n = none := by
  unfold firstN
  rw [show (List.range n).filter p = [] from List.filter_eq_nil_iff.mpr fun j hm => by rw [h j (List.mem_range.mp hm)]; decide]
  rfl
theorem first_cases (p : Nat → Bool) (n : Nat) : (∃ i, firstN p n = some i ∧ i < n ∧ p i = true ∧ ∀ j, j < i → p j = false) ∨ (firstN p n = none ∧ ∀ j, j < n → p j = false) := by
  induction n with
  | zero => exact .inr ⟨rfl, fun j hj => absurd hj (Nat.not_lt_zero _)⟩
  | succ n ih =>
    rcases ih with ⟨i, e, hi, hp, hj⟩ | ⟨e, hj⟩
    · exact .inl ⟨i, first_some (by omega) hp hj, by omega, hp, hj⟩
    · cases h : p n with
      | true => exact .inl ⟨n, first_some (by omega) h hj, by omega, h, hj⟩
      | false =>
        have all : ∀ j, j < n + 1 → p j = false := fun j hm => by
          by_cases e : j = n
          · rw [e]; exact h
          · exact hj j (by omega)
        exact .inr ⟨first_none all, all⟩
theorem first_at {p : Nat → Bool} {n i : Nat} (h : firstN p n = some i) : i < n ∧ p i = true ∧ ∀ j, j < i → p j = false := by
  rcases first_cases p n with ⟨k, e, r⟩ | ⟨e, _⟩
  · rw [h] at e; cases e; exact r
  · rw [h] at e; cases e
theorem first_no {p : Nat → Bool} {n : Nat} (h : firstN p n = none) : ∀ j, j < n → p j = false := by
  rcases first_cases p n with ⟨k, e, _⟩ | ⟨_, r⟩
  · rw [h] at e; cases e
  · exact r
/-- a pair that fits -/
def FitW (n : Int) (c : Pr) : Prop := 1 ≤ c.1 ∧ c.1 ≤ c.2 ∧ c.2 ≤ n
instance (n : Int) (c : Pr) : Decidable (FitW n c) := by unfold FitW; infer_instance
/-- the first pair that does not fit -/
def wrW (n : Int) (ws : List Pr) (i : Nat) : Bool := !decide (FitW n (ws.getD i (0, 0)))
def eW (n : Int) (ws : List Pr) : Option Nat := firstN (wrW n ws) ws.length
/-- the first value that is no value of an arrangement -/
def wrR (ns : List Int) (i : Nat) : Bool := !decide (1 ≤ ns.getD i 0 ∧ ns.getD i 0 ≤ (ns.length : Int) ∧ ns.getD i 0 ∉ ns.take i)
def eR (ns : List Int) : Option Nat := firstN (wrR ns) ns.length
theorem wrW_at {n : Int} {ws : List Pr} {i : Nat} {c : Pr} (h : ws[i]? = some c) : wrW n ws i = !decide (FitW n c) := by
  unfold wrW; rw [List.getD_eq_getElem?_getD, h]; rfl
theorem wrR_at {ns : List Int} {i : Nat} (h : i < ns.length) : wrR ns i = !decide (1 ≤ ns[i] ∧ ns[i] ≤ (ns.length : Int) ∧ ns[i] ∉ ns.take i) := by
  unfold wrR; rw [List.getD_eq_getElem?_getD, List.getElem?_eq_getElem h]; rfl
theorem eW_fits {n : Int} {ws : List Pr} (h : eW n ws = none) : ∀ c ∈ ws, FitW n c := fun c hc => by
  obtain ⟨i, hi, e⟩ := List.getElem_of_mem hc
  have := first_no h i hi
  rw [wrW_at (c := c) (by rw [List.getElem?_eq_getElem hi, e])] at this
  simpa using this
def toW (c : Cmd) : Pr := ((c.1 : Int), (c.2 : Int))
/-- pairs that fit are commands -/
theorem fits_cmds {n : Nat} : ∀ {ws : List Pr}, (∀ c ∈ ws, FitW (n : Int) c) → ∃ cs : List Cmd, Fits n cs ∧ ws = cs.map toW
  | [], _ => ⟨[], fun _ h => (by cases h), rfl⟩
  | c :: r, h => by
    obtain ⟨cs, hf, e⟩ := fits_cmds (ws := r) fun c hc => h c (List.mem_cons_of_mem _ hc)
    have hc := h c List.mem_cons_self
    unfold FitW at hc
    refine ⟨(c.1.toNat, c.2.toNat) :: cs, fun d hd => ?_, ?_⟩
    · rcases List.mem_cons.mp hd with q | q
      · rw [q]
        have h1 : ((c.1.toNat, c.2.toNat) : Cmd).1 = c.1.toNat := rfl
        have h2 : ((c.1.toNat, c.2.toNat) : Cmd).2 = c.2.toNat := rfl
        rw [h1, h2]; omega
      · exact hf d q
    · rw [List.map_cons, ← e]
      congr 1
      unfold toW
      exact Prod.ext (by show c.1 = ((c.1.toNat : Nat) : Int); omega) (by show c.2 = ((c.2.toNat : Nat) : Int); omega)
theorem nodup_permX : ∀ {l m : List Int}, l.Nodup → (∀ v ∈ l, v ∈ m) → m.length = l.length → l.Perm m
  | [], m, _, _, h => by rw [List.eq_nil_of_length_eq_zero h]
  | x :: r, m, hn, hs, h => by
    have h1 := List.nodup_cons.mp hn
    have hx := hs x List.mem_cons_self
    have hp := List.perm_cons_erase hx
    have hl := hp.length_eq
    rw [List.length_cons] at hl h
    refine ((nodup_permX (m := m.erase x) h1.2 (fun v hv => ?_) (by omega)).cons x).trans hp.symm
    have hne : v ≠ x := fun e => h1.1 (e ▸ hv)
    exact (List.mem_erase_of_ne hne).mpr (hs v (List.mem_cons_of_mem _ hv))
theorem eR_arr {ns : List Int} (h : eR ns = none) : IsArr ns := by
  have g := first_no h
  have all : ∀ i (hi : i < ns.length), 1 ≤ ns[i] ∧ ns[i] ≤ (ns.length : Int) ∧ ns[i] ∉ ns.take i := fun i hi => by
    have := g i hi
    rw [wrR_at hi] at this
    simpa using this
  refine ⟨?_, fun v hv => ?_⟩
  · rw [List.Nodup, List.pairwise_iff_getElem]
    intro i j hi hj hij e
    refine (all j hj).2.2 ?_
    rw [← e]
    exact List.mem_take_iff_getElem.mpr ⟨i, by omega, rfl⟩
  · obtain ⟨i, hi, e⟩ := List.getElem_of_mem hv
    rw [← e]
    exact ⟨(all i hi).1, (all i hi).2.1⟩
theorem arr_eR {ns : List Int} (h : IsArr ns) : eR ns = none := first_none fun i hi => by
  rw [wrR_at hi]
  have h1 := h.2 _ (List.getElem_mem hi)
  have h2 : ns[i] ∉ ns.take i := fun hm => by
    obtain ⟨j, hj, e⟩ := List.mem_take_iff_getElem.mp hm
    have := List.pairwise_iff_getElem.mp (show ns.Pairwise (· ≠ ·) from h.1) j i (by omega) hi (by omega)
    exact this e
  simp [h1.1, h1.2, h2]
theorem arr_perm {ns : List Int} (h : IsArr ns) : ns.Perm (ascN ns.length) := nodup_permX h.1 (fun v hv => by
  have := h.2 v hv
  unfold ascN
  exact List.mem_map.mpr ⟨(v - 1).toNat, List.mem_range.mpr (by omega), by show (1 : Int) + ((v - 1).toNat : Int) = v; omega⟩) (by simp [ascN])
theorem toW_fit {n : Nat} {cs : List Cmd} (h : Fits n cs) : eW (n : Int) (cs.map toW) = none := first_none fun i hi => by
  have hi' : i < cs.length := by simpa using hi
  rw [wrW_at (c := toW cs[i]) (by rw [List.getElem?_map, List.getElem?_eq_getElem hi']; rfl)]
  have := h cs[i] (List.getElem_mem hi')
  have g : FitW (n : Int) (toW cs[i]) := by unfold FitW toW; refine ⟨?_, ?_, ?_⟩ <;> simp only <;> omega
  simp [g]
end My
namespace My
/-! the number of rows that stay, block by block from the left -/
def accB (w : Nat) (bs : List Cmd) : Nat := bs.foldl (fun w c => w * Xk.cmb c.2 (c.2 - c.1 + 1)) w
def pfB : List Cmd → Nat
  | [] => 1
  | c :: r => Xk.fac (c.2 - c.1 + 1) * pfB r
theorem pfB_pos : ∀ bs, 0 < pfB bs
  | [] => Nat.one_pos
  | c :: r => Nat.mul_pos (Xk.fac_pos _) (pfB_pos r)
theorem tile_acc : ∀ {bs : List Cmd} {s e w : Nat}, Tile s bs e → 1 ≤ s → accB w bs * pfB bs * Xk.fac (s - 1) = w * Xk.fac (e - 1)
  | [], s, e, w, h, hs => by
    obtain rfl : s = e := h
    show w * 1 * _ = _
    rw [Nat.mul_one]
  | c :: r, s, e, w, h, hs => by
    obtain ⟨h1, h2, h3⟩ := h
    have ih := tile_acc (w := w * Xk.cmb c.2 (c.2 - c.1 + 1)) h3 (by omega)
    have ef := Xk.cmb_fac (s - 1) (c.2 - c.1 + 1)
    rw [show s - 1 + (c.2 - c.1 + 1) = c.2 by omega] at ef
    rw [show c.2 + 1 - 1 = c.2 by omega] at ih
    have hp : 0 < Xk.cmb c.2 (c.2 - c.1 + 1) := cmb_pos (by omega)
    show accB (w * Xk.cmb c.2 (c.2 - c.1 + 1)) r * (Xk.fac (c.2 - c.1 + 1) * pfB r) * Xk.fac (s - 1) = w * Xk.fac (e - 1)
    generalize accB (w * Xk.cmb c.2 (c.2 - c.1 + 1)) r = A at ih ⊢
    generalize Xk.cmb c.2 (c.2 - c.1 + 1) = C at ih ef hp
    refine Nat.eq_of_mul_eq_mul_left hp ?_
    rw [show C * (A * (Xk.fac (c.2 - c.1 + 1) * pfB r) * Xk.fac (s - 1)) = A * pfB r * (C * (Xk.fac (c.2 - c.1 + 1) * Xk.fac (s - 1))) by ac_rfl, ef, ih]
    ac_rfl
theorem mul_pf : ∀ (bs : List Cmd) {m : Nat}, (bs.map fun c => c.2 - c.1 + 1).sum = m → mulM (bs.map fun c => c.2 - c.1 + 1) m * pfB bs = Xk.fac m
  | [], m, h => by obtain rfl : 0 = m := h; rfl
  | c :: r, m, h => by
    rw [List.map_cons, List.sum_cons] at h
    have ih := mul_pf r (m := m - (c.2 - c.1 + 1)) (by omega)
    have ef := Xk.cmb_fac (m - (c.2 - c.1 + 1)) (c.2 - c.1 + 1)
    rw [show m - (c.2 - c.1 + 1) + (c.2 - c.1 + 1) = m by omega] at ef
    show Xk.cmb m (c.2 - c.1 + 1) * mulM (r.map fun c => c.2 - c.1 + 1) (m - (c.2 - c.1 + 1)) * (Xk.fac (c.2 - c.1 + 1) * pfB r) = _
    rw [← ef, ← ih]
    ac_rfl
theorem acc_mul {n : Nat} {cs : List Cmd} (hf : Fits n cs) (hn : 1 ≤ n) : accB 1 (blkM n cs) = mulM (lenM n cs) n := by
  have h1 := tile_acc (w := 1) (blkM_ok hf hn).1 (Nat.le_refl 1)
  have h2 := mul_pf (blkM n cs) (lenM_sum hf hn)
  have e : mulM (lenM n cs) n = mulM ((blkM n cs).map fun c => c.2 - c.1 + 1) n := rfl
  rw [e]
  refine Nat.eq_of_mul_eq_mul_right (pfB_pos (blkM n cs)) ?_
  rw [h2]
  have f0 : Xk.fac (1 - 1) = 1 := rfl
  rw [f0, Nat.mul_one, Nat.one_mul] at h1
  exact h1
theorem acc_take {bs : List Cmd} {i : Nat} (h : i < bs.length) : accB 1 (bs.take (i + 1)) = accB 1 (bs.take i) * Xk.cmb bs[i].2 (bs[i].2 - bs[i].1 + 1) := by
  rw [List.take_add_one, List.getElem?_eq_getElem h]
  unfold accB
  rw [List.foldl_append]
  rfl
theorem acc_le {n : Nat} : ∀ {bs : List Cmd} {w b : Nat}, (∀ c ∈ bs, c.2 ≤ n) → w ≤ 2 ^ b → accB w bs ≤ 2 ^ (b + n * bs.length)
  | [], w, b, _, h => by rw [List.length_nil, Nat.mul_zero, Nat.add_zero]; exact h
  | c :: r, w, b, hn, h => by
    have hc := hn c List.mem_cons_self
    have := acc_le (n := n) (bs := r) (w := w * Xk.cmb c.2 (c.2 - c.1 + 1)) (b := b + n) (fun d hd => hn d (List.mem_cons_of_mem _ hd)) (by
      rw [Nat.pow_add]
      exact Nat.mul_le_mul h (Nat.le_trans (Xk.cmb_le _ _) (Nat.pow_le_pow_right (by decide) hc)))
    rw [List.length_cons, show b + n * (r.length + 1) = b + n + n * r.length by rw [Nat.mul_succ]; omega]
    exact this
theorem len_sum : ∀ {ks : List Nat}, (∀ k ∈ ks, 1 ≤ k) → ks.length ≤ ks.sum
  | [], _ => Nat.le_refl _
  | a :: t, h => by
    have h1 := h a List.mem_cons_self
    have h2 := len_sum (ks := t) fun k hk => h k (List.mem_cons_of_mem _ hk)
    rw [List.length_cons, List.sum_cons]; omega
theorem blk_len {n : Nat} {cs : List Cmd} (hf : Fits n cs) (hn : 1 ≤ n) : (blkM n cs).length ≤ n := by
  have h5 := len_sum (ks := lenM n cs) fun k hk => by
    obtain ⟨c, _, rfl⟩ := List.mem_map.mp hk
    omega
  rw [lenM_sum hf hn] at h5
  unfold lenM at h5
  rwa [List.length_map] at h5
theorem cmb_up (n t : Nat) : Xk.cmb (n + t) t * (n + t + 1) = Xk.cmb (n + (t + 1)) (t + 1) * (t + 1) := by
  have h1 := Xk.cmb_fac n t
  have h2 := Xk.cmb_fac n (t + 1)
  have e : Xk.fac (n + (t + 1)) = (n + t + 1) * Xk.fac (n + t) := rfl
  have e2 : Xk.fac (t + 1) = (t + 1) * Xk.fac t := rfl
  rw [e, e2, ← h1] at h2
  refine Nat.eq_of_mul_eq_mul_right (Nat.mul_pos (Xk.fac_pos t) (Xk.fac_pos n)) ?_
  rw [show Xk.cmb (n + t) t * (n + t + 1) * (Xk.fac t * Xk.fac n) = (n + t + 1) * (Xk.cmb (n + t) t * (Xk.fac t * Xk.fac n)) by ac_rfl, ← h2]
  ac_rfl
end My
namespace L37
open PySem PySem.Spec PyProof.Rows L2 Xk
def topS (i : Nat) : Stmt := PySem.Challenge.pw_sortstretches_k37_errors_of_repeating.main.body.getD i (.Pass ⟨0, 0, 0, 0⟩)
abbrev s_check_size : Stmt := topS 11
theorem sc_check_size : FnScope ["size"] ["size"] (defScope s_check_size) := ⟨rfl, rfl, rfl, by decide +kernel, rfl, by decide +kernel, by decide +kernel⟩
abbrev s_check_script : Stmt := topS 12
theorem sc_check_script : FnScope ["size", "commands", "index", "first", "last"] ["size", "commands"] (defScope s_check_script) := ⟨rfl, rfl, rfl, by decide +kernel, rfl, by decide +kernel, by decide +kernel⟩
abbrev s_check_sized_script : Stmt := topS 13
theorem sc_check_sized_script : FnScope ["size", "commands"] ["size", "commands"] (defScope s_check_sized_script) := ⟨rfl, rfl, rfl, by decide +kernel, rfl, by decide +kernel, by decide +kernel⟩
abbrev s_check_arrangement : Stmt := topS 14
theorem sc_check_arrangement : FnScope ["row", "seen", "index", "value"] ["row"] (defScope s_check_arrangement) := ⟨rfl, rfl, rfl, by decide +kernel, rfl, by decide +kernel, by decide +kernel⟩
abbrev s_sort_stretches : Stmt := topS 16
theorem sc_sort_stretches : FnScope ["row", "commands", "present", "first", "last"] ["row", "commands"] (defScope s_sort_stretches) := ⟨rfl, rfl, rfl, by decide +kernel, rfl, by decide +kernel, by decide +kernel⟩
abbrev s_run : Stmt := topS 17
theorem sc_run : FnScope ["row", "commands"] ["row", "commands"] (defScope s_run) := ⟨rfl, rfl, rfl, by decide +kernel, rfl, by decide +kernel, by decide +kernel⟩
abbrev s_descending_row : Stmt := topS 19
theorem sc_descending_row : FnScope ["size"] ["size"] (defScope s_descending_row) := ⟨rfl, rfl, rfl, by decide +kernel, rfl, by decide +kernel, by decide +kernel⟩
abbrev s_rounds : Stmt := topS 21
theorem sc_rounds : FnScope ["size", "commands", "present", "further", "many"] ["size", "commands"] (defScope s_rounds) := ⟨rfl, rfl, rfl, by decide +kernel, rfl, by decide +kernel, by decide +kernel⟩
abbrev s_linked_blocks : Stmt := topS 22
theorem sc_linked_blocks : FnScope ["size", "commands", "linked", "first", "last", "place", "found", "start", "goes_on"] ["size", "commands"] (defScope s_linked_blocks) := ⟨rfl, rfl, rfl, by decide +kernel, rfl, by decide +kernel, by decide +kernel⟩
abbrev s_blocks : Stmt := topS 23
theorem sc_blocks : FnScope ["size", "commands"] ["size", "commands"] (defScope s_blocks) := ⟨rfl, rfl, rfl, by decide +kernel, rfl, by decide +kernel, by decide +kernel⟩
abbrev s_block_lengths : Stmt := topS 24
theorem sc_block_lengths : FnScope ["size", "commands", "first", "last"] ["size", "commands"] (defScope s_block_lengths) := ⟨rfl, rfl, rfl, by decide +kernel, rfl, by decide +kernel, by decide +kernel⟩
abbrev s_count_unchanged : Stmt := topS 25
theorem sc_count_unchanged : FnScope ["size", "commands", "many", "left", "length"] ["size", "commands"] (defScope s_count_unchanged) := ⟨rfl, rfl, rfl, by decide +kernel, rfl, by decide +kernel, by decide +kernel⟩
abbrev s_nth_choice : Stmt := topS 26
theorem sc_nth_choice : FnScope ["values", "length", "number", "chosen", "left", "index", "value", "many"] ["values", "length", "number"] (defScope s_nth_choice) := ⟨rfl, rfl, rfl, by decide +kernel, rfl, by decide +kernel, by decide +kernel⟩
abbrev s_choice_number : Stmt := topS 27
theorem sc_choice_number : FnScope ["values", "chosen", "number", "found", "index", "value"] ["values", "chosen"] (defScope s_choice_number) := ⟨rfl, rfl, rfl, by decide +kernel, rfl, by decide +kernel, by decide +kernel⟩
abbrev s_nth_unchanged : Stmt := topS 28
theorem sc_nth_unchanged : FnScope ["size", "commands", "number", "many", "row", "values", "left", "length", "choice", "chosen", "value"] ["size", "commands", "number"] (defScope s_nth_unchanged) := ⟨rfl, rfl, rfl, by decide +kernel, rfl, by decide +kernel, by decide +kernel⟩
abbrev s_unchanged_number : Stmt := topS 29
theorem sc_unchanged_number : FnScope ["commands", "row", "number", "values", "first", "last", "chosen", "value"] ["commands", "row"] (defScope s_unchanged_number) := ⟨rfl, rfl, rfl, by decide +kernel, rfl, by decide +kernel, by decide +kernel⟩
abbrev s_turns : Stmt := topS 30
theorem sc_turns : FnScope ["alone", "shared", "other", "left_fills", "right_fills"] ["alone", "shared", "other"] (defScope s_turns) := ⟨rfl, rfl, rfl, by decide +kernel, rfl, by decide +kernel, by decide +kernel⟩
abbrev s_law_pool : Stmt := topS 32
theorem sc_law_pool : FnScope ["script", "at", "cell"] ["script", "at"] (defScope s_law_pool) := ⟨rfl, rfl, rfl, by decide +kernel, rfl, by decide +kernel, by decide +kernel⟩
abbrev s_law_draw : Stmt := topS 33
theorem sc_law_draw : FnScope ["pool", "many", "drawn", "mixed"] ["pool", "many"] (defScope s_law_draw) := ⟨rfl, rfl, rfl, by decide +kernel, rfl, by decide +kernel, by decide +kernel⟩
abbrev s_law_steps : Stmt := topS 34
theorem sc_law_steps : FnScope ["pool", "wide", "most", "way", "found", "cut", "turn", "begin", "end"] ["pool", "wide", "most"] (defScope s_law_steps) := ⟨rfl, rfl, rfl, by decide +kernel, rfl, by decide +kernel, by decide +kernel⟩
abbrev s_law_line : Stmt := topS 35
theorem sc_law_line : FnScope ["pool", "wide", "left", "spot"] ["pool", "wide"] (defScope s_law_line) := ⟨rfl, rfl, rfl, by decide +kernel, rfl, by decide +kernel, by decide +kernel⟩
abbrev s_law_blocks : Stmt := topS 36
theorem sc_law_blocks : FnScope ["wide", "steps_here", "found", "place", "begin", "end"] ["wide", "steps_here"] (defScope s_law_blocks) := ⟨rfl, rfl, rfl, by decide +kernel, rfl, by decide +kernel, by decide +kernel⟩
abbrev s_law_kind : Stmt := topS 37
theorem sc_law_kind : FnScope ["caught", "some"] ["caught"] (defScope s_law_kind) := ⟨rfl, rfl, rfl, by decide +kernel, rfl, by decide +kernel, by decide +kernel⟩
abbrev s_law_bad_steps : Stmt := topS 38
theorem sc_law_bad_steps : FnScope ["pool", "wide", "steps_here", "found", "turn", "bad", "at", "pair"] ["pool", "wide", "steps_here"] (defScope s_law_bad_steps) := ⟨rfl, rfl, rfl, by decide +kernel, rfl, by decide +kernel, by decide +kernel⟩
abbrev s_law_told : Stmt := topS 39
theorem sc_law_told : FnScope ["door", "wide", "steps_here", "spot", "line_here", "caught", "e"] ["door", "wide", "steps_here", "spot", "line_here"] (defScope s_law_told) := ⟨rfl, rfl, rfl, by decide +kernel, rfl, by decide +kernel, by decide +kernel⟩
abbrev s_law_turns_told : Stmt := topS 40
theorem sc_law_turns_told : FnScope ["left", "both", "right", "caught", "e"] ["left", "both", "right"] (defScope s_law_turns_told) := ⟨rfl, rfl, rfl, by decide +kernel, rfl, by decide +kernel, by decide +kernel⟩
abbrev s_law_bad_line : Stmt := topS 41
theorem sc_law_bad_line : FnScope ["pool", "line_here", "found", "turn", "at", "any_one", "wrong", "value"] ["pool", "line_here"] (defScope s_law_bad_line) := ⟨rfl, rfl, rfl, by decide +kernel, rfl, by decide +kernel, by decide +kernel⟩
abbrev s_law_right : Stmt := topS 42
theorem sc_law_right : FnScope ["pool", "wide", "steps_here", "faults", "many", "begin", "end", "place", "beyond", "spot", "late", "early", "first_wrong", "line_here", "wrong", "dues", "kept", "some", "due", "turn", "value", "least", "door"] ["pool"] (defScope s_law_right) := ⟨rfl, rfl, rfl, by decide +kernel, rfl, by decide +kernel, by decide +kernel⟩
abbrev s_law : Stmt := topS 43
theorem sc_law : FnScope ["script", "at", "pool", "turn", "told"] ["script"] (defScope s_law) := ⟨rfl, rfl, rfl, by decide +kernel, rfl, by decide +kernel, by decide +kernel⟩
abbrev s_InvalidCommand_i : Stmt := inClass (topS 4) 0
abbrev s_InvalidNumber_i : Stmt := inClass (topS 6) 0
abbrev s_InvalidRow_i : Stmt := inClass (topS 5) 0
abbrev s_InvalidSize_i : Stmt := inClass (topS 3) 0
theorem sc_InvalidCommand_i : FnScope ["self", "value"] ["self", "value"] (defScope s_InvalidCommand_i) := ⟨rfl, rfl, rfl, by decide +kernel, rfl, by decide +kernel, by decide +kernel⟩
theorem sc_InvalidNumber_i : FnScope ["self", "value"] ["self", "value"] (defScope s_InvalidNumber_i) := ⟨rfl, rfl, rfl, by decide +kernel, rfl, by decide +kernel, by decide +kernel⟩
theorem sc_InvalidRow_i : FnScope ["self", "value"] ["self", "value"] (defScope s_InvalidRow_i) := ⟨rfl, rfl, rfl, by decide +kernel, rfl, by decide +kernel, by decide +kernel⟩
theorem sc_InvalidSize_i : FnScope ["self", "value"] ["self", "value"] (defScope s_InvalidSize_i) := ⟨rfl, rfl, rfl, by decide +kernel, rfl, by decide +kernel, by decide +kernel⟩
structure Txt (K : PySem.W.Frag) (mg : Str → Option Value) where
  InvalidCommand_a : Addr
  InvalidCommand_g : mg "InvalidCommand" = some (.ref InvalidCommand_a)
  InvalidNumber_a : Addr
  InvalidNumber_g : mg "InvalidNumber" = some (.ref InvalidNumber_a)
  InvalidRow_a : Addr
  InvalidRow_g : mg "InvalidRow" = some (.ref InvalidRow_a)
  InvalidSize_a : Addr
  InvalidSize_g : mg "InvalidSize" = some (.ref InvalidSize_a)
  NothingToUndo_a : Addr
  NothingToUndo_g : mg "NothingToUndo" = some (.ref NothingToUndo_a)
  SortError_a : Addr
  SortError_g : mg "SortError" = some (.ref SortError_a)
  UnequalSizes_a : Addr
  UnequalSizes_g : mg "UnequalSizes" = some (.ref UnequalSizes_a)
  Unreadable_a : Addr
  Unreadable_g : mg "Unreadable" = some (.ref Unreadable_a)
  InvalidCommand_i_a : Addr
  InvalidCommand_i_d : FuncData
  InvalidCommand_i_F : Fun K "__init__" "InvalidCommand.__init__" s_InvalidCommand_i InvalidCommand_i_a InvalidCommand_i_d
  InvalidCommand_i_b : Binds K InvalidCommand_i_d ["self", "value"] []
  InvalidCommand_X : ExcC K InvalidCommand_a
  InvalidCommand_is_InvalidCommand : PySem.W.kitOne K (.ref InvalidCommand_a) (.ref InvalidCommand_a) = some true
  InvalidCommand_is_InvalidNumber : PySem.W.kitOne K (.ref InvalidCommand_a) (.ref InvalidNumber_a) = some false
  InvalidCommand_is_InvalidRow : PySem.W.kitOne K (.ref InvalidCommand_a) (.ref InvalidRow_a) = some false
  InvalidCommand_is_InvalidSize : PySem.W.kitOne K (.ref InvalidCommand_a) (.ref InvalidSize_a) = some false
  InvalidCommand_is_NothingToUndo : PySem.W.kitOne K (.ref InvalidCommand_a) (.ref NothingToUndo_a) = some false
  InvalidCommand_is_SortError : PySem.W.kitOne K (.ref InvalidCommand_a) (.ref SortError_a) = some true
  InvalidCommand_is_UnequalSizes : PySem.W.kitOne K (.ref InvalidCommand_a) (.ref UnequalSizes_a) = some false
  InvalidCommand_is_Unreadable : PySem.W.kitOne K (.ref InvalidCommand_a) (.ref Unreadable_a) = some false
  InvalidCommand_is_ValueError : PySem.W.kitOne K (.ref InvalidCommand_a) (.type "ValueError") = some true
  InvalidCommand_E : ErrC K mg "InvalidCommand" SortError_a InvalidCommand_a InvalidCommand_i_a
  InvalidNumber_i_a : Addr
  InvalidNumber_i_d : FuncData
  InvalidNumber_i_F : Fun K "__init__" "InvalidNumber.__init__" s_InvalidNumber_i InvalidNumber_i_a InvalidNumber_i_d
  InvalidNumber_i_b : Binds K InvalidNumber_i_d ["self", "value"] []
  InvalidNumber_X : ExcC K InvalidNumber_a
  InvalidNumber_is_InvalidCommand : PySem.W.kitOne K (.ref InvalidNumber_a) (.ref InvalidCommand_a) = some false
  InvalidNumber_is_InvalidNumber : PySem.W.kitOne K (.ref InvalidNumber_a) (.ref InvalidNumber_a) = some true
  InvalidNumber_is_InvalidRow : PySem.W.kitOne K (.ref InvalidNumber_a) (.ref InvalidRow_a) = some false
  InvalidNumber_is_InvalidSize : PySem.W.kitOne K (.ref InvalidNumber_a) (.ref InvalidSize_a) = some false
  InvalidNumber_is_NothingToUndo : PySem.W.kitOne K (.ref InvalidNumber_a) (.ref NothingToUndo_a) = some false
  InvalidNumber_is_SortError : PySem.W.kitOne K (.ref InvalidNumber_a) (.ref SortError_a) = some true
  InvalidNumber_is_UnequalSizes : PySem.W.kitOne K (.ref InvalidNumber_a) (.ref UnequalSizes_a) = some false
  InvalidNumber_is_Unreadable : PySem.W.kitOne K (.ref InvalidNumber_a) (.ref Unreadable_a) = some false
  InvalidNumber_is_ValueError : PySem.W.kitOne K (.ref InvalidNumber_a) (.type "ValueError") = some true
  InvalidNumber_E : ErrC K mg "InvalidNumber" SortError_a InvalidNumber_a InvalidNumber_i_a
  InvalidRow_i_a : Addr
  InvalidRow_i_d : FuncData
  InvalidRow_i_F : Fun K "__init__" "InvalidRow.__init__" s_InvalidRow_i InvalidRow_i_a InvalidRow_i_d
  InvalidRow_i_b : Binds K InvalidRow_i_d ["self", "value"] []
  InvalidRow_X : ExcC K InvalidRow_a
  InvalidRow_is_InvalidCommand : PySem.W.kitOne K (.ref InvalidRow_a) (.ref InvalidCommand_a) = some false
  InvalidRow_is_InvalidNumber : PySem.W.kitOne K (.ref InvalidRow_a) (.ref InvalidNumber_a) = some false
  InvalidRow_is_InvalidRow : PySem.W.kitOne K (.ref InvalidRow_a) (.ref InvalidRow_a) = some true
  InvalidRow_is_InvalidSize : PySem.W.kitOne K (.ref InvalidRow_a) (.ref InvalidSize_a) = some false
  InvalidRow_is_NothingToUndo : PySem.W.kitOne K (.ref InvalidRow_a) (.ref NothingToUndo_a) = some false
  InvalidRow_is_SortError : PySem.W.kitOne K (.ref InvalidRow_a) (.ref SortError_a) = some true
  InvalidRow_is_UnequalSizes : PySem.W.kitOne K (.ref InvalidRow_a) (.ref UnequalSizes_a) = some false
  InvalidRow_is_Unreadable : PySem.W.kitOne K (.ref InvalidRow_a) (.ref Unreadable_a) = some false
  InvalidRow_is_ValueError : PySem.W.kitOne K (.ref InvalidRow_a) (.type "ValueError") = some true
  InvalidRow_E : ErrC K mg "InvalidRow" SortError_a InvalidRow_a InvalidRow_i_a
  InvalidSize_i_a : Addr
  InvalidSize_i_d : FuncData
  InvalidSize_i_F : Fun K "__init__" "InvalidSize.__init__" s_InvalidSize_i InvalidSize_i_a InvalidSize_i_d
  InvalidSize_i_b : Binds K InvalidSize_i_d ["self", "value"] []
  InvalidSize_X : ExcC K InvalidSize_a
  InvalidSize_is_InvalidCommand : PySem.W.kitOne K (.ref InvalidSize_a) (.ref InvalidCommand_a) = some false
  InvalidSize_is_InvalidNumber : PySem.W.kitOne K (.ref InvalidSize_a) (.ref InvalidNumber_a) = some false
  InvalidSize_is_InvalidRow : PySem.W.kitOne K (.ref InvalidSize_a) (.ref InvalidRow_a) = some false
  InvalidSize_is_InvalidSize : PySem.W.kitOne K (.ref InvalidSize_a) (.ref InvalidSize_a) = some true
  InvalidSize_is_NothingToUndo : PySem.W.kitOne K (.ref InvalidSize_a) (.ref NothingToUndo_a) = some false
  InvalidSize_is_SortError : PySem.W.kitOne K (.ref InvalidSize_a) (.ref SortError_a) = some true
  InvalidSize_is_UnequalSizes : PySem.W.kitOne K (.ref InvalidSize_a) (.ref UnequalSizes_a) = some false
  InvalidSize_is_Unreadable : PySem.W.kitOne K (.ref InvalidSize_a) (.ref Unreadable_a) = some false
  InvalidSize_is_ValueError : PySem.W.kitOne K (.ref InvalidSize_a) (.type "ValueError") = some true
  InvalidSize_E : ErrC K mg "InvalidSize" SortError_a InvalidSize_a InvalidSize_i_a
  check_size_a : Addr
  check_size_d : FuncData
  check_size_F : Fun K "check_size" "check_size" s_check_size check_size_a check_size_d
  check_size_b : Binds K check_size_d ["size"] []
  check_size_g : mg "check_size" = some (.ref check_size_a)
  check_script_a : Addr
  check_script_d : FuncData
  check_script_F : Fun K "check_script" "check_script" s_check_script check_script_a check_script_d
  check_script_b : Binds K check_script_d ["size", "commands"] []
  check_script_g : mg "check_script" = some (.ref check_script_a)
  check_sized_script_a : Addr
  check_sized_script_d : FuncData
  check_sized_script_F : Fun K "check_sized_script" "check_sized_script" s_check_sized_script check_sized_script_a check_sized_script_d
  check_sized_script_b : Binds K check_sized_script_d ["size", "commands"] []
  check_sized_script_g : mg "check_sized_script" = some (.ref check_sized_script_a)
  check_arrangement_a : Addr
  check_arrangement_d : FuncData
  check_arrangement_F : Fun K "check_arrangement" "check_arrangement" s_check_arrangement check_arrangement_a check_arrangement_d
  check_arrangement_b : Binds K check_arrangement_d ["row"] []
  check_arrangement_g : mg "check_arrangement" = some (.ref check_arrangement_a)
  sort_stretches_a : Addr
  sort_stretches_d : FuncData
  sort_stretches_F : Fun K "sort_stretches" "sort_stretches" s_sort_stretches sort_stretches_a sort_stretches_d
  sort_stretches_b : Binds K sort_stretches_d ["row", "commands"] []
  sort_stretches_g : mg "sort_stretches" = some (.ref sort_stretches_a)
  run_a : Addr
  run_d : FuncData
  run_F : Fun K "run" "run" s_run run_a run_d
  run_b : Binds K run_d ["row", "commands"] []
  run_g : mg "run" = some (.ref run_a)
  descending_row_a : Addr
  descending_row_d : FuncData
  descending_row_F : Fun K "descending_row" "descending_row" s_descending_row descending_row_a descending_row_d
  descending_row_b : Binds K descending_row_d ["size"] []
  descending_row_g : mg "descending_row" = some (.ref descending_row_a)
  rounds_a : Addr
  rounds_d : FuncData
  rounds_F : Fun K "rounds" "rounds" s_rounds rounds_a rounds_d
  rounds_b : Binds K rounds_d ["size", "commands"] []
  rounds_g : mg "rounds" = some (.ref rounds_a)
  linked_blocks_a : Addr
  linked_blocks_d : FuncData
  linked_blocks_F : Fun K "linked_blocks" "linked_blocks" s_linked_blocks linked_blocks_a linked_blocks_d
  linked_blocks_b : Binds K linked_blocks_d ["size", "commands"] []
  linked_blocks_g : mg "linked_blocks" = some (.ref linked_blocks_a)
  blocks_a : Addr
  blocks_d : FuncData
  blocks_F : Fun K "blocks" "blocks" s_blocks blocks_a blocks_d
  blocks_b : Binds K blocks_d ["size", "commands"] []
  blocks_g : mg "blocks" = some (.ref blocks_a)
  block_lengths_a : Addr
  block_lengths_d : FuncData
  block_lengths_F : Fun K "block_lengths" "block_lengths" s_block_lengths block_lengths_a block_lengths_d
  block_lengths_b : Binds K block_lengths_d ["size", "commands"] []
  block_lengths_g : mg "block_lengths" = some (.ref block_lengths_a)
  count_unchanged_a : Addr
  count_unchanged_d : FuncData
  count_unchanged_F : Fun K "count_unchanged" "count_unchanged" s_count_unchanged count_unchanged_a count_unchanged_d
  count_unchanged_b : Binds K count_unchanged_d ["size", "commands"] []
  count_unchanged_g : mg "count_unchanged" = some (.ref count_unchanged_a)
  nth_choice_a : Addr
  nth_choice_d : FuncData
  nth_choice_F : Fun K "nth_choice" "nth_choice" s_nth_choice nth_choice_a nth_choice_d
  nth_choice_b : Binds K nth_choice_d ["values", "length", "number"] []
  nth_choice_g : mg "nth_choice" = some (.ref nth_choice_a)
  choice_number_a : Addr
  choice_number_d : FuncData
  choice_number_F : Fun K "choice_number" "choice_number" s_choice_number choice_number_a choice_number_d
  choice_number_b : Binds K choice_number_d ["values", "chosen"] []
  choice_number_g : mg "choice_number" = some (.ref choice_number_a)
  nth_unchanged_a : Addr
  nth_unchanged_d : FuncData
  nth_unchanged_F : Fun K "nth_unchanged" "nth_unchanged" s_nth_unchanged nth_unchanged_a nth_unchanged_d
  nth_unchanged_b : Binds K nth_unchanged_d ["size", "commands", "number"] []
  nth_unchanged_g : mg "nth_unchanged" = some (.ref nth_unchanged_a)
  unchanged_number_a : Addr
  unchanged_number_d : FuncData
  unchanged_number_F : Fun K "unchanged_number" "unchanged_number" s_unchanged_number unchanged_number_a unchanged_number_d
  unchanged_number_b : Binds K unchanged_number_d ["commands", "row"] []
  unchanged_number_g : mg "unchanged_number" = some (.ref unchanged_number_a)
  turns_a : Addr
  turns_d : FuncData
  turns_F : Fun K "turns" "turns" s_turns turns_a turns_d
  turns_b : Binds K turns_d ["alone", "shared", "other"] []
  turns_g : mg "turns" = some (.ref turns_a)
  law_pool_a : Addr
  law_pool_d : FuncData
  law_pool_F : Fun K "_law_pool" "_law_pool" s_law_pool law_pool_a law_pool_d
  law_pool_b : Binds K law_pool_d ["script", "at"] []
  law_pool_g : mg "_law_pool" = some (.ref law_pool_a)
  law_draw_a : Addr
  law_draw_d : FuncData
  law_draw_F : Fun K "_law_draw" "_law_draw" s_law_draw law_draw_a law_draw_d
  law_draw_b : Binds K law_draw_d ["pool", "many"] []
  law_draw_g : mg "_law_draw" = some (.ref law_draw_a)
  law_steps_a : Addr
  law_steps_d : FuncData
  law_steps_F : Fun K "_law_steps" "_law_steps" s_law_steps law_steps_a law_steps_d
  law_steps_b : Binds K law_steps_d ["pool", "wide", "most"] []
  law_steps_g : mg "_law_steps" = some (.ref law_steps_a)
  law_line_a : Addr
  law_line_d : FuncData
  law_line_F : Fun K "_law_line" "_law_line" s_law_line law_line_a law_line_d
  law_line_b : Binds K law_line_d ["pool", "wide"] []
  law_line_g : mg "_law_line" = some (.ref law_line_a)
  law_blocks_a : Addr
  law_blocks_d : FuncData
  law_blocks_F : Fun K "_law_blocks" "_law_blocks" s_law_blocks law_blocks_a law_blocks_d
  law_blocks_b : Binds K law_blocks_d ["wide", "steps_here"] []
  law_blocks_g : mg "_law_blocks" = some (.ref law_blocks_a)
  law_kind_a : Addr
  law_kind_d : FuncData
  law_kind_F : Fun K "_law_kind" "_law_kind" s_law_kind law_kind_a law_kind_d
  law_kind_b : Binds K law_kind_d ["caught"] []
  law_kind_g : mg "_law_kind" = some (.ref law_kind_a)
  law_bad_steps_a : Addr
  law_bad_steps_d : FuncData
  law_bad_steps_F : Fun K "_law_bad_steps" "_law_bad_steps" s_law_bad_steps law_bad_steps_a law_bad_steps_d
  law_bad_steps_b : Binds K law_bad_steps_d ["pool", "wide", "steps_here"] []
  law_bad_steps_g : mg "_law_bad_steps" = some (.ref law_bad_steps_a)
  law_told_a : Addr
  law_told_d : FuncData
  law_told_F : Fun K "_law_told" "_law_told" s_law_told law_told_a law_told_d
  law_told_b : Binds K law_told_d ["door", "wide", "steps_here", "spot", "line_here"] []
  law_told_g : mg "_law_told" = some (.ref law_told_a)
  law_turns_told_a : Addr
  law_turns_told_d : FuncData
  law_turns_told_F : Fun K "_law_turns_told" "_law_turns_told" s_law_turns_told law_turns_told_a law_turns_told_d
  law_turns_told_b : Binds K law_turns_told_d ["left", "both", "right"] []
  law_turns_told_g : mg "_law_turns_told" = some (.ref law_turns_told_a)
  law_bad_line_a : Addr
  law_bad_line_d : FuncData
  law_bad_line_F : Fun K "_law_bad_line" "_law_bad_line" s_law_bad_line law_bad_line_a law_bad_line_d
  law_bad_line_b : Binds K law_bad_line_d ["pool", "line_here"] []
  law_bad_line_g : mg "_law_bad_line" = some (.ref law_bad_line_a)
  law_right_a : Addr
  law_right_d : FuncData
  law_right_F : Fun K "_law_right" "_law_right" s_law_right law_right_a law_right_d
  law_right_b : Binds K law_right_d ["pool"] []
  law_right_g : mg "_law_right" = some (.ref law_right_a)
  law_a : Addr
  law_d : FuncData
  law_F : Fun K "law" "law" s_law law_a law_d
  law_b : Binds K law_d ["script"] []
  law_g : mg "law" = some (.ref law_a)
  m_ValueError : mg "ValueError" = none
  m_abs : mg "abs" = none
  m_divmod : mg "divmod" = none
  m_enumerate : mg "enumerate" = none
  m_int : mg "int" = none
  m_isinstance : mg "isinstance" = none
  m_len : mg "len" = none
  m_list : mg "list" = none
  m_max : mg "max" = none
  m_min : mg "min" = none
  m_range : mg "range" = none
  m_repr : mg "repr" = none
  m_set : mg "set" = none
  m_sorted : mg "sorted" = none
  m_zip : mg "zip" = none
  g_comb : mg "comb" = some (.builtin "math.comb")
section
variable {P : Program} {w : World} {K : PySem.W.Frag} {mg : Str → Option Value} {base : Heap}
open My
theorem at_tab {n k : Nat} {f : Nat → Int} {z : Int} (e : z = (k : Int)) (h : k < n) : atI ((tab n f).map V.int) z = some (.int (f k)) := at_of e (by rw [List.getElem?_map, tab_get h]; rfl)
/-- at as stand rows -/
structure Rws (H : Hp) (as : List Addr) (ls : List (List Int)) : Prop where
  len : as.length = ls.length
  at_ : ∀ (i : Nat) (t : Addr), as[i]? = some t → ∃ l, ls[i]? = some l ∧ H t = some (.lst (l.map V.int))
theorem Rws.same {H H' : Hp} {as : List Addr} {ls : List (List Int)} (h : Rws H as ls) (s : Same H H') : Rws H' as ls :=
  ⟨h.len, fun i t e => let ⟨l, e1, e2⟩ := h.at_ i t e; ⟨l, e1, s _ _ e2⟩⟩
theorem Rws.nil {H : Hp} : Rws H [] [] := ⟨rfl, fun i t e => by simp at e⟩
theorem Rws.app {H : Hp} {ts us : List Addr} {cs ds : List (List Int)} (h : Rws H ts cs) (g : Rws H us ds) : Rws H (ts ++ us) (cs ++ ds) := by
  refine ⟨by rw [List.length_append, List.length_append, h.len, g.len], fun i p e => ?_⟩
  by_cases q : i < ts.length
  · rw [List.getElem?_append_left q] at e
    obtain ⟨c, e1, e2⟩ := h.at_ i p e
    exact ⟨c, by rw [List.getElem?_append_left (h.len ▸ q)]; exact e1, e2⟩
  · rw [List.getElem?_append_right (by omega)] at e
    obtain ⟨c, e1, e2⟩ := g.at_ _ p e
    exact ⟨c, by rw [List.getElem?_append_right (by have := h.len; omega), ← h.len]; exact e1, e2⟩
theorem Rws.one {H : Hp} {t : Addr} {l : List Int} (h : H t = some (.lst (l.map V.int))) : Rws H [t] [l] := ⟨rfl, fun i p e => by
  cases i with
  | zero => cases e; exact ⟨l, rfl, h⟩
  | succ i => simp at e⟩
theorem Rws.idx {H : Hp} {as : List Addr} {ls : List (List Int)} (h : Rws H as ls) {i : Nat} (hi : i < ls.length) : ∃ t, as[i]? = some t ∧ H t = some (.lst (ls[i].map V.int)) := by
  have hi' : i < as.length := by rw [h.len]; exact hi
  obtain ⟨c, e1, e2⟩ := h.at_ i _ (List.getElem?_eq_getElem hi')
  rw [List.getElem?_eq_getElem hi] at e1
  cases e1
  exact ⟨_, List.getElem?_eq_getElem hi', e2⟩
/-- kept if all rows are new and only what was there before, or p, is written -/
theorem Rws.upd_ {H : Hp} {as : List Addr} {ls : List (List Int)} {p : Addr} {o : HO} (h : Rws H as ls) (n : p ∉ as) : Rws (upd H p o) as ls :=
  ⟨h.len, fun i t e => let ⟨l, e1, e2⟩ := h.at_ i t e; ⟨l, e1, upd_to (fun q => n (q ▸ List.mem_of_getElem? e)) e2⟩⟩
open My
/-- at ts stand the commands cs, as tuples -/
structure Cm (H : Hp) (ts : List Addr) (cs : List Cmd) : Prop where
  len : ts.length = cs.length
  at_ : ∀ (i : Nat) (t : Addr), ts[i]? = some t → ∃ c, cs[i]? = some c ∧ H t = some (.tup [.int (c.1 : Nat), .int (c.2 : Nat)])
theorem Cm.same {H H' : Hp} {ts : List Addr} {cs : List Cmd} (h : Cm H ts cs) (s : Same H H') : Cm H' ts cs :=
  ⟨h.len, fun i t e => let ⟨c, e1, e2⟩ := h.at_ i t e; ⟨c, e1, s _ _ e2⟩⟩
theorem Cm.put {H : Hp} {ts : List Addr} {cs : List Cmd} {p : Addr} {xs : List V} {o : HO} (h : Cm H ts cs) (hp : H p = some (.lst xs)) : Cm (upd H p o) ts cs :=
  ⟨h.len, fun i t e => let ⟨c, e1, e2⟩ := h.at_ i t e; ⟨c, e1, upd_to (ne_of e2 hp (by intro z; cases z)) e2⟩⟩
theorem Cm.nil {H : Hp} : Cm H [] [] := ⟨rfl, fun i t e => by simp at e⟩
theorem Cm.snoc {H : Hp} {ts : List Addr} {cs : List Cmd} {t : Addr} {c : Cmd} (h : Cm H ts cs) (e : H t = some (.tup [.int (c.1 : Nat), .int (c.2 : Nat)])) : Cm H (ts ++ [t]) (cs ++ [c]) := by
  refine ⟨by rw [List.length_append, List.length_append, h.len]; rfl, fun i t' e' => ?_⟩
  by_cases q : i < ts.length
  · rw [List.getElem?_append_left q] at e'
    obtain ⟨c', e1, e2⟩ := h.at_ i t' e'
    exact ⟨c', by rw [List.getElem?_append_left (h.len ▸ q)]; exact e1, e2⟩
  · rw [List.getElem?_append_right (by omega)] at e'
    have e3 : i - ts.length = 0 := by
      cases hh : i - ts.length with
      | zero => rfl
      | succ k => rw [hh] at e'; simp at e'
    rw [e3] at e'
    cases e'
    exact ⟨c, by rw [List.getElem?_append_right (by have := h.len; omega), ← h.len, e3]; rfl, e⟩
theorem Cm.idx {H : Hp} {ts : List Addr} {cs : List Cmd} (h : Cm H ts cs) {i : Nat} (hi : i < cs.length) : ∃ t, ts[i]? = some t ∧ H t = some (.tup [.int (cs[i].1 : Nat), .int (cs[i].2 : Nat)]) := by
  have hi' : i < ts.length := by rw [h.len]; exact hi
  obtain ⟨c, e1, e2⟩ := h.at_ i _ (List.getElem?_eq_getElem hi')
  rw [List.getElem?_eq_getElem hi] at e1
  cases e1
  exact ⟨_, List.getElem?_eq_getElem hi', e2⟩
theorem Cm.take {H : Hp} {ts : List Addr} {cs : List Cmd} (h : Cm H ts cs) (k : Nat) : Cm H (ts.take k) (cs.take k) := by
  refine ⟨by rw [List.length_take, List.length_take, h.len], fun i t e => ?_⟩
  rw [List.getElem?_take] at e
  split at e
  · rename_i hk
    obtain ⟨c, e1, e2⟩ := h.at_ i t e
    exact ⟨c, by rw [List.getElem?_take, if_pos hk]; exact e1, e2⟩
  · cases e
theorem Cm.drop {H : Hp} {ts : List Addr} {cs : List Cmd} (h : Cm H ts cs) (k : Nat) : Cm H (ts.drop k) (cs.drop k) := by
  refine ⟨by rw [List.length_drop, List.length_drop, h.len], fun i t e => ?_⟩
  rw [List.getElem?_drop] at e
  obtain ⟨c, e1, e2⟩ := h.at_ _ t e
  exact ⟨c, by rw [List.getElem?_drop]; exact e1, e2⟩
/-! the data of a script -/
def dC1 (c : Cmd) : PyData := .tuple [.int (c.1 : Nat), .int (c.2 : Nat)]
abbrev dC (cs : List Cmd) : PyData := .list (cs.map dC1)
theorem dp_cmAll {K : PySem.W.Frag} {H : Hp} : ∀ {ts : List Addr} {cs : List Cmd}, Cm H ts cs → DpAll K H (ts.map V.ref) (cs.map dC1)
  | [], [], _ => .nil
  | [], _ :: _, h => nomatch h.len
  | _ :: _, [], h => nomatch h.len
  | t :: ts, c :: cs, h => by
    obtain ⟨c', e1, e2⟩ := h.at_ 0 t rfl
    cases e1
    refine .cons (.tup (sqT e2) (.cons (.int _) (.cons (.int _) .nil))) (dp_cmAll ⟨by have := h.len; simpa using this, fun i t' e => ?_⟩)
    exact h.at_ (i + 1) t' e
theorem dp_cm {K : PySem.W.Frag} {H : Hp} {a : Addr} {ts : List Addr} {cs : List Cmd} (h : SqL K H a (ts.map V.ref)) (hc : Cm H ts cs) : Dp K H (.ref a) (dC cs) := .lst h (dp_cmAll hc)
theorem lay_cm : ∀ cs : List Cmd, PyData.canLayAll0 (cs.map dC1) = true
  | [] => rfl
  | _ :: r => lay_cm r
theorem depth_cm : ∀ cs : List Cmd, PyData.depthAll (cs.map dC1) ≤ 1
  | [] => by decide
  | c :: r => by
    have := depth_cm r
    show max 1 (PyData.depthAll (r.map dC1)) ≤ 1
    omega
theorem depth_dC (cs : List Cmd) : (dC cs).depth ≤ 2 := by
  have := depth_cm cs
  show PyData.depthAll (cs.map dC1) + 1 ≤ 2
  omega
theorem shaped_dC (cs : List Cmd) : SeqAt.shaped (dC cs) = true := by
  unfold SeqAt.shaped
  rw [Bool.and_eq_true]
  refine ⟨lay_cm cs, ?_⟩
  have := depth_dC cs
  rw [decide_eq_true_eq]
  omega
theorem shaped_nil : SeqAt.shaped (.list []) = true := rfl
theorem r_neNilC {K : PySem.W.Frag} {H : Hp} {a b : Addr} {ts : List Addr} {cs : List Cmd} {Q : VK} (h : SqL K H a (ts.map V.ref)) (hc : Cm H ts cs) (g : SqL K H b []) (q : Q (.bl (!decide (cs = []))) H) : rNeD K (.ref a) (.ref b) H Q := by
  refine ⟨_, _, dp_cm h hc, .lst g .nil, shaped_dC cs, shaped_nil, ?_⟩
  have e : PyData.eqv (dC cs) (.list []) = decide (cs = []) := by cases cs <;> rfl
  rw [e]; exact q
theorem sh_dC {cs : List Cmd} {n : Nat} (h : ∀ c ∈ cs, c.1 ≤ n ∧ c.2 ≤ n) (hn : n ≤ 100000) : Sh (cs.length * 25 + 2) (dC cs) := by
  have := Sh.list (b := 23) (ds := cs.map dC1) fun d hd => by
    obtain ⟨c, hc, rfl⟩ := List.mem_map.mp hd
    have hb := h c hc
    refine (Sh.tuple (b := 8) fun e he => ?_).mono (by show 2 * (8 + 2) + 3 ≤ 23; decide)
    rcases List.mem_cons.mp he with e1 | e1
    · rw [e1]; exact (Sh.int (k := 7) (by decide) (by omega) (by decide)).mono (by decide)
    · rw [List.mem_singleton.mp e1]; exact (Sh.int (k := 7) (by decide) (by omega) (by decide)).mono (by decide)
  rw [List.length_map] at this
  exact this
def pI (ps : List Nat) : List Int := ps.map fun (k : Nat) => (k : Int)
/-- a row after so many rounds -/
def pwr (ps : List Nat) : Nat → List Int → List Int
  | 0, l => l
  | k + 1, l => pwr ps k (nbs l ps)
theorem pwr_fix {ps : List Nat} {l : List Int} (h : nbs l ps = l) : ∀ k, pwr ps k l = l
  | 0 => rfl
  | k + 1 => by show pwr ps k (nbs l ps) = l; rw [h]; exact pwr_fix h k
def rep (k : Nat) (cs : List Cmd) : List Cmd := (List.replicate k cs).flatten
theorem rep_succ (k : Nat) (cs : List Cmd) : rep (k + 1) cs = cs ++ rep k cs := by unfold rep; rw [List.replicate_succ, List.flatten_cons]
theorem rep_add (j k : Nat) (cs : List Cmd) : rep (j + k) cs = rep j cs ++ rep k cs := by unfold rep; rw [← List.flatten_append, List.replicate_append_replicate]
theorem fits_rep {n : Nat} {cs : List Cmd} (h : Fits n cs) (k : Nat) : Fits n (rep k cs) := fun c hc => by
  obtain ⟨l, h1, h2⟩ := List.mem_flatten.mp hc
  rw [List.eq_of_mem_replicate h1] at h2
  exact h c h2
theorem fits_app {n : Nat} {cs ds : List Cmd} (h : Fits n cs) (g : Fits n ds) : Fits n (cs ++ ds) := fun c hc => by
  rcases List.mem_append.mp hc with z | z
  · exact h c z
  · exact g c z
theorem pwr_run {E : List Int} {ps : List Nat} {cs : List Cmd} (hs : Stand E ps) (hc : Fits E.length cs) (he : runM (desc E.length) cs = E) : ∀ (k : Nat) (l : List Int), l.length = E.length → pwr ps k l = runM l (rep k cs)
  | 0, _, _ => rfl
  | k + 1, l, hl => by
    show pwr ps k (nbs l ps) = _
    rw [stand_run hs hl hc he, pwr_run hs hc he k _ (by rw [runM_len (by rw [hl]; exact hc)]; exact hl), rep_succ, runM_app]
theorem Cm.app {H : Hp} {ts us : List Addr} {cs ds : List Cmd} (h : Cm H ts cs) (g : Cm H us ds) : Cm H (ts ++ us) (cs ++ ds) := by
  refine ⟨by rw [List.length_append, List.length_append, h.len, g.len], fun i p e => ?_⟩
  by_cases q : i < ts.length
  · rw [List.getElem?_append_left q] at e
    obtain ⟨c, e1, e2⟩ := h.at_ i p e
    exact ⟨c, by rw [List.getElem?_append_left (h.len ▸ q)]; exact e1, e2⟩
  · rw [List.getElem?_append_right (by omega)] at e
    obtain ⟨c, e1, e2⟩ := g.at_ _ p e
    exact ⟨c, by rw [List.getElem?_append_right (by have := h.len; omega), ← h.len]; exact e1, e2⟩
theorem Cm.reps {H : Hp} {ts : List Addr} {cs : List Cmd} (h : Cm H ts cs) : ∀ k : Nat, Cm H (List.replicate k ts).flatten (rep k cs)
  | 0 => Cm.nil
  | k + 1 => by rw [List.replicate_succ, List.flatten_cons, rep_succ]; exact h.app (Cm.reps h k)
theorem pI_len (ps : List Nat) : (pI ps).length = ps.length := by simp [pI]
theorem eqv_cs : ∀ cs ds : List Cmd, PyData.eqvAll (cs.map dC1) (ds.map dC1) = decide (cs = ds)
  | [], [] => rfl
  | [], _ :: _ => rfl
  | _ :: _, [] => rfl
  | c :: r, d :: t => by
    show (((((c.1 : Nat) : Int) == ((d.1 : Nat) : Int)) && ((((c.2 : Nat) : Int) == ((d.2 : Nat) : Int)) && true)) && PyData.eqvAll (r.map dC1) (t.map dC1)) = _
    rw [eqv_cs r t]
    obtain ⟨a, b⟩ := c
    obtain ⟨a', b'⟩ := d
    by_cases e : a = a' <;> by_cases g : b = b' <;> by_cases f : r = t <;> simp [e, g, f] <;> omega
theorem r_eqCs {K : PySem.W.Frag} {H : Hp} {a b : Addr} {ts us : List Addr} {cs ds : List Cmd} {Q : VK} (h : SqL K H a (ts.map V.ref)) (hc : Cm H ts cs) (g : SqL K H b (us.map V.ref)) (gc : Cm H us ds) (q : Q (.bl (decide (cs = ds))) H) : rEqD K (.ref a) (.ref b) H Q :=
  ⟨_, _, dp_cm h hc, dp_cm g gc, shaped_dC cs, shaped_dC ds, by rw [show PyData.eqv (dC cs) (dC ds) = decide (cs = ds) from eqv_cs cs ds]; exact q⟩
theorem r_neCs {K : PySem.W.Frag} {H : Hp} {a b : Addr} {ts us : List Addr} {cs ds : List Cmd} {Q : VK} (h : SqL K H a (ts.map V.ref)) (hc : Cm H ts cs) (g : SqL K H b (us.map V.ref)) (gc : Cm H us ds) (q : Q (.bl (!decide (cs = ds))) H) : rNeD K (.ref a) (.ref b) H Q :=
  ⟨_, _, dp_cm h hc, dp_cm g gc, shaped_dC cs, shaped_dC ds, by rw [show PyData.eqv (dC cs) (dC ds) = decide (cs = ds) from eqv_cs cs ds]; exact q⟩
section keep
variable {K : PySem.W.Frag} {H H' H1 : Hp} {Q : VK} {a b p r g : Addr} {o : HO} {ns : List Int} {m : Nat}
theorem n_sorted (h : SqL K H a (ns.map V.int)) (q : New Q H (.lst ((srt ns).map V.int))) : rSortedI K [.ref a] H Q := ⟨a, ns, rfl, h, fun ns' p hp hu np => by
  have e := srt_is hp hu
  subst e
  exact q p np⟩
theorem Rws.row {as : List Addr} {ls : List (List Int)} (h : Rws H as ls) {i : Nat} {t : Addr} {l : List Int} (e : as[i]? = some t) (g : ls[i]? = some l) : H t = some (.lst (l.map V.int)) := by
  obtain ⟨l', e1, e2⟩ := h.at_ i t e
  rw [g] at e1; cases e1; exact e2
theorem n_reprC {ts : List Addr} {cs : List Cmd} {n : Nat} (h : SqL K H a (ts.map V.ref)) (hc : Cm H ts cs) (hf : Fits n cs) (hn : n ≤ 100000) (hl : cs.length ≤ 600000) (q : Q (.str (dC cs).shown) H) : rReprD K [.ref a] H Q :=
  r_repr (d := dC cs) (dp_cm h hc) (Nat.le_trans (depth_dC cs) (by decide)) (sh_dC (n := n) (fun c hc => by have := hf c hc; omega) hn) (by omega) q
/-- rows written one by one into a new list -/
def RwI (H1 : Hp) (D : Addr) (ms : List (List Int)) (i : Nat) (H : Hp) : Prop := ∃ es : List Addr, es.length = i ∧ H D = some (.lst (es.map V.ref)) ∧ Same H1 H ∧ (∀ t ∈ es, H1 t = none ∧ t ≠ D) ∧ Rws H es (ms.take i)
theorem rwi_nil {D : Addr} {ms : List (List Int)} (nD : H1 D = none) : RwI H1 D ms 0 (upd H1 D (.lst [])) := ⟨[], rfl, upd_same, same_new nD, (fun t ht => by cases ht), Rws.nil⟩
theorem rwi_put {D : Addr} {ms : List (List Int)} {i : Nat} {l : List Int} (h : RwI H1 D ms i H) (nD : H1 D = none) (hl : ms[i]? = some l) (hi : i ≤ 100000) (s : Same H H') (n : H p = none) (hp : H' p = some (.lst (l.map V.int))) :
    ∃ acc, H' D = some (.lst acc) ∧ acc.length < sizeLine ∧ RwI H1 D ms (i + 1) (upd H' D (.lst (acc ++ [.ref p]))) := by
  obtain ⟨es, hel, hD, sk, hfe, hE⟩ := h
  have hi' : i < ms.length := (List.getElem?_eq_some_iff.mp hl).1
  have ei : ms[i] = l := (List.getElem?_eq_some_iff.mp hl).2
  have n5 := sk.free n
  have h5D : p ≠ D := (ne_of_none hD n).symm
  refine ⟨_, s _ _ hD, by rw [List.length_map, hel]; exact size_lt (by omega), es ++ [p], by rw [List.length_append, hel]; rfl, by rw [upd_same]; simp, same_old (sk.trans s) nD, fun t ht => ?_, ?_⟩
  · rcases List.mem_append.mp ht with z | z
    · exact hfe t z
    · rw [List.mem_singleton.mp z]; exact ⟨n5, h5D⟩
  · rw [take_one hi', ei]
    refine (Rws.app (hE.same s) (Rws.one hp)).upd_ fun hm => ?_
    rcases List.mem_append.mp hm with z | z
    · exact (hfe _ z).2 rfl
    · exact h5D (List.mem_singleton.mp z).symm
theorem rwi_end {D : Addr} {ms : List (List Int)} {n : Nat} (h : RwI H1 D ms n H) (e : n = ms.length) : ∃ es : List Addr, H D = some (.lst (es.map V.ref)) ∧ Same H1 H ∧ (∀ t ∈ es, H1 t = none) ∧ Rws H es ms := by
  obtain ⟨es, hel, hD, sk, hfe, hE⟩ := h
  rw [e, List.take_of_length_le (Nat.le_refl _)] at hE
  exact ⟨es, hD, sk, fun t ht => (hfe t ht).1, hE⟩
theorem cm_same {ts : List Addr} {cs : List Cmd} (s : Same H H') (h : Cm H ts cs) : Cm H' ts cs := h.same s
theorem rws_same {as : List Addr} {ls : List (List Int)} (s : Same H H') (h : Rws H as ls) : Rws H' as ls := h.same s
theorem cm_new {ts : List Addr} {cs : List Cmd} (np : H a = none) (h : Cm H ts cs) : Cm (upd H a o) ts cs := h.same (same_new np)
theorem rws_new {as : List Addr} {ls : List (List Int)} (np : H a = none) (h : Rws H as ls) : Rws (upd H a o) as ls := h.same (same_new np)
/-- commands written one by one into a new list -/
def CmI (H1 : Hp) (D : Addr) (ds : List Cmd) (i : Nat) (H : Hp) : Prop := ∃ es : List Addr, es.length = i ∧ H D = some (.lst (es.map V.ref)) ∧ Same H1 H ∧ (∀ t ∈ es, H1 t = none ∧ t ≠ D) ∧ Cm H es (ds.take i)
theorem cmi_nil {D : Addr} {ds : List Cmd} (nD : H1 D = none) : CmI H1 D ds 0 (upd H1 D (.lst [])) := ⟨[], rfl, upd_same, same_new nD, (fun t ht => by cases ht), Cm.nil⟩
theorem cmi_put {D : Addr} {ds : List Cmd} {i : Nat} {c : Cmd} (h : CmI H1 D ds i H) (nD : H1 D = none) (hl : ds[i]? = some c) (hi : i ≤ 100000) (s : Same H H') (n : H p = none) (hp : H' p = some (.tup [.int (c.1 : Nat), .int (c.2 : Nat)])) :
    ∃ acc, H' D = some (.lst acc) ∧ acc.length < sizeLine ∧ CmI H1 D ds (i + 1) (upd H' D (.lst (acc ++ [.ref p]))) := by
  obtain ⟨es, hel, hD, sk, hfe, hE⟩ := h
  have hi' : i < ds.length := (List.getElem?_eq_some_iff.mp hl).1
  have ei : ds[i] = c := (List.getElem?_eq_some_iff.mp hl).2
  have n5 := sk.free n
  have h5D : p ≠ D := (ne_of_none hD n).symm
  refine ⟨_, s _ _ hD, by rw [List.length_map, hel]; exact size_lt (by omega), es ++ [p], by rw [List.length_append, hel]; rfl, by rw [upd_same]; simp, same_old (sk.trans s) nD, fun t ht => ?_, ?_⟩
  · rcases List.mem_append.mp ht with z | z
    · exact hfe t z
    · rw [List.mem_singleton.mp z]; exact ⟨n5, h5D⟩
  · rw [take_one hi', ei]
    exact ((hE.same s).snoc hp).put (s _ _ hD)
theorem cmi_end {D : Addr} {ds : List Cmd} {n : Nat} (h : CmI H1 D ds n H) (e : n = ds.length) : ∃ es : List Addr, H D = some (.lst (es.map V.ref)) ∧ Same H1 H ∧ (∀ t ∈ es, H1 t = none) ∧ Cm H es ds := by
  obtain ⟨es, hel, hD, sk, hfe, hE⟩ := h
  rw [e, List.take_of_length_le (Nat.le_refl _)] at hE
  exact ⟨es, hD, sk, fun t ht => (hfe t ht).1, hE⟩
theorem last_at {as : List Addr} {t : Addr} : atI ((as ++ [t]).map V.ref) (-1) = some (.ref t) := by
  unfold atI ixN
  rw [if_neg (by omega), if_pos (by rw [List.length_map, List.length_append]; simp only [List.length_singleton]; omega)]
  show ((as ++ [t]).map V.ref)[((-1 : Int) + ((as ++ [t]).map V.ref).length).toNat]? = _
  rw [show ((-1 : Int) + (((as ++ [t]).map V.ref).length : Nat)).toNat = as.length by simp; omega]
  simp
theorem last_ix {as : List Addr} {t : Addr} : ixN ((as ++ [t]).map V.ref).length (-1) = some as.length := by
  unfold ixN
  rw [if_neg (by omega), if_pos (by rw [List.length_map, List.length_append]; simp only [List.length_singleton]; omega)]
  exact congrArg some (by simp; omega)
theorem last_set {as : List Addr} {t u : Addr} : ((as ++ [t]).map V.ref).set as.length (.ref u) = (as ++ [u]).map V.ref := by simp
end keep
local macro_rules | `(tactic| fail "kp") => `(tactic| with_reducible first
  | (apply cm_same; assumption; fail "kp")
  | (apply rws_same; assumption; fail "kp")
  | (apply cm_new; assumption; fail "kp")
  | (apply rws_new; assumption; fail "kp"))
/-- it stood not before -/
local macro_rules | `(tactic| fail "kpz") => `(tactic| with_reducible first
  | assumption
  | (apply L2.Same.free; assumption; fail "kpz"))
/-- the pool of draws: [great, seed, turn] -/
def Pol (H : Hp) (r : Addr) (m : Nat) : Prop := ∃ a b c : Int, H r = some (.lst [.int a, .int b, .int c]) ∧ 0 ≤ a ∧ 0 ≤ b ∧ b < 2 ^ 62 ∧ 0 ≤ c ∧ c ≤ m
section keepC
variable {K : PySem.W.Frag} {H H' H0 : Hp} {r p b a : Addr} {m : Nat} {o : HO}
theorem Pol.same (h : Pol H r m) (s : Same H H') : Pol H' r m := by
  obtain ⟨a, b, c, h1, h2⟩ := h
  exact ⟨a, b, c, s _ _ h1, h2⟩
theorem Pol.le {n : Nat} (h : Pol H r m) (e : m ≤ n) : Pol H r n := by
  obtain ⟨a, b, c, h1, h2, h3, h4, h5, h6⟩ := h
  exact ⟨a, b, c, h1, h2, h3, h4, h5, by omega⟩
theorem Pol.ne (h : Pol H r m) (n : H p = none) : p ≠ r := by
  obtain ⟨a, b, c, h1, h2⟩ := h
  exact (ne_of_none h1 n).symm
theorem Pol.free (h : Pol H' r m) (s : Sx r H H') (n : H' p = none) : H p = none := by
  obtain ⟨a, b, c, h1, h2⟩ := h
  exact s.free h1 n
theorem Pol.other (h : Pol H r m) (n : p ≠ r) : Pol (upd H p o) r m := by
  obtain ⟨a, b, c, h1, h2⟩ := h
  exact ⟨a, b, c, upd_to n.symm h1, h2⟩
theorem pol_n (n : H p = none) (h : Pol H r m) : p ≠ r := h.ne n
theorem pol_same (s : Same H H') (h : Pol H r m) : Pol H' r m := h.same s
theorem pol_new (np : H p = none) (h : Pol H r m) : Pol (upd H p o) r m := h.same (same_new np)
theorem pol_free (s : Sx r H H') (n : H' p = none) (h : Pol H' r m) : H p = none := h.free s n
theorem cm_sx {ts : List Addr} {cs : List Cmd} (s : Sx r H H') (hR : Pol H r m) (h : Cm H ts cs) : Cm H' ts cs := by
  obtain ⟨a, b, c, hr, _⟩ := hR
  exact ⟨h.len, fun i t e => let ⟨c, e1, e2⟩ := h.at_ i t e; ⟨c, e1, s _ _ (ne_of e2 hr (by intro z; cases z)) e2⟩⟩
theorem rws_sx {as : List Addr} {ls : List (List Int)} (s : Sx r H H') (n : ∀ t ∈ as, t ≠ r) (h : Rws H as ls) : Rws H' as ls :=
  ⟨h.len, fun i t e => let ⟨l, e1, e2⟩ := h.at_ i t e; ⟨l, e1, s _ _ (n t (List.mem_of_getElem? e)) e2⟩⟩
theorem sx_same (t : Same H H') (s : Sx r H0 H) : Sx r H0 H' := s.same t
theorem sx_trans (t : Sx r H H') (s : Sx r H0 H) : Sx r H0 H' := s.trans t
theorem sx_new (np : H p = none) (s : Sx r H0 H) : Sx r H0 (upd H p o) := s.same (same_new np)
end keepC
local macro_rules | `(tactic| fail "kp") => `(tactic| with_reducible first
  | (apply cm_sx; assumption; fail "kp"; fail "kp")
  | (apply rws_sx; assumption; assumption; fail "kp")
  | (apply pol_same; assumption; fail "kp")
  | exact Sx.refl
  | (apply pol_new; assumption; fail "kp")
  | (apply sx_new; assumption; fail "kp")
  | (apply sx_same; assumption; fail "kp")
  | (apply sx_trans; assumption; fail "kp"))
local macro_rules | `(tactic| fail "kpn") => `(tactic| (with_reducible apply pol_n; assumption; fail "kp"))
local macro_rules | `(tactic| fail "kpz") => `(tactic| (with_reducible apply pol_free; assumption; fail "kpz"; fail "kp"))
open My
theorem rep_one (cs : List Cmd) : rep 1 cs = cs := by unfold rep; simp
theorem run_rep_succ (l : List Int) (k : Nat) (cs : List Cmd) : runM l (rep (k + 1) cs) = runM (runM l (rep k cs)) cs := by rw [rep_add, runM_app, rep_one]
theorem run_rep_fix {l : List Int} {cs : List Cmd} (h : runM l cs = l) : ∀ k, runM l (rep k cs) = l
  | 0 => rfl
  | k + 1 => by rw [run_rep_succ, run_rep_fix h k, h]
theorem rep_fits_len {n : Nat} {cs : List Cmd} (h : Fits n cs) (k : Nat) : (runM (desc n) (rep k cs)).length = n := by
  rw [runM_len (by rw [desc_len]; exact fits_rep h k), desc_len]
local macro_rules | `(tactic| fail "one") => `(tactic| with_reducible first | refine Xk.r_iRev ?_)
def witV (l : List Int) : V := match witM l with
  | none => .non
  | some x => .int x
theorem mulM_le : ∀ (ks : List Nat) {m : Nat}, ks.sum ≤ m → mulM ks m ≤ 2 ^ (m * ks.length)
  | [], m, _ => Nat.one_le_two_pow
  | k :: ks, m, h => by
    rw [List.sum_cons] at h
    have h1 := cmb_le m k
    have h2 := mulM_le ks (m := m - k) (by omega)
    have h3 : 2 ^ ((m - k) * ks.length) ≤ 2 ^ (m * ks.length) := Nat.pow_le_pow_right (by decide) (Nat.mul_le_mul_right _ (by omega))
    show cmb m k * mulM ks (m - k) ≤ _
    rw [List.length_cons, Nat.mul_succ, Nat.pow_add, Nat.mul_comm]
    exact Nat.mul_le_mul (Nat.le_trans h2 h3) h1
theorem r_nT {A B : Prop} (h : A) : if (if true then !false else false) = true then A else B := by simpa using h
theorem r_nF {A B : Prop} (h : B) : if (if true then !true else true) = true then A else B := by simpa using h
theorem fac_le : ∀ {m : Nat}, m ≤ 128 → fac m ≤ 2 ^ (7 * m)
  | 0, _ => Nat.le_refl _
  | m + 1, h => by
    have ih := fac_le (m := m) (by omega)
    show (m + 1) * fac m ≤ _
    rw [Nat.mul_succ, Nat.pow_add, Nat.mul_comm]
    exact Nat.mul_le_mul ih (show m + 1 ≤ 2 ^ 7 by show m + 1 ≤ 128; omega)
theorem mulM_fac : ∀ (ks : List Nat) {m : Nat}, ks.sum ≤ m → mulM ks m ≤ fac m
  | [], m, _ => fac_pos m
  | k :: ks, m, h => by
    rw [List.sum_cons] at h
    have ih := mulM_fac ks (m := m - k) (by omega)
    have e := cmb_fac (m - k) k
    rw [show m - k + k = m by omega] at e
    show cmb m k * mulM ks (m - k) ≤ _
    rw [← e]
    refine Nat.mul_le_mul_left _ (Nat.le_trans ih ?_)
    have := Nat.mul_le_mul_right (fac (m - k)) (fac_pos k)
    rw [Nat.succ_mul, Nat.zero_mul, Nat.zero_add] at this
    exact this
theorem mulM_700 {ks : List Nat} {m : Nat} (h : ks.sum ≤ m) (hm : m ≤ 100) : mulM ks m ≤ 2 ^ 700 :=
  Nat.le_trans (mulM_fac ks h) (Nat.le_trans (fac_le (by omega)) (Nat.pow_le_pow_right (by decide) (by omega)))
theorem nat_bound {a b : Nat} (h : a ≤ 2 ^ b) : ((a : Nat) : Int).natAbs < 2 ^ (b + 1) := by
  show a < 2 ^ (b + 1)
  rw [Nat.pow_succ]; have := Nat.one_le_two_pow (n := b); omega
theorem rep_mem {c : Cmd} {cs : List Cmd} {k : Nat} (h : c ∈ rep k cs) : c ∈ cs := by
  unfold rep at h
  obtain ⟨L, hL, hc⟩ := List.mem_flatten.mp h
  rw [(List.mem_replicate.mp hL).2] at hc; exact hc
theorem stab_blk {n k : Nat} {cs : List Cmd} (hf : Fits n cs) (hn : 1 ≤ n) (h : runM (runM (desc n) (rep k cs)) cs = runM (desc n) (rep k cs)) : runM (desc n) (rep k cs) = runM (desc n) (blkM n cs) := by
  have hd := desc_len n
  have hb := (blkM_ok hf hn).1
  have hfb : Fits n (blkM n cs) := tile_fits hb (Nat.le_refl _) (Nat.le_refl _)
  have l1 : (runM (desc n) (rep k cs)).length = n := rep_fits_len hf k
  have l2 : (runM (desc n) (blkM n cs)).length = n := by rw [runM_len (by rw [hd]; exact hfb), hd]
  have off1 : ∀ t p, lnk cs p = false → zc (runM (desc n) (rep k cs)) t p = zc (desc n) t p := fun t p hp =>
    zc_off t _ _ (by rw [hd]; exact fits_rep hf k) fun c hc => lnk_off hp c (rep_mem hc)
  refine zc_ext (l1.trans l2.symm) fun t p hp => ?_
  rw [l1] at hp
  cases hl : lnk cs p with
  | false => rw [off1 t p hl, zc_off t _ _ (by rw [hd]; exact hfb) (blk_off hf hn hl)]
  | true =>
    obtain ⟨c0, hc0, g1, g2⟩ := lnk_iff.mp hl
    have hc0' := hf c0 hc0
    obtain ⟨c, hc, e1, e2⟩ := tile_mem hb (show 1 ≤ p by omega) (by omega)
    have hcc := hfb c hc
    have hbc := (blkM_ok hf hn).2 c hc
    have e3 : p < c.2 := by
      rcases Nat.lt_or_ge p c.2 with g | g
      · exact g
      · rw [show p = c.2 by omega, hbc.1] at hl; cases hl
    have hlow : lnk cs (c.1 - 1) = false := by
      cases q : lnk cs (c.1 - 1) with
      | false => rfl
      | true =>
        obtain ⟨c1, hc1, k1, k2⟩ := lnk_iff.mp q
        have hc1' := hf c1 hc1
        obtain ⟨b, hb', m1, m2⟩ := tile_mem hb (show 1 ≤ c.1 - 1 by omega) (by omega)
        have hbb := (blkM_ok hf hn).2 b hb'
        rcases Nat.lt_or_ge (c.1 - 1) b.2 with m3 | m3
        · exfalso
          -- two blocks that overlap
          have : ∀ {bs : List Cmd} {s e : Nat}, Tile s bs e → ∀ x ∈ bs, ∀ y ∈ bs, x.1 ≤ y.1 - 1 → 1 ≤ y.1 → y.1 ≤ y.2 → x.2 ≤ y.1 - 1 := by
            intro bs
            induction bs with
            | nil => intro s e _ x hx; cases hx
            | cons d r ih =>
              intro s e ht x hx y hy a1 a2 a3
              have hle := tile_le ht.2.2
              rcases List.mem_cons.mp hx with u | u
              · rcases List.mem_cons.mp hy with v | v
                · rw [u, v] at a1; rw [v] at a2; omega
                · have := hle.2 y v; rw [u]; omega
              · rcases List.mem_cons.mp hy with v | v
                · have := hle.2 x u; rw [v] at a1; have := ht.1; have := ht.2.1; omega
                · exact ih ht.2.2 x u y v a1 a2 a3
          have := this hb b hb' c hc m1 hcc.1 hcc.2.1
          omega
        · rw [show c.1 - 1 = b.2 by omega, hbb.1] at q; cases q
    rw [tile_zc t hb (Nat.le_refl _) (by rw [hd]; exact Nat.le_refl _) c hc p e1 e3]
    have hfix : step (runM (desc n) (rep k cs)) c = runM (desc n) (rep k cs) :=
      (step_fix hcc.1 hcc.2.1 (by rw [l1]; exact hcc.2.2)).mpr fun q q1 q2 => (fix_rise hf hn l1).mp h c hc q q1 q2
    have : zc (runM (desc n) (rep k cs)) t p = zc (seg (runM (desc n) (rep k cs)) c.1 c.2) t p := by
      show _ = zc (step (runM (desc n) (rep k cs)) c) t p
      rw [hfix]
    rw [this, zc_seg hcc.1 hcc.2.1 (by rw [l1]; exact hcc.2.2), if_neg (by omega), off1 t _ hlow, off1 t _ hbc.1]
theorem upd_int {x m : Nat} (hm : 1 ≤ m) : ((x : Int) + (m : Int) - 1) / (m : Int) = ((upD x m : Nat) : Int) := by
  rw [show (x : Int) + (m : Int) - 1 = ((x + m - 1 : Nat) : Int) by omega]; rfl
theorem r_divU {H : Hp} {x m : Nat} {Q : VK} (hm : 1 ≤ m) (hb : m < 2 ^ 40) (q : Q (.int ((upD x m : Nat) : Int)) H) : rI CDivW (fun i j => V.int (i / j)) (V.int ((x : Int) + (m : Int) - 1)) (V.int (m : Int)) H Q :=
  ⟨_, _, rfl, rfl, wide_div (b := 40) (by omega) (by omega) (by decide) (by decide), by rw [← upd_int hm] at q; exact q⟩
theorem r_mul2 {H : Hp} {k : Nat} {Q : VK} (hb : k < 2 ^ 40) (q : Q (.int (2 * (k : Int))) H) : rI CMulW (fun i j => V.int (i * j)) (V.int 2) (V.int (k : Int)) H Q :=
  ⟨_, _, rfl, rfl, wide_mul (a := 2) (b := 40) (by decide) (by omega) (by decide) (by decide) (by decide), q⟩
theorem erase_mapI {α β : Type} (f : α → β) (l : List α) (k : Nat) : (l.map f).eraseIdx k = (l.eraseIdx k).map f := by
  refine List.ext_getElem? fun i => ?_
  simp only [List.getElem?_eraseIdx, List.getElem?_map]
  split <;> rfl
theorem erase_permI {α : Type} : ∀ (l : List α) (k : Nat) (h : k < l.length), (l[k] :: l.eraseIdx k).Perm l
  | a :: r, 0, _ => List.Perm.refl _
  | a :: r, k + 1, h => by
    have := erase_permI r k (by simpa using h)
    exact (List.Perm.swap _ _ _).trans (this.cons a)
/-- at ts stand the pairs ws, as tuples -/
structure Cw (H : Hp) (ts : List Addr) (ws : List Pr) : Prop where
  len : ts.length = ws.length
  at_ : ∀ (i : Nat) (t : Addr), ts[i]? = some t → ∃ c, ws[i]? = some c ∧ H t = some (.tup [.int c.1, .int c.2])
theorem Cw.same {H H' : Hp} {ts : List Addr} {ws : List Pr} (h : Cw H ts ws) (s : Same H H') : Cw H' ts ws :=
  ⟨h.len, fun i t e => let ⟨c, e1, e2⟩ := h.at_ i t e; ⟨c, e1, s _ _ e2⟩⟩
theorem Cw.idx {H : Hp} {ts : List Addr} {ws : List Pr} (h : Cw H ts ws) {i : Nat} (hi : i < ws.length) : ∃ t, ts[i]? = some t ∧ H t = some (.tup [.int ws[i].1, .int ws[i].2]) := by
  have hi' : i < ts.length := by rw [h.len]; exact hi
  obtain ⟨c, e1, e2⟩ := h.at_ i _ (List.getElem?_eq_getElem hi')
  rw [List.getElem?_eq_getElem hi] at e1
  cases e1
  exact ⟨_, List.getElem?_eq_getElem hi', e2⟩
theorem Cm.toCw {H : Hp} {ts : List Addr} {cs : List Cmd} (h : Cm H ts cs) : Cw H ts (cs.map toW) :=
  ⟨by rw [List.length_map]; exact h.len, fun i t e => let ⟨c, e1, e2⟩ := h.at_ i t e; ⟨toW c, by rw [List.getElem?_map, e1]; rfl, e2⟩⟩
theorem Cw.toCm {H : Hp} {ts : List Addr} {cs : List Cmd} (h : Cw H ts (cs.map toW)) : Cm H ts cs :=
  ⟨by have := h.len; rwa [List.length_map] at this, fun i t e => by
    obtain ⟨c, e1, e2⟩ := h.at_ i t e
    rw [List.getElem?_map] at e1
    cases g : cs[i]? with
    | none => rw [g] at e1; cases e1
    | some d => rw [g] at e1; cases e1; exact ⟨d, rfl, e2⟩⟩
/-- an exception of the class at c, its value y -/
def Err (H : Hp) (E : XK) (c : Addr) (y : V) : Prop := ∀ (H' : Hp) (d : Addr), Same H H' → H' d = none → E (.ref c) (some d) (upd H' d (.xd [(("value" : Str), y)]))
theorem Err.up {H H1 : Hp} {E : XK} {c : Addr} {y : V} (h : Err H E c y) (s : Same H H1) : Err H1 E c y := fun H' d s' hd => h H' d (s.trans s') hd
/-- what a script is wrong with, for a size -/
def BadRun (T : Txt K mg) (n : Int) (ws : List Pr) (c : Addr) (y : V) : Prop := (n < 1 ∧ c = T.InvalidSize_a ∧ y = .int n) ∨ (1 ≤ n ∧ ∃ i : Nat, eW n ws = some i ∧ c = T.InvalidCommand_a ∧ y = .int i)
/-- what a row and a script are wrong with -/
def BadGB (T : Txt K mg) (ns : List Int) (ws : List Pr) (c : Addr) (y : V) : Prop := (∃ i : Nat, eR ns = some i ∧ c = T.InvalidRow_a ∧ y = .int i) ∨ (eR ns = none ∧ ∃ i : Nat, eW ns.length ws = some i ∧ c = T.InvalidCommand_a ∧ y = .int i)
/-- what two rows are wrong with, for result(row, wanted) -/
def BadRes (T : Txt K mg) (ns E : List Int) (c : Addr) (y : V) : Prop := (∃ i : Nat, eR E = some i ∧ c = T.InvalidRow_a ∧ y = .int i) ∨ (eR E = none ∧ ns.length ≠ E.length ∧ c = T.UnequalSizes_a ∧ y = .non)
def BadJoin (T : Txt K mg) (ns E : List Int) (c : Addr) (y : V) : Prop := (∃ i : Nat, eR ns = some i ∧ c = T.InvalidRow_a ∧ y = .int i) ∨ (eR ns = none ∧ BadRes T ns E c y)
def BadPow (T : Txt K mg) (E : List Int) (k : Int) (c : Addr) (y : V) : Prop := (∃ i : Nat, eR E = some i ∧ c = T.InvalidRow_a ∧ y = .int i) ∨ (eR E = none ∧ k < 0 ∧ c = T.InvalidNumber_a ∧ y = .int k)
theorem dpAll_of {K : PySem.W.Frag} {H : Hp} : ∀ {vs : List V} {ds : List PyData}, vs.length = ds.length → (∀ (j : Nat) (v : V) (d : PyData), vs[j]? = some v → ds[j]? = some d → Dp K H v d) → DpAll K H vs ds
  | [], [], _, _ => .nil
  | [], _ :: _, h, _ => nomatch h
  | _ :: _, [], h, _ => nomatch h
  | v :: vs, d :: ds, h, g => .cons (g 0 v d rfl rfl) (dpAll_of (by simpa using h) fun j u e h1 h2 => g (j + 1) u e h1 h2)
/-! the data of wild pairs -/
def dP (c : Pr) : PyData := .tuple [.int c.1, .int c.2]
theorem dp_cw {K : PySem.W.Frag} {H : Hp} {a : Addr} {ts : List Addr} {ws : List Pr} (h : SqL K H a (ts.map V.ref)) (hc : Cw H ts ws) : Dp K H (.ref a) (.list (ws.map dP)) :=
  .lst h (dpAll_of (by rw [List.length_map, List.length_map, hc.len]) fun j v d e1 e2 => by
    rw [List.getElem?_map] at e1 e2
    cases g : ts[j]? with
    | none => rw [g] at e1; cases e1
    | some t =>
      rw [g] at e1; cases e1
      obtain ⟨c, e3, e4⟩ := hc.at_ j t g
      rw [e3] at e2; cases e2
      exact .tup (sqT e4) (.cons (.int _) (.cons (.int _) .nil)))
theorem depth_cw : ∀ ws : List Pr, PyData.depthAll (ws.map dP) ≤ 1
  | [] => by decide
  | c :: r => by
    have := depth_cw r
    show max 1 (PyData.depthAll (r.map dP)) ≤ 1
    omega
/-- numbers that are not too long -/
def Nt (i : Int) : Prop := i.natAbs ≤ 10 ^ 30
theorem sh_nt {i : Int} (h : Nt i) : Sh 32 (.int i) := Sh.int (k := 31) (by decide) (Nat.lt_of_le_of_lt h (by decide)) (by decide)
theorem sh_cw {ws : List Pr} (h : ∀ c ∈ ws, Nt c.1 ∧ Nt c.2) : Sh (ws.length * 73 + 2) (.list (ws.map dP)) := by
  have := Sh.list (b := 71) (ds := ws.map dP) fun d hd => by
    obtain ⟨c, hc, rfl⟩ := List.mem_map.mp hd
    refine (Sh.tuple (b := 32) fun e he => ?_).mono (by show 2 * (32 + 2) + 3 ≤ 71; decide)
    rcases List.mem_cons.mp he with e1 | e1
    · rw [e1]; exact sh_nt (h c hc).1
    · rw [List.mem_singleton.mp e1]; exact sh_nt (h c hc).2
  rwa [List.length_map] at this
theorem sh_nts {ns : List Int} (h : ∀ x ∈ ns, Nt x) : Sh (ns.length * 34 + 2) (dI ns) := Sh.ints (k := 31) (by decide) (by decide) fun x hx => Nat.lt_of_le_of_lt (h x hx) (by decide)
theorem Cw.put {H : Hp} {ts : List Addr} {ws : List Pr} {p : Addr} {xs : List V} {o : HO} (h : Cw H ts ws) (hp : H p = some (.lst xs)) : Cw (upd H p o) ts ws :=
  ⟨h.len, fun i t e => let ⟨c, e1, e2⟩ := h.at_ i t e; ⟨c, e1, upd_to (ne_of e2 hp (by intro z; cases z)) e2⟩⟩
theorem Cw.one {H : Hp} {t : Addr} {c : Pr} (h : H t = some (.tup [.int c.1, .int c.2])) : Cw H [t] [c] := ⟨rfl, fun i u e => by
  cases i with
  | zero => cases e; exact ⟨c, rfl, h⟩
  | succ i => simp at e⟩
theorem Cw.app {H : Hp} {ts us : List Addr} {ws vs : List Pr} (h : Cw H ts ws) (g : Cw H us vs) : Cw H (ts ++ us) (ws ++ vs) := by
  refine ⟨by rw [List.length_append, List.length_append, h.len, g.len], fun i t e => ?_⟩
  by_cases q : i < ts.length
  · rw [List.getElem?_append_left q] at e
    obtain ⟨c, e1, e2⟩ := h.at_ i t e
    exact ⟨c, by rw [List.getElem?_append_left (h.len ▸ q)]; exact e1, e2⟩
  · rw [List.getElem?_append_right (by omega)] at e
    obtain ⟨c, e1, e2⟩ := g.at_ _ t e
    exact ⟨c, by rw [List.getElem?_append_right (by rw [← h.len]; omega), ← h.len]; exact e1, e2⟩
theorem Cw.take {H : Hp} {ts : List Addr} {ws : List Pr} (h : Cw H ts ws) (k : Nat) : Cw H (ts.take k) (ws.take k) := by
  refine ⟨by rw [List.length_take, List.length_take, h.len], fun i t e => ?_⟩
  rw [List.getElem?_take] at e
  split at e
  · rename_i hk
    obtain ⟨c, e1, e2⟩ := h.at_ i t e
    exact ⟨c, by rw [List.getElem?_take, if_pos hk]; exact e1, e2⟩
  · cases e
theorem Cw.drop {H : Hp} {ts : List Addr} {ws : List Pr} (h : Cw H ts ws) (k : Nat) : Cw H (ts.drop k) (ws.drop k) := by
  refine ⟨by rw [List.length_drop, List.length_drop, h.len], fun i t e => ?_⟩
  rw [List.getElem?_drop] at e
  obtain ⟨c, e1, e2⟩ := h.at_ _ t e
  exact ⟨c, by rw [List.getElem?_drop]; exact e1, e2⟩
theorem Cw.ins {H : Hp} {ts : List Addr} {ws : List Pr} (h : Cw H ts ws) {t : Addr} {c : Pr} (ht : H t = some (.tup [.int c.1, .int c.2])) (k : Nat) : Cw H (ts.take k ++ [t] ++ ts.drop k) (ws.take k ++ [c] ++ ws.drop k) :=
  ((h.take k).app (.one ht)).app (h.drop k)
theorem Cw.keep {H H' : Hp} {ts : List Addr} {ws : List Pr} {r : Addr} {xs : List V} (h : Cw H ts ws) (hr : H r = some (.lst xs)) (s : Sx r H H') : Cw H' ts ws :=
  ⟨h.len, fun i t e => let ⟨c, e1, e2⟩ := h.at_ i t e; ⟨c, e1, s _ _ (ne_of e2 hr (by intro z; cases z)) e2⟩⟩
structure Kd7 (K : PySem.W.Frag) (T : Txt K mg) (D : Addr) (j : Nat) : Prop where
  k0 : PySem.W.kitOne K (.ref D) (.ref T.InvalidSize_a) = some (decide (j = 0))
  k1 : PySem.W.kitOne K (.ref D) (.ref T.InvalidCommand_a) = some (decide (j = 1))
  k2 : PySem.W.kitOne K (.ref D) (.ref T.InvalidRow_a) = some (decide (j = 2))
  k3 : PySem.W.kitOne K (.ref D) (.ref T.InvalidNumber_a) = some (decide (j = 3))
  k4 : PySem.W.kitOne K (.ref D) (.ref T.UnequalSizes_a) = some (decide (j = 4))
  k5 : PySem.W.kitOne K (.ref D) (.ref T.NothingToUndo_a) = some (decide (j = 5))
  k6 : PySem.W.kitOne K (.ref D) (.ref T.Unreadable_a) = some (decide (j = 6))
  s : PySem.W.kitOne K (.ref D) (.ref T.SortError_a) = some true
  v : PySem.W.kitOne K (.ref D) (.type "ValueError") = some true
  x : ExcC K D
  xf : XfC K D
  no : PySem.W.findIn K (.ref D) "value" = some none
  lt : j < 7
def wordsC : List Str := ["size", "command", "row", "number", "sizes", "undo", "read"]
def flg7 (j : Nat) : List Bool := [decide (j = 0), decide (j = 1), decide (j = 2), decide (j = 3), decide (j = 4), decide (j = 5), decide (j = 6)]
theorem flg7_one : ∀ j, j < 7 → ((flg7 j).map V.bl).countP (fun z => eqV z (.bl true)) = 1
  | 0, _ => by decide
  | 1, _ => by decide
  | 2, _ => by decide
  | 3, _ => by decide
  | 4, _ => by decide
  | 5, _ => by decide
  | 6, _ => by decide
  | _ + 7, h => by omega
theorem flg7_at : ∀ j, j < 7 → ((flg7 j).map V.bl)[j]? = some (.bl true)
  | 0, _ => rfl
  | 1, _ => rfl
  | 2, _ => rfl
  | 3, _ => rfl
  | 4, _ => rfl
  | 5, _ => rfl
  | 6, _ => rfl
  | _ + 7, h => by omega
theorem flg7_no {j : Nat} (hj : j < 7) : ∀ (m : Nat) (z : V), m < j → ((flg7 j).map V.bl)[m]? = some z → eqV z (.bl true) = false := fun m z hm hz => by
  have h1 : (flg7 j)[m]? = some (decide (j = m)) := by
    have : m < 7 := by omega
    unfold flg7
    match m, this with
    | 0, _ => rfl
    | 1, _ => rfl
    | 2, _ => rfl
    | 3, _ => rfl
    | 4, _ => rfl
    | 5, _ => rfl
    | 6, _ => rfl
  rw [List.getElem?_map, h1] at hz
  cases hz
  rw [decide_eq_false (by omega)]
  rfl
theorem kd7_row {K : PySem.W.Frag} (T : Txt K mg) : Kd7 K T T.InvalidRow_a 2 :=
  ⟨T.InvalidRow_is_InvalidSize, T.InvalidRow_is_InvalidCommand, T.InvalidRow_is_InvalidRow, T.InvalidRow_is_InvalidNumber, T.InvalidRow_is_UnequalSizes, T.InvalidRow_is_NothingToUndo, T.InvalidRow_is_Unreadable, T.InvalidRow_is_SortError, T.InvalidRow_is_ValueError, T.InvalidRow_X, T.InvalidRow_E.xf, T.InvalidRow_E.no, by decide⟩
theorem kd7_number {K : PySem.W.Frag} (T : Txt K mg) : Kd7 K T T.InvalidNumber_a 3 :=
  ⟨T.InvalidNumber_is_InvalidSize, T.InvalidNumber_is_InvalidCommand, T.InvalidNumber_is_InvalidRow, T.InvalidNumber_is_InvalidNumber, T.InvalidNumber_is_UnequalSizes, T.InvalidNumber_is_NothingToUndo, T.InvalidNumber_is_Unreadable, T.InvalidNumber_is_SortError, T.InvalidNumber_is_ValueError, T.InvalidNumber_X, T.InvalidNumber_E.xf, T.InvalidNumber_E.no, by decide⟩
abbrev NtC (c : Pr) : Prop := Nt c.1 ∧ Nt c.2
theorem ntC_toW {n : Nat} {cs : List Cmd} (h : Fits n cs) (hn : n ≤ 1000) : ∀ c ∈ cs.map toW, NtC c := fun c hc => by
  obtain ⟨d, hd, rfl⟩ := List.mem_map.mp hc
  have := h d hd
  unfold NtC Nt toW
  refine ⟨?_, ?_⟩ <;> simp only [Int.natAbs_natCast] <;> omega
/-- what is wrong with a size and a script -/
def dR (n : Int) (ws : List Pr) : Option (Str × Int) := if n < 1 then some ("size", n) else match eW n ws with
  | some i => some ("command", (i : Int))
  | none => none
/-- as a list: the word and the value -/
def lsT (o : Option (Str × Int)) : List V := match o with
  | none => [.str "none", .non]
  | some (nm, i) => [.str nm, .int i]
/-- a list of lists begins with what o says -/
def HdO (H : Hp) (l : List Addr) (o : Option (Str × Int)) : Prop := match o with
  | none => l = []
  | some (nm, i) => ∃ q rest, l = q :: rest ∧ H q = some (.lst [.str nm, .int i])
def orO (o p : Option (Str × Int)) : Option (Str × Int) := match o with
  | some x => some x
  | none => p
theorem HdO.same {H H' : Hp} {l : List Addr} {o : Option (Str × Int)} (h : HdO H l o) (s : Same H H') : HdO H' l o := by
  rcases o with _ | ⟨nm, i⟩
  · exact h
  · obtain ⟨q, rest, e, g⟩ := h; exact ⟨q, rest, e, s _ _ g⟩
theorem HdO.app {H : Hp} {l k : List Addr} {o p : Option (Str × Int)} (h : HdO H l o) (g : HdO H k p) : HdO H (l ++ k) (orO o p) := by
  rcases o with _ | ⟨nm, i⟩
  · obtain rfl : l = [] := h
    exact g
  · obtain ⟨q, rest, rfl, e⟩ := h; exact ⟨q, rest ++ k, rfl, e⟩
theorem HdO.first {H : Hp} {l : List Addr} {o : Option (Str × Int)} {nq : Addr} (h : HdO H l o) (g : H nq = some (.lst [.str "none", .non])) : ∃ x, atI (l.map V.ref ++ [V.ref nq]) 0 = some (.ref x) ∧ H x = some (.lst (lsT o)) := by
  rcases o with _ | ⟨nm, i⟩
  · obtain rfl : l = [] := h
    exact ⟨nq, rfl, g⟩
  · obtain ⟨q, rest, rfl, e⟩ := h
    exact ⟨q, at_of (j := 0) rfl rfl, e⟩
/-- the data of what is told -/
def dLs (o : Option (Str × Int)) : PyData := match o with
  | none => .list [.str "none", .none]
  | some (nm, i) => .list [.str nm, .int i]
theorem dLs_dp {K : PySem.W.Frag} {H : Hp} {p : Addr} {o : Option (Str × Int)} (h : H p = some (.lst (lsT o))) : Dp K H (.ref p) (dLs o) := by
  rcases o with _ | ⟨nm, i⟩
  · exact .lst (sq h) (.cons (.str _) (.cons .non .nil))
  · exact .lst (sq h) (.cons (.str _) (.cons (.int _) .nil))
def OkO (o : Option (Str × Int)) : Prop := ∀ nm i, o = some (nm, i) → PySem.PyData.strOk nm = true
theorem dR_ok {n : Int} {ws : List Pr} : OkO (dR n ws) := fun nm i e => by
  unfold dR at e
  split at e
  · cases e; decide +kernel
  · split at e
    · cases e; decide +kernel
    · cases e
theorem dLs_lay {o : Option (Str × Int)} (h : OkO o) : (dLs o).canLay0 = true ∧ (dLs o).depth ≤ 1 := by
  rcases o with _ | ⟨nm, i⟩
  · exact ⟨by show (PySem.PyData.strOk "none" && (true && true)) = true; decide +kernel, by show max 0 (max 0 0) + 1 ≤ 1; decide⟩
  · exact ⟨by show (PySem.PyData.strOk nm && (true && true)) = true; rw [h nm i rfl]; rfl, by show max 0 (max 0 0) + 1 ≤ 1; decide⟩
theorem lay_all : ∀ {ds : List PyData}, (∀ d ∈ ds, d.canLay0 = true ∧ d.depth ≤ 1) → PyData.canLayAll0 ds = true ∧ PyData.depthAll ds ≤ 1
  | [], _ => ⟨rfl, by decide⟩
  | d :: r, h => by
    have h1 := h d List.mem_cons_self
    have h2 := lay_all (ds := r) fun x hx => h x (List.mem_cons_of_mem _ hx)
    refine ⟨?_, ?_⟩
    · show (d.canLay0 && PyData.canLayAll0 r) = true
      rw [h1.1, h2.1]; rfl
    · show max d.depth (PyData.depthAll r) ≤ 1
      omega
theorem shaped_all {ds : List PyData} (h : ∀ d ∈ ds, d.canLay0 = true ∧ d.depth ≤ 1) : SeqAt.shaped (.list ds) = true := by
  have := lay_all h
  unfold SeqAt.shaped
  rw [Bool.and_eq_true]
  refine ⟨this.1, ?_⟩
  show decide (PyData.depthAll ds + 1 ≤ 64) = true
  rw [decide_eq_true_eq]; omega
theorem shaped_one {o : Option (Str × Int)} (h : OkO o) : SeqAt.shaped (dLs o) = true := by
  have := dLs_lay h
  unfold SeqAt.shaped
  rw [Bool.and_eq_true, decide_eq_true_eq]
  exact ⟨this.1, by omega⟩
def dC' (n : Nat) (ws : List Pr) : Option (Str × Int) := match eW n ws with
  | some i => some ("command", (i : Int))
  | none => none
theorem dC'_fit {n : Nat} {cs : List Cmd} (h : Fits n cs) : dC' n (cs.map toW) = none := by unfold dC'; rw [toW_fit h]
theorem Pol.is {H : Hp} {r : Addr} {m : Nat} (h : Pol H r m) : ∃ xs, H r = some (.lst xs) := by
  obtain ⟨_, _, _, e, _⟩ := h; exact ⟨_, e⟩
theorem rg_upTo (n : Nat) : rgV 1 ((n : Int) + 1) = (ascN n).map V.int := by
  unfold rgV ascN
  rw [List.map_map, show ((n : Int) + 1 - 1).toNat = n by omega]
  rfl
def fromW (c : Pr) : Cmd := (c.1.toNat, c.2.toNat)
theorem from_to (cs : List Cmd) : (cs.map toW).map fromW = cs := by
  rw [List.map_map]
  induction cs with
  | nil => rfl
  | cons c r ih => rw [List.map_cons, ih]; rfl
def dNum (n : Int) (ws : List Pr) (k : Int) : Option (Str × Int) := if k < 0 ∨ ((mulM (lenM n.toNat (ws.map fromW)) n.toNat : Nat) : Int) ≤ k then some ("number", k) else none
def dGB (ws : List Pr) (ns : List Int) : Option (Str × Int) := match eR ns with
  | some i => some ("row", (i : Int))
  | none => match eW ns.length ws with
    | some i => some ("command", (i : Int))
    | none => none
def dTl (door : Nat) (n : Int) (ws : List Pr) (k : Int) (ns : List Int) : Option (Str × Int) := if door < 3 then dR n ws else if door = 3 then orO (dR n ws) (dNum n ws k) else dGB ws ns
theorem at_neg1 {xs : List V} {v : V} (h : 1 ≤ xs.length) (e : xs[xs.length - 1]? = some v) : atI xs (-1) = some v := by
  unfold atI ixN
  rw [if_neg (by omega), if_pos (by omega)]
  show xs[((-1 : Int) + xs.length).toNat]? = some v
  rw [show ((-1 : Int) + xs.length).toNat = xs.length - 1 by omega]
  exact e
theorem r_big {H : Hp} {Q : VK} (q : ∀ z : Int, Q (.int z) H) : rI CMulW (fun i j => V.int (i * j)) (V.int 9) (V.int (10 ^ Int.toNat 29)) H Q :=
  ⟨_, _, rfl, rfl, wide_mul (a := 8) (b := 120) (by decide) (by decide) (by decide) (by decide) (by decide), q _⟩
def optV (o : Option Nat) : V := match o with
  | some i => .int (i : Int)
  | none => .non
def dTu (x m y : Int) : Option (Str × Int) := if x < 0 then some ("number", x) else if m < 1 then some ("number", m) else if y < 0 then some ("number", y) else none
theorem ini_InvalidCommand (T : Txt K mg) : FnOk P w K mg base L2.CX0 1 T.InvalidCommand_i_a T.InvalidCommand_i_d ["self", "value"] (spIni K T.InvalidCommand_a) := by
  refine T.InvalidCommand_i_F.ok sc_InvalidCommand_i (fun vs H Q E h => ?_) (fun cdv A ou t H vs Q E hr h => ⟨_, pss_one (ps_ost (pv 0) (pv 1)), ini_read h⟩)
  obtain ⟨_, _, rfl, _⟩ := h; rfl
theorem ini_InvalidNumber (T : Txt K mg) : FnOk P w K mg base L2.CX0 1 T.InvalidNumber_i_a T.InvalidNumber_i_d ["self", "value"] (spIni K T.InvalidNumber_a) := by
  refine T.InvalidNumber_i_F.ok sc_InvalidNumber_i (fun vs H Q E h => ?_) (fun cdv A ou t H vs Q E hr h => ⟨_, pss_one (ps_ost (pv 0) (pv 1)), ini_read h⟩)
  obtain ⟨_, _, rfl, _⟩ := h; rfl
theorem ini_InvalidRow (T : Txt K mg) : FnOk P w K mg base L2.CX0 1 T.InvalidRow_i_a T.InvalidRow_i_d ["self", "value"] (spIni K T.InvalidRow_a) := by
  refine T.InvalidRow_i_F.ok sc_InvalidRow_i (fun vs H Q E h => ?_) (fun cdv A ou t H vs Q E hr h => ⟨_, pss_one (ps_ost (pv 0) (pv 1)), ini_read h⟩)
  obtain ⟨_, _, rfl, _⟩ := h; rfl
theorem ini_InvalidSize (T : Txt K mg) : FnOk P w K mg base L2.CX0 1 T.InvalidSize_i_a T.InvalidSize_i_d ["self", "value"] (spIni K T.InvalidSize_a) := by
  refine T.InvalidSize_i_F.ok sc_InvalidSize_i (fun vs H Q E h => ?_) (fun cdv A ou t H vs Q E hr h => ⟨_, pss_one (ps_ost (pv 0) (pv 1)), ini_read h⟩)
  obtain ⟨_, _, rfl, _⟩ := h; rfl
def sp_sort_stretches (K : PySem.W.Frag) : Sp := fun vs H Q _ => ∃ (a b : Addr) (ns : List Int) (ts : List Addr) (cs : List Cmd), vs = [.ref a, .ref b] ∧ SqL K H a (ns.map V.int) ∧ SqL K H b (ts.map V.ref) ∧ Cm H ts cs ∧ ns.length ≤ 1000 ∧ Fits ns.length cs ∧
  ∀ (H' : Hp) (p : Addr), Same H H' → H p = none → H' p = some (.lst ((runM ns cs).map V.int)) → Q (.ref p) H'
theorem ok_sort_stretches (T : Txt K mg) : FnG P w K mg base CX0 1 T.sort_stretches_a T.sort_stretches_d ["row", "commands"] (sp_sort_stretches K) := by
  refine okG T.sort_stretches_F sc_sort_stretches (fun vs H Q E h => ?_) (fun cdv A ou t H vs Q E hG hr h => ?_)
  · obtain ⟨_, _, _, _, _, rfl, _⟩ := h; rfl
  have nd := sc_sort_stretches.nd
  obtain ⟨a, b, ns, ts, cs, rfl, hS, hB, hC, hn2, hF, q⟩ := h
  refine ⟨_, (pss_cons (sset 2 nd (pe_callTy (listK K) (by rfl) T.m_list (by decide +kernel) (pa_cons (pv 0) pa_nil)))
      (pss_cons (ps_for PassesOwn.never rfl (pi_listK K (pv 1)) (pg_tupK K 2 rfl (pgs_cons (gset 3 nd) (pgs_cons (gset 4 nd) pgs_nil)))
        (pss_one (ps_asg (pe_callB (sortedK K) (by rfl) T.m_sorted (by decide +kernel) (pa_cons (pe_slice (sl_listK K) (pv 2) (po_some (pe_op op_sub (pv 3) pe_int)) (po_some (pv 4))) pa_nil)) (pg_slc (pv 2) (po_some (pe_op op_sub (pv 3) pe_int)) (po_some (pv 4))))))
      (pss_one (ps_ret (pv 2))))), ?_⟩
  fail "g"
  intro p np
  have hp : H p = none := np
  have s2 := same_new (o := .lst (ns.map V.int)) np
  have hB2 := s2.seq hB
  fail "g"
  refine forA (walk_list (xs := ts.map V.ref)) (fun i σ' H' => ∃ y3 y4, σ' = [some (.ref a), some (.ref b), some (.ref p), y3, y4] ∧ Same H H' ∧ H' p = some (.lst ((runM ns (cs.take i)).map V.int)))
    ⟨none, none, rfl, s2, upd_same⟩ (fun i σ' H' _ q => ?_) (fun i σ' H' hi q => ?_) (fun σ' H' q' => ?_)
  · obtain ⟨_, _, _, s, _⟩ := q; exact s.seq hB
  · obtain ⟨y3, y4, rfl, s, hP⟩ := q
    have hi' : i < cs.length := by rw [← hC.len]; simpa using hi
    obtain ⟨t0, et, ht⟩ := hC.idx hi'
    have e1 : (ts.map V.ref)[i] = .ref t0 := by
      have : (ts.map V.ref)[i]? = some (.ref t0) := by rw [List.getElem?_map, et]; rfl
      rw [List.getElem?_eq_getElem hi] at this
      exact Option.some.inj this
    rw [e1]
    have hc := hF cs[i] (List.getElem_mem hi')
    have ht1 := s _ _ ht
    have hlenP : (runM ns (cs.take i)).length = ns.length := runM_len hF.take
    fail "g"
    intro l0 n0
    rw [cut_mid (a := cs[i].1 - 1) (b := cs[i].2) (by omega) rfl (by rw [List.length_map]; omega), ← List.map_drop, ← List.map_take] at *
    fail "g"
    refine ⟨l0, _, rfl, sq upd_same, fun ns' l1 hperm hup n1 => ?_⟩
    have e2 := srt_is hperm hup
    subst e2
    fail "g"
    have hP2 := upd_old (o := .lst ((srt (((runM ns (cs.take i)).drop (cs[i].1 - 1)).take (cs[i].2 - (cs[i].1 - 1)))).map V.int)) n1 (upd_old (o := .lst ((((runM ns (cs.take i)).drop (cs[i].1 - 1)).take (cs[i].2 - (cs[i].1 - 1))).map V.int)) n0 hP)
    refine ⟨p, l1, _, _, _, _, rfl, rfl, rfl, rfl, hP2, upd_same, ne_of_none (upd_old n0 hP) n1, by omega, by omega, by rw [List.length_map]; omega, ?_, ?_⟩
    · rw [List.length_map, List.length_map, srt_len, List.length_take, List.length_drop]; exact size_le (by omega)
    · refine ⟨_, _, rfl, same_old ((s.trans (same_new n0)).trans (same_new n1)) hp, ?_⟩
      rw [upd_same, take_one hi', runM_snoc]
      rw [show ((cs[i].1 : Nat) - 1 : Int).toNat = cs[i].1 - 1 by omega, show ((cs[i].2 : Nat) : Int).toNat = cs[i].2 by omega, ← List.map_take, ← List.map_drop, ← List.map_append, ← List.map_append]
      rfl
  · obtain ⟨y3, y4, rfl, s, hP⟩ := q'
    fail "g"
    rw [List.take_of_length_le (by rw [List.length_map, hC.len]; exact Nat.le_refl _)] at hP
    exact q _ _ s hp hP
def sp_descending_row (K : PySem.W.Frag) : Sp := fun vs H Q _ => ∃ (n : Nat), vs = [.int n] ∧ n ≤ 1000 ∧ ∀ (H' : Hp) (p : Addr), Same H H' → H p = none → H' p = some (.lst ((desc n).map V.int)) → Q (.ref p) H'
theorem ok_descending_row (T : Txt K mg) : FnG P w K mg base CX0 1 T.descending_row_a T.descending_row_d ["size"] (sp_descending_row K) := by
  refine okG T.descending_row_F sc_descending_row (fun vs H Q E h => ?_) (fun cdv A ou t H vs Q E hG hr h => ?_)
  · obtain ⟨_, rfl, _⟩ := h; rfl
  have nd := sc_descending_row.nd
  obtain ⟨n, rfl, hn, q⟩ := h
  refine ⟨_, (pss_one (ps_ret (pe_listRg3 rfl (by rfl) T.m_list (by rfl) T.m_range (pa_cons (pv 0) (pa_cons pe_int (pa_cons (pe_un un_neg pe_int) pa_nil)))))), ?_⟩
  fail "g"
  refine ⟨_, _, _, _, rfl, RgC.neg (by omega) (by omega) (by omega) (by omega), by omega, fun p np => ?_⟩
  refine q _ p (same_new np) np (upd_same.trans ?_)
  have e : rg3V (n : Int) (-1) ((n : Int) - 0).toNat = (desc n).map V.int := by
    rw [show ((n : Int) - 0).toNat = n by omega]
    unfold rg3V desc
    rw [List.map_map]
    refine List.map_congr_left fun k _ => ?_
    show V.int ((n : Int) + (k : Nat) * (-1)) = V.int ((n : Int) - (k : Nat))
    rw [show ((n : Int) + (k : Nat) * (-1)) = (n : Int) - (k : Nat) by omega]
  rw [e]
def sp_linked_blocks (K : PySem.W.Frag) : Sp := fun vs H Q _ => ∃ (n : Nat) (b : Addr) (ts : List Addr) (cs : List Cmd), vs = [.int n, .ref b] ∧ n ≤ 1000 ∧ SqL K H b (ts.map V.ref) ∧ Cm H ts cs ∧ Fits n cs ∧
  ∀ (H' : Hp) (p : Addr) (us : List Addr), Same H H' → H p = none → H' p = some (.lst (us.map V.ref)) → Cm H' us (blkM n cs) → Q (.ref p) H'
theorem ok_linked_blocks (T : Txt K mg) : FnG P w K mg base CX0 1 T.linked_blocks_a T.linked_blocks_d ["size", "commands"] (sp_linked_blocks K) := by
  refine okG T.linked_blocks_F sc_linked_blocks (fun vs H Q E h => ?_) (fun cdv A ou t H vs Q E hG hr h => ?_)
  · obtain ⟨_, _, _, _, rfl, _⟩ := h; rfl
  have nd := sc_linked_blocks.nd
  obtain ⟨n, b, ts, cs, rfl, hn, hB, hC, hF, q⟩ := h
  refine ⟨_, (pss_cons (sset 2 nd (pe_op op_rep (pe_lst (pa_cons pe_bl pa_nil)) (pv 0)))
      (pss_cons (ps_for PassesOwn.never rfl (pi_listK K (pv 1)) (pg_tupK K 2 rfl (pgs_cons (gset 3 nd) (pgs_cons (gset 4 nd) pgs_nil)))
        (pss_one (ps_for PassesOwn.never rfl (pi_range2 (by rfl) T.m_range (pa_cons (pv 3) (pa_cons (pv 4) pa_nil))) (gset 5 nd)
        (pss_one (ps_asg pe_bl (pg_sub (pv 2) (pe_op op_sub (pv 5) pe_int) set_list))))))
      (pss_cons (sset 6 nd (pe_lst pa_nil))
      (pss_cons (sset 7 nd pe_int)
      (pss_cons (ps_for PassesOwn.never rfl (pi_enumSK K (by rfl) T.m_enumerate (pa_cons (pv 2) pa_nil) (pk_cons pe_int pk_nil)) (pg_tupK K 2 rfl (pgs_cons (gset 5 nd) (pgs_cons (gset 8 nd) pgs_nil)))
        (pss_one (ps_if (pt_not (pt_val (pv 8)))
        (pss_cons (ps_expr (pe_bmK K PySem.F.plainAttrs_list PySem.F.slot_list_append PySem.F.type_list_append mt_append (pv 6) (pa_cons (pe_tup (pa_cons (pv 7) (pa_cons (pv 5) pa_nil))) pa_nil)))
      (pss_one (sset 7 nd (pe_op op_add (pv 5) pe_int))))
        pss_nil)))
      (pss_one (ps_ret (pv 6)))))))), ?_⟩
  fail "ww"
  refine new_ fun l0 H1 n0 s1 h0 => ?_
  fail "ww"
  refine n_rep h0 (by omega) (by show 1 * n ≤ _; omega) (new_ fun l H2 nl s2 hl => ?_)
  rw [flg_nil] at hl
  have nl0 : H l = none := by fail "kpz"
  fail "ww"
  refine forA (walk_list (xs := ts.map V.ref)) (fun i σ' H' => ∃ (y3 y4 y5 y6 y7 y8 : Option V), σ' = [some (.int (n : Int)), some (.ref b), some (.ref l), y3, y4, y5, y6, y7, y8] ∧ Same H H' ∧ H' l = some (.lst ((flg n (cs.take i)).map V.bl)))
    ⟨none, none, none, none, none, none, rfl, by fail "kp", hl⟩ (fun i σ' H' _ p => ?_) (fun i σ' H' hi p => ?_) (fun σ' H' p => ?_)
  · obtain ⟨_, _, _, _, _, _, _, s, _⟩ := p; fail "kp"
  · obtain ⟨y3, y4, y5, y6, y7, y8, rfl, s, hL⟩ := p
    have hi' : i < cs.length := by rw [← hC.len]; simpa using hi
    obtain ⟨t0, et, ht⟩ := hC.idx hi'
    have e1 : (ts.map V.ref)[i] = .ref t0 := by
      have : (ts.map V.ref)[i]? = some (.ref t0) := by rw [List.getElem?_map, et]; rfl
      rw [List.getElem?_eq_getElem hi] at this
      exact Option.some.inj this
    rw [e1]
    have hc := hF cs[i] (List.getElem_mem hi')
    rw [take_one hi']
    generalize cs[i] = c at hc ht ⊢
    generalize cs.take i = ds at hL ⊢
    fail "ww"
    refine ⟨⟨by omega, by omega, by omega, by omega⟩, ?_⟩
    rw [← flgU_0 n ds c] at hL
    refine forF walk_range (fun j σ' H' => ∃ (y5 y6 y7 y8 : Option V) (_u : Unit), σ' = [some (.int (n : Int)), some (.ref b), some (.ref l), some (.int (c.1 : Nat)), some (.int (c.2 : Nat)), y5, y6, y7, y8] ∧ Same H H' ∧ H' l = some (.lst (flgU n ds c j)))
      ⟨y5, y6, y7, y8, (), rfl, s, hL⟩ (fun _ _ _ _ _ => trivial) (fun j σ' H' hj p => ?_) (fun σ' H' p => ?_)
    · obtain ⟨y5, y6, y7, y8, _, rfl, s, hL⟩ := p
      fail "ww"
      refine r_setL hL (n := c.1 + j - 1) (ix_of (by omega) (by rw [flgU_len]; omega)) ?_
      rw [flgU_set n ds c j hc.1]
      exact ⟨_, _, _, _, (), rfl, same_old s nl0, upd_same⟩
    · obtain ⟨y5, y6, y7, y8, _, rfl, s, hL⟩ := p
      rw [show ((c.2 : Int) - (c.1 : Int)).toNat = c.2 - c.1 by omega, flgU_end n ds c hc.2.1] at hL
      exact ⟨_, _, _, _, _, _, rfl, s, hL⟩
  · obtain ⟨y3, y4, y5, y6, y7, y8, rfl, s, hL⟩ := p
    rw [List.take_of_length_le (by rw [List.length_map, hC.len]; exact Nat.le_refl _)] at hL
    clear s1 s2 h0 n0 hl
    fail "ww"
    refine new_ fun p H3 np s3 hp => ?_
    fail "ww"
    have np0 : H p = none := by fail "kpz"
    refine ⟨l, (flg n cs).map V.bl, 1, rfl, rfl, by fail "kp", by decide, by decide, ?_⟩
    have hL3 : H3 l = some (.lst ((flg n cs).map V.bl)) := by fail "kp"
    have hlp : l ≠ p := ne_of_none hL np
    have s03 : Same H H3 := by fail "kp"
    clear s s3 hL
    refine forP (walk_enumS (xs := (flg n cs).map V.bl)) (fun i σ' H' => ∃ (y3 y4 y5 y8 : Option V) (us : List Addr), σ' = [some (.int (n : Int)), some (.ref b), some (.ref l), y3, y4, y5, some (.ref p), some (.int ((blkU cs i).2 : Nat)), y8] ∧ Sx p H3 H' ∧ Same H H' ∧ H' p = some (.lst (us.map V.ref)) ∧ Cm H' us (blkU cs i).1 ∧ us.length ≤ i)
      ⟨y3, y4, y5, y8, [], rfl, Sx.refl, s03, hp, Cm.nil, Nat.le_refl _⟩ (fun i σ' H' _ p' => ?_) (fun i σ' H' T x y hi p' e1 e2 nT => ?_) (fun σ' H' p' => ?_)
    · obtain ⟨_, _, _, _, _, _, s, _⟩ := p'
      exact sq (s _ _ hlp hL3)
    · obtain ⟨y3, y4, y5, y8, us, rfl, sx, s, hP, hU, hul⟩ := p'
      have hi' : i < (flg n cs).length := by simpa using hi
      have hin : i < n := by rw [flg_len] at hi'; exact hi'
      cases e1
      rw [List.getElem?_map, List.getElem?_eq_getElem hi', flg_at] at e2
      cases e2
      have hblk : blkU cs (i + 1) = if lnk cs (i + 1) then blkU cs i else ((blkU cs i).1 ++ [((blkU cs i).2, i + 1)], i + 2) := rfl
      fail "ww"
      by_cases hl : lnk cs (i + 1) = true
      · rw [hl]
        fail "ww"
        rw [if_pos hl] at hblk
        rw [hblk]
        exact ⟨_, _, _, _, us, rfl, sx.same (same_new nT), by fail "kp", by fail "kp", by fail "kp", by omega⟩
      · rw [Bool.not_eq_true] at hl
        rw [hl]
        rw [if_neg (by rw [hl]; simp)] at hblk
        rw [hblk]
        fail "ww"
        refine new_ fun t H4 nt s4 ht => ?_
        have hP4 : H4 p = some (.lst (us.map V.ref)) := by fail "kp"
        fail "ww"
        refine r_append hP4 (by rw [List.length_map]; exact size_lt (by omega)) ?_
        fail "ww"
        have ht' : H4 t = some (.tup [.int (((blkU cs i).2 : Nat)), .int (((i + 1 : Nat)) : Int)]) := by
          rw [ht, show (1 : Int) + (i : Int) = ((i + 1 : Nat) : Int) by omega]
        rw [show (1 : Int) + (i : Int) + 1 = ((i + 2 : Nat) : Int) by omega]
        refine ⟨_, _, _, _, us ++ [t], rfl, Sx.trans ((sx.same (same_new nT)).same s4) Sx.put, same_old (by fail "kp") np0, by rw [upd_same, List.map_append]; rfl, ?_, by rw [List.length_append]; show _ + 1 ≤ _; omega⟩
        · exact (Cm.snoc (c := ((blkU cs i).2, i + 1)) (by fail "kp") ht').put hP4
    · obtain ⟨y3, y4, y5, y8, us, rfl, sx, s, hP, hU, hul⟩ := p'
      rw [List.length_map, flg_len] at hU
      fail "ww"
      exact q _ p us s np0 hP hU
def sp_nth_choice (K : PySem.W.Frag) : Sp := fun vs H Q _ => ∃ (a : Addr) (ws : List Int) (k m : Nat), vs = [.ref a, .int k, .int m] ∧ H a = some (.lst (ws.map V.int)) ∧ ws.length ≤ 100 ∧ k ≤ ws.length ∧ m < cmb ws.length k ∧
  ∀ (H' : Hp) (p : Addr) (c : List Int), Same H H' → H p = none → (chs ws k)[m]? = some c → H' p = some (.lst (c.map V.int)) → Q (.ref p) H'
theorem ok_nth_choice (T : Txt K mg) : FnG P w K mg base CX0 1 T.nth_choice_a T.nth_choice_d ["values", "length", "number"] (sp_nth_choice K) := by
  refine okG T.nth_choice_F sc_nth_choice (fun vs H Q E h => ?_) (fun cdv A ou t H vs Q E hG hr h => ?_)
  · obtain ⟨_, _, _, _, rfl, _⟩ := h; rfl
  have nd := sc_nth_choice.nd
  obtain ⟨a, ws, k, m, rfl, hA, hn, hk, hm, q⟩ := h
  refine ⟨_, (pss_cons (sset 3 nd (pe_lst pa_nil))
      (pss_cons (sset 4 nd (pv 2))
      (pss_cons (ps_for PassesOwn.never rfl (pi_enumK K (by rfl) T.m_enumerate (pa_cons (pv 0) pa_nil)) (pg_tupK K 2 rfl (pgs_cons (gset 5 nd) (pgs_cons (gset 6 nd) pgs_nil)))
        (pss_cons (ps_if (pt_cmpR op_eq (pe_callB (lenK K) (by rfl) T.m_len PySem.boot_len (pa_cons (pv 3) pa_nil)) (pv 1) (nomark _))
        (pss_one ps_break)
        pss_nil)
      (pss_cons (sset 7 nd (pe_callBfun cr_comb (by rfl) T.g_comb (pa_cons (pe_op op_sub (pe_op op_sub (pe_callB (lenK K) (by rfl) T.m_len PySem.boot_len (pa_cons (pv 0) pa_nil)) (pv 5)) pe_int) (pa_cons (pe_op op_sub (pe_op op_sub (pv 1) (pe_callB (lenK K) (by rfl) T.m_len PySem.boot_len (pa_cons (pv 3) pa_nil))) pe_int) pa_nil))))
      (pss_one (ps_if (pt_cmpR op_lt (pv 4) (pv 7) (nomark _))
        (pss_one (ps_expr (pe_bmK K PySem.F.plainAttrs_list PySem.F.slot_list_append PySem.F.type_list_append mt_append (pv 3) (pa_cons (pv 6) pa_nil))))
        (pss_one (saug 4 nd (pv 7) ip_sub)))))))
      (pss_one (ps_ret (pv 3)))))), ?_⟩
  fail "ww"
  refine new_ fun l H1 nl s1 hl => ?_
  fail "ww"
  have hm' : m < (chs ws k).length := by rw [chs_len]; exact hm
  have nl0 := nl
  have hal : a ≠ l := ne_of_none hA nl
  have hA1 := s1 _ _ hA
  refine forEI (walk_enum (xs := ws.map V.int)) (fun j σ' H' => ∃ (y5 y6 y7 : Option V) (ch t : List Int) (lf : Nat), σ' = [some (.ref a), some (.int k), some (.int m), some (.ref l), some (.int lf), y5, y6, y7] ∧ Sx l H1 H' ∧ Same H H' ∧ H' l = some (.lst (ch.map V.int)) ∧ ch.length ≤ k ∧ (chs (ws.drop j) (k - ch.length))[lf]? = some t ∧ (chs ws k)[m]? = some (ch ++ t))
    ⟨none, none, none, [], (chs ws k)[m], m, rfl, Sx.refl, s1, hl, Nat.zero_le _, List.getElem?_eq_getElem hm', List.getElem?_eq_getElem hm'⟩ (fun j σ' H' _ p' => ?_) (fun j σ' H' T hj p' nT => ?_) (fun σ' H' p' => ?_)
  · obtain ⟨_, _, _, _, _, _, _, s, _⟩ := p'; exact sq (s _ _ hal hA1)
  · clear hl s1
    obtain ⟨y5, y6, y7, ch, t, lf, rfl, sx, s, hl, hck, ht, hc⟩ := p'
    have hl' := upd_old (o := .tup [.int (j : Nat), .int ws[j]]) nT hl
    have s' := s.trans (same_new (o := .tup [.int (j : Nat), .int ws[j]]) nT)
    have sx' := sx.same (same_new (o := .tup [.int (j : Nat), .int ws[j]]) nT)
    have hT : upd H' T (.tup [.int (j : Nat), .int ws[j]]) T = some (.tup [.int (j : Nat), .int ws[j]]) := upd_same
    have hA' := s' _ _ hA
    rw [List.drop_eq_getElem_cons hj] at ht
    have hrl : (ws.drop (j + 1)).length = ws.length - (j + 1) := List.length_drop
    generalize upd H' T (.tup [.int (j : Nat), .int ws[j]]) = G at *
    generalize ws[j] = v at *
    fail "ww"
    rw [List.length_map]
    refine r_dec (fun g => ?_) (fun g => ?_)
    · have e0 : k - ch.length = 0 := by omega
      rw [e0, chs_zero] at ht
      have et : t = [] := by
        cases lf with
        | zero => exact (Option.some.inj ht).symm
        | succ n => simp at ht
      subst et
      rw [List.append_nil] at hc
      fail "ww"
      exact q _ l ch s' nl0 hc hl'
    · obtain ⟨k', hk'⟩ : ∃ k', k - ch.length = k' + 1 := ⟨k - ch.length - 1, by omega⟩
      rw [hk'] at ht
      replace ht : ((chs (ws.drop (j + 1)) k').map (fun u => v :: u) ++ chs (ws.drop (j + 1)) (k' + 1))[lf]? = some t := ht
      have hlt := (List.getElem?_eq_some_iff.mp ht).1
      rw [List.length_append, List.length_map, chs_len, chs_len, hrl] at hlt
      have hkr : k' ≤ ws.length - (j + 1) := by
        apply Classical.byContradiction; intro q
        rw [cmb_big (show ws.length - (j + 1) < k' by omega), cmb_big (show ws.length - (j + 1) < k' + 1 by omega)] at hlt
        omega
      fail "ww"
      rw [List.length_map, List.length_map]
      refine ⟨ws.length - (j + 1), k', by rw [show ((ws.length : Nat) : Int) - ((j : Nat) : Int) - 1 = ((ws.length - (j + 1) : Nat) : Int) by omega, show ((k : Nat) : Int) - ((ch.length : Nat) : Int) - 1 = ((k' : Nat) : Int) by omega], hkr, by omega, ?_⟩
      fail "ww"
      refine r_dec (fun g2 => ?_) (fun g2 => ?_)
      · rw [List.getElem?_append_left (by rw [List.length_map, chs_len, hrl]; omega), List.getElem?_map] at ht
        obtain ⟨u, eu, rfl⟩ := Option.map_eq_some_iff.mp ht
        fail "ww"
        refine r_append hl' (by rw [List.length_map]; exact size_lt (by omega)) ?_
        refine ⟨_, _, _, ch ++ [v], u, lf, rfl, sx'.trans Sx.put, fun b' o' e' => upd_to (ne_of_none e' nl0) (s' _ _ e'), by rw [upd_same]; simp, by rw [List.length_append]; simp; omega, ?_, by rw [hc]; simp⟩
        rw [List.length_append, show k - (ch.length + [v].length) = k' by simp; omega]; exact eu
      · rw [List.getElem?_append_right (by rw [List.length_map, chs_len, hrl]; omega), List.length_map, chs_len, hrl] at ht
        fail "ww"
        rw [show ((lf : Nat) : Int) - ((cmb (ws.length - (j + 1)) k' : Nat) : Int) = ((lf - cmb (ws.length - (j + 1)) k' : Nat) : Int) by omega]
        exact ⟨_, _, _, ch, t, lf - cmb (ws.length - (j + 1)) k', rfl, sx', s', hl', hck, by rw [hk']; exact ht, hc⟩
  · clear hl s1
    obtain ⟨y5, y6, y7, ch, t, lf, rfl, sx, s, hl, hck, ht, hc⟩ := p'
    rw [List.length_map, List.drop_of_length_le (Nat.le_refl _)] at ht
    have et : t = [] := by
      cases e : k - ch.length with
      | zero =>
        rw [e] at ht
        cases lf with
        | zero => exact (Option.some.inj ht).symm
        | succ n => simp [chs_zero] at ht
      | succ n => rw [e] at ht; simp [chs] at ht
    subst et
    rw [List.append_nil] at hc
    fail "ww"
    exact q _ l ch s nl0 hc hl
def sp_choice_number (K : PySem.W.Frag) : Sp := fun vs H Q _ => ∃ (a b : Addr) (ws ch : List Int), vs = [.ref a, .ref b] ∧ H a = some (.lst (ws.map V.int)) ∧ H b = some (.lst (ch.map V.int)) ∧ ws.length ≤ 100 ∧ ws.Pairwise (· < ·) ∧ ch.Sublist ws ∧
  ∀ (H' : Hp), Same H H' → Q (.int (chIx ws ch : Nat)) H'
theorem ok_choice_number (T : Txt K mg) : FnG P w K mg base CX0 1 T.choice_number_a T.choice_number_d ["values", "chosen"] (sp_choice_number K) := by
  refine okG T.choice_number_F sc_choice_number (fun vs H Q E h => ?_) (fun cdv A ou t H vs Q E hG hr h => ?_)
  · obtain ⟨_, _, _, _, rfl, _⟩ := h; rfl
  have nd := sc_choice_number.nd
  obtain ⟨a, b, ws, ch, rfl, hA, hB, hn, hup, hsub, q⟩ := h
  refine ⟨_, (pss_cons (sset 2 nd pe_int)
      (pss_cons (sset 3 nd pe_int)
      (pss_cons (ps_for PassesOwn.never rfl (pi_enumK K (by rfl) T.m_enumerate (pa_cons (pv 0) pa_nil)) (pg_tupK K 2 rfl (pgs_cons (gset 4 nd) (pgs_cons (gset 5 nd) pgs_nil)))
        (pss_cons (ps_if (pt_cmpR op_eq (pv 3) (pe_callB (lenK K) (by rfl) T.m_len PySem.boot_len (pa_cons (pv 1) pa_nil)) (nomark _))
        (pss_one ps_break)
        pss_nil)
      (pss_one (ps_if (pt_cmpR op_eq (pv 5) (pe_ix (ix_listK K) (pv 1) (pv 3) (fun _ _ => rfl)) (nomark _))
        (pss_one (saug 3 nd pe_int ip_add))
        (pss_one (saug 2 nd (pe_callBfun cr_comb (by rfl) T.g_comb (pa_cons (pe_op op_sub (pe_op op_sub (pe_callB (lenK K) (by rfl) T.m_len PySem.boot_len (pa_cons (pv 0) pa_nil)) (pv 4)) pe_int) (pa_cons (pe_op op_sub (pe_op op_sub (pe_callB (lenK K) (by rfl) T.m_len PySem.boot_len (pa_cons (pv 1) pa_nil)) (pv 3)) pe_int) pa_nil))) ip_add))))))
      (pss_one (ps_ret (pv 2)))))), ?_⟩
  fail "ww"
  refine forEI (walk_enum (xs := ws.map V.int)) (fun j σ' H' => ∃ (y4 y5 : Option V) (m f : Nat), σ' = [some (.ref a), some (.ref b), some (.int m), some (.int f), y4, y5] ∧ Same H H' ∧ m + chIx (ws.drop j) (ch.drop f) = chIx ws ch ∧ (ch.drop f).Sublist (ws.drop j) ∧ f ≤ ch.length)
    ⟨none, none, 0, 0, rfl, Same.refl _, by rw [Nat.zero_add]; rfl, hsub, Nat.zero_le _⟩ (fun j σ' H' _ p' => ?_) (fun j σ' H' T hj p' nT => ?_) (fun σ' H' p' => ?_)
  · obtain ⟨_, _, _, _, _, s, _⟩ := p'; exact sq (s _ _ hA)
  · obtain ⟨y4, y5, m, f, rfl, s, hm, hs, hf⟩ := p'
    have s' := s.trans (same_new (o := .tup [.int (j : Nat), .int ws[j]]) nT)
    have hT : upd H' T (.tup [.int (j : Nat), .int ws[j]]) T = some (.tup [.int (j : Nat), .int ws[j]]) := upd_same
    have hA' := s' _ _ hA
    have hB' := s' _ _ hB
    rw [List.drop_eq_getElem_cons hj] at hm hs
    have hrl : (ws.drop (j + 1)).length = ws.length - (j + 1) := List.length_drop
    have hgt : ∀ y ∈ ws.drop (j + 1), ws[j] < y := by
      have := hup.sublist (List.drop_sublist j ws)
      rw [List.drop_eq_getElem_cons hj] at this
      exact (List.pairwise_cons.mp this).1
    generalize upd H' T (.tup [.int (j : Nat), .int ws[j]]) = G at *
    generalize ws[j] = v at *
    fail "ww"
    rw [List.length_map]
    refine r_dec (fun g => ?_) (fun g => ?_)
    · rw [List.drop_of_length_le (l := ch) (i := f) (by omega)] at hm
      replace hm : m + 0 = chIx ws ch := hm
      fail "ww"
      rw [show m = chIx ws ch by omega]
      exact q _ s'
    · have hf' : f < ch.length := by omega
      rw [List.drop_eq_getElem_cons hf'] at hm hs
      fail "ww"
      refine r_ixL (sq hB') (at_map (ns := ch) (j := f) rfl hf') ?_
      fail "ww"
      refine r_dec (fun g2 => ?_) (fun g2 => ?_)
      · have e : chIx (v :: ws.drop (j + 1)) (ch[f] :: ch.drop (f + 1)) = chIx (ws.drop (j + 1)) (ch.drop (f + 1)) := if_pos g2
        rw [e] at hm
        fail "ww"
        refine ⟨_, _, m, f + 1, rfl, s', hm, ?_, by omega⟩
        cases hs with
        | cons _ q => exact absurd (hgt _ (q.subset List.mem_cons_self)) (by omega)
        | cons_cons _ q => exact q
      · have e : chIx (v :: ws.drop (j + 1)) (ch[f] :: ch.drop (f + 1)) = cmb (ws.drop (j + 1)).length (ch.drop (f + 1)).length + chIx (ws.drop (j + 1)) (ch[f] :: ch.drop (f + 1)) := if_neg g2
        have hs2 : (ch[f] :: ch.drop (f + 1)).Sublist (ws.drop (j + 1)) := by
          cases hs with
          | cons _ q => exact q
          | cons_cons _ q => exact absurd rfl g2
        have hl2 := hs2.length_le
        rw [List.length_cons, List.length_drop, hrl] at hl2
        rw [e, hrl, List.length_drop] at hm
        fail "ww"
        rw [List.length_map, List.length_map]
        refine ⟨ws.length - (j + 1), ch.length - (f + 1), by rw [show ((ws.length : Nat) : Int) - ((j : Nat) : Int) - 1 = ((ws.length - (j + 1) : Nat) : Int) by omega, show ((ch.length : Nat) : Int) - ((f : Nat) : Int) - 1 = ((ch.length - (f + 1) : Nat) : Int) by omega], by omega, by omega, ?_⟩
        fail "ww"
        rw [show ((m : Nat) : Int) + ((cmb (ws.length - (j + 1)) (ch.length - (f + 1)) : Nat) : Int) = ((m + cmb (ws.length - (j + 1)) (ch.length - (f + 1)) : Nat) : Int) by omega]
        refine ⟨_, _, m + cmb (ws.length - (j + 1)) (ch.length - (f + 1)), f, rfl, s', ?_, by rw [List.drop_eq_getElem_cons hf']; exact hs2, hf⟩
        rw [← hm, List.drop_eq_getElem_cons hf']; omega
  · obtain ⟨y4, y5, m, f, rfl, s, hm, hs, hf⟩ := p'
    rw [List.length_map, List.drop_of_length_le (Nat.le_refl _)] at hm
    have e : chIx [] (ch.drop f) = 0 := by unfold chIx; rfl
    rw [e] at hm
    fail "ww"
    rw [show m = chIx ws ch by omega]
    exact q _ s
def sp_law_pool (K : PySem.W.Frag) : Sp := fun vs H Q _ => ∃ (a : Addr) (ns : List Int) (k : Nat), vs = [.ref a, .int k] ∧ SqL K H a (ns.map V.int) ∧ k ≤ 10 ∧ ∀ H' r, Same H H' → H r = none → Pol H' r 0 → Q (.ref r) H'
theorem ok_law_pool (T : Txt K mg) : FnG P w K mg base CX0 1 T.law_pool_a T.law_pool_d ["script", "at"] (sp_law_pool K) := by
  refine okG T.law_pool_F sc_law_pool (fun vs H Q E h => ?_) (fun cdv A ou t H vs Q E hG hr h => ?_)
  · obtain ⟨_, _, _, rfl, _⟩ := h; rfl
  have nd := sc_law_pool.nd
  obtain ⟨a, ns, k, rfl, hS, hk, q⟩ := h
  refine ⟨_, (pss_cons (sset 2 nd pe_int)
      (C8.pss_cut (ps_if (pt_cmpR op_lt (pv 1) (pe_callB (lenK K) (by rfl) T.m_len PySem.boot_len (pa_cons (pv 0) pa_nil)) (nomark _))
        (pss_one (sset 2 nd (pe_ix (ix_listK K) (pv 0) (pv 1) (fun _ _ => rfl))))
        pss_nil)
      (pss_one (ps_ret (pe_lst (pa_cons (pe_callB (call_max2 rfl) (by rfl) T.m_max (by decide +kernel) (pa_cons pe_int (pa_cons (pe_op op_sub (pe_callB call_abs (by rfl) T.m_abs (by decide +kernel) (pa_cons (pv 2) pa_nil)) (pe_op op_powW pe_int pe_int)) pa_nil))) (pa_cons (pe_op op_add (pe_op op_mod (pv 2) pe_int) (pe_op op_mulW pe_int (pe_op op_add (pv 1) pe_int))) (pa_cons pe_int pa_nil)))))))), ?_⟩
  fail "ww"
  refine r_cut (fun σ' H' => ∃ (c : Int) (_u : Unit), σ' = [some (.ref a), some (.int (k : Int)), some (.int c)] ∧ H' = H) ?_ (fun σ' H' p => ?_)
  · fail "ww"
    rw [List.length_map]
    refine r_dec (fun h => ?_) (fun h => ?_)
    · fail "ww"
      refine r_ixL hS (at_map (ns := ns) (j := k) rfl (by omega)) ?_
      fail "ww"
      exact ⟨_, (), rfl, rfl⟩
    · fail "ww"
      exact ⟨_, (), rfl, rfl⟩
  · obtain ⟨c, _, rfl, rfl⟩ := p
    fail "ww"
    refine r_I (wide_mul (a := 32) (b := 4) (by decide) (by omega) (by decide) (by decide) (by decide)) ?_
    fail "ww"
    refine new_ fun r H1 nr s1 hr => ?_
    refine q _ r s1 nr ⟨_, _, _, hr, by omega, by omega, by omega, by omega, by omega⟩
def sp_law_draw (K : PySem.W.Frag) : Sp := fun vs H Q _ => ∃ (r : Addr) (lim : Int) (m : Nat), vs = [.ref r, .int lim] ∧ Pol H r m ∧ m < 2 ^ 60 ∧ 0 < lim ∧ lim < 2 ^ 200 ∧
  ∀ H' d, 0 ≤ d → d < lim → Sx r H H' → Pol H' r (m + 1) → Q (.int d) H'
theorem ok_law_draw (T : Txt K mg) : FnG P w K mg base CX0 1 T.law_draw_a T.law_draw_d ["pool", "many"] (sp_law_draw K) := by
  refine okG T.law_draw_F sc_law_draw (fun vs H Q E h => ?_) (fun cdv A ou t H vs Q E hG hr h => ?_)
  · obtain ⟨_, _, _, rfl, _⟩ := h; rfl
  have nd := sc_law_draw.nd
  obtain ⟨r, lim, m, rfl, ⟨a, b, c, hR, ha, hb, hb2, hc, hcm⟩, hm, hl, hl2, q⟩ := h
  refine ⟨_, (pss_cons (ps_if (pt_cmpR op_gt (pe_ix (ix_listK K) (pv 0) pe_int (fun _ _ => rfl)) pe_int (nomark _))
        (pss_cons (sset 2 nd (pe_op op_mod (pe_ix (ix_listK K) (pv 0) pe_int (fun _ _ => rfl)) (pv 1)))
      (pss_cons (ps_asg (pe_op op_fdivW (pe_ix (ix_listK K) (pv 0) pe_int (fun _ _ => rfl)) (pv 1)) (pg_sub (pv 0) pe_int set_list))
      (pss_one (ps_ret (pv 2)))))
        pss_nil)
      (pss_cons (ps_asg (pe_op op_add (pe_ix (ix_listK K) (pv 0) pe_int (fun _ _ => rfl)) pe_int) (pg_sub (pv 0) pe_int set_list))
      (pss_cons (sset 3 nd (pe_op op_mod (pe_op op_powW (pe_op op_add (pe_ix (ix_listK K) (pv 0) pe_int (fun _ _ => rfl)) (pe_op op_mulW pe_int (pe_ix (ix_listK K) (pv 0) pe_int (fun _ _ => rfl)))) pe_int) pe_int))
      (pss_cons (sset 3 nd (pe_op op_mod (pe_op op_powW (pe_op op_add (pv 3) (pe_op op_mulW pe_int (pe_ix (ix_listK K) (pv 0) pe_int (fun _ _ => rfl)))) pe_int) pe_int))
      (pss_one (ps_ret (pe_op op_mod (pe_op op_fdivW (pv 3) pe_int) (pv 1)))))))), ?_⟩
  fail "g"
  refine r_dec (fun h1 => ?_) (fun h1 => ?_)
  · fail "g"
    refine r_I (wide_div hl (b := 201) (by omega) (by decide) (by decide)) ?_
    fail "g"
    exact q _ _ (Int.emod_nonneg _ (by omega)) (Int.emod_lt_of_pos _ hl) Sx.put ⟨_, _, _, upd_same, Int.ediv_nonneg ha (by omega), hb, hb2, hc, by omega⟩
  · fail "g"
    refine r_I (wide_mul (a := 30) (b := 61) (by omega) (by omega) (by decide) (by decide) (by decide)) ?_
    fail "g"
    refine r_I (powW (n := 100) (by omega) (by decide) (by decide) (by decide)) ?_
    fail "g"
    have hx := Int.emod_lt_of_pos ((b + 15499751 * (c + 1)) ^ Int.toNat 3) (show (0 : Int) < 162259276829213363391578010288127 by decide)
    have hx0 := Int.emod_nonneg ((b + 15499751 * (c + 1)) ^ Int.toNat 3) (show (162259276829213363391578010288127 : Int) ≠ 0 by decide)
    generalize (b + 15499751 * (c + 1)) ^ Int.toNat 3 % 162259276829213363391578010288127 = x at hx hx0 ⊢
    refine r_I (wide_mul (a := 30) (b := 61) (by omega) (by omega) (by decide) (by decide) (by decide)) ?_
    fail "g"
    refine r_I (pow5 (n := 120) (by omega) (by decide) (by decide) (by decide)) ?_
    fail "g"
    refine r_I ⟨by decide, by decide +kernel⟩ ?_
    fail "g"
    exact q _ _ (Int.emod_nonneg _ (by omega)) (Int.emod_lt_of_pos _ hl) Sx.put ⟨_, _, _, upd_same, ha, hb, hb2, by omega, by omega⟩
def sp_law_blocks (K : PySem.W.Frag) : Sp := fun vs H Q _ => ∃ (n : Nat) (b : Addr) (ts : List Addr) (cs : List Cmd), vs = [.int n, .ref b] ∧ 1 ≤ n ∧ n ≤ 1000 ∧ SqL K H b (ts.map V.ref) ∧ Cm H ts cs ∧ Fits n cs ∧ cs.length ≤ 10000 ∧
  ∀ (H' : Hp) (p : Addr) (us : List Addr), Same H H' → H p = none → H' p = some (.lst (us.map V.ref)) → Cm H' us (blkM n cs) → Q (.ref p) H'
theorem ok_law_blocks (T : Txt K mg) : FnG P w K mg base CX0 1 T.law_blocks_a T.law_blocks_d ["wide", "steps_here"] (sp_law_blocks K) := by
  refine okG T.law_blocks_F sc_law_blocks (fun vs H Q E h => ?_) (fun cdv A ou t H vs Q E hG hr h => ?_)
  · obtain ⟨_, _, _, _, rfl, _⟩ := h; rfl
  have nd := sc_law_blocks.nd
  obtain ⟨n, b, ts, cs, rfl, hn1, hn, hB, hC, hF, hl, q⟩ := h
  refine ⟨_, (pss_cons (sset 2 nd (pe_lst (pa_cons (pe_lst (pa_cons pe_int (pa_cons pe_int pa_nil))) pa_nil)))
      (pss_cons (ps_for PassesOwn.never rfl (pi_range2 (by rfl) T.m_range (pa_cons pe_int (pa_cons (pe_op op_add (pv 0) pe_int) pa_nil))) (gset 3 nd)
        (pss_one (ps_if (pt_cmpR (neDK K hr.units) (pe_lc (own := [("begin", 4), ("end", 5)]) (hc := rfl) (hN := nd) (hi := (pi_listK K (pv 1))) (ok := blkOk_by (by rfl)) (hg := fun _ _ _ _ _ => (pg_tupK K 2 rfl (pgs_cons (gset 4 nd) (pgs_cons (gset 5 nd) pgs_nil)))) (ht := (fun _ _ _ _ _ => pts_one (pt_chain op_lt op_le (pv 4) (pv 3) (pv 5)))) (he := fun _ _ _ _ _ => pe_int)) (pe_lst pa_nil) (nomark _))
        (pss_one (ps_asg (pe_lst (pa_cons (pe_ix (ix_listK K) (pe_ix (ix_listK K) (pv 2) (pe_un un_neg pe_int) (fun _ _ => rfl)) pe_int (fun _ _ => rfl)) (pa_cons (pv 3) pa_nil))) (pg_sub (pv 2) (pe_un un_neg pe_int) set_list)))
        (pss_one (ps_expr (pe_bmK K PySem.F.plainAttrs_list PySem.F.slot_list_append PySem.F.type_list_append mt_append (pv 2) (pa_cons (pe_lst (pa_cons (pv 3) (pa_cons (pv 3) pa_nil))) pa_nil)))))))
      (pss_one (ps_ret (pe_lc (own := [("begin", 4), ("end", 5)]) (hc := rfl) (hN := nd) (hi := (pi_listK K (pv 2))) (ok := blkOk_by (by rfl)) (hg := fun _ _ _ _ _ => (pg_unlK K 2 rfl (pgs_cons (gset 4 nd) (pgs_cons (gset 5 nd) pgs_nil)))) (ht := (fun _ _ _ _ _ => pts_nil)) (he := fun _ _ _ _ _ => (pe_tup (pa_cons (pv 4) (pa_cons (pv 5) pa_nil))))))))), ?_⟩
  obtain ⟨n, rfl⟩ : ∃ m, n = m + 1 := ⟨n - 1, by omega⟩
  fail "ww"
  refine new_ fun t1 H1 n1 s1 h1 => ?_
  fail "ww"
  refine new_ fun l H2 n2 s2 h2 => ?_
  fail "ww"
  have nl : H l = none := by fail "kpz"
  have ht12 : H2 t1 = some (.lst [.int 1, .int 1]) := by fail "kp"
  refine ⟨⟨by omega, by omega, by omega, by omega⟩, ?_⟩
  refine forF walk_range (fun i σ' H' => ∃ (y3 y4 y5 : Option V) (as : List Addr) (t : Addr), σ' = [some (.int (((n + 1 : Nat)) : Int)), some (.ref b), some (.ref l), y3, y4, y5] ∧ Same H H' ∧ H' l = some (.lst ((as ++ [t]).map V.ref)) ∧ Rws H' (as ++ [t]) (rowsC (blkP cs i)) ∧ (∀ u ∈ as ++ [t], u ≠ l))
    ⟨none, none, none, [], t1, rfl, by fail "kp", h2, Rws.one (l := [1, 1]) ht12, fun u hu => by rw [List.mem_singleton.mp hu]; exact ne_of_none h1 n2⟩ (fun _ _ _ _ _ => trivial) (fun i σ' H' hi p => ?_) (fun σ' H' p => ?_)
  · clear ht12 h2 n2 h1 n1 s1 s2
    obtain ⟨y3, y4, y5, as, t, rfl, s, hL, hR, hul⟩ := p
    fail "ww"
    intro D nD
    refine lc_it (walk_list (xs := ts.map V.ref)) (fun j Hj => Same H' Hj ∧ Hj D = some (.lst (((hitU cs (i + 1) j).map fun _ => (1 : Int)).map V.int))) ⟨same_new nD, upd_same⟩ (fun j Hj _ p => ?_) (fun j x Hj Hj' hj p y => ?_) (fun H3 p => ?_)
    · obtain ⟨s, _⟩ := p; fail "kp"
    · obtain ⟨rfl, ey⟩ := y
      obtain ⟨sj, hDj⟩ := p
      have hj' : j < cs.length := by rw [← hC.len]; simpa using hj
      obtain ⟨t0, et, ht⟩ := hC.idx hj'
      rw [List.getElem?_map, et] at ey
      cases ey
      have hh := hit_succ (p := i + 1) hj'
      have hhl := hit_len cs (i + 1) j
      generalize cs[j] = c at ht hh
      fail "ww"
      refine ⟨rfl, ?_⟩
      fail "ww"
      refine r_dec (fun g1 => ?_) (fun g1 => ?_)
      · fail "ww"
        by_cases g2 : (2 : Int) + (i : Int) ≤ (c.2 : Int)
        · rw [decide_eq_true g2]
          fail "ww"
          rw [if_pos (by rw [decide_eq_true (by omega : c.1 ≤ i + 1), decide_eq_true (by omega : i + 1 < c.2)]; rfl)] at hh
          refine ⟨_, hDj, by rw [List.length_map, List.length_map]; exact size_lt (by omega), same_old sj nD, ?_⟩
          rw [hh, upd_same]; simp
        · rw [decide_eq_false g2]
          fail "ww"
          rw [if_neg (by rw [decide_eq_false (by omega : ¬ i + 1 < c.2)]; simp), List.append_nil] at hh
          rw [hh]
          exact ⟨sj, hDj⟩
      · fail "ww"
        rw [if_neg (by rw [decide_eq_false (by omega : ¬ c.1 ≤ i + 1)]; simp), List.append_nil] at hh
        rw [hh]
        exact ⟨sj, hDj⟩
    · obtain ⟨s3, hD⟩ := p
      rw [List.length_map, hC.len] at hD
      have nD0 : H D = none := s.free nD
      fail "ww"
      refine new_ fun e4 H4 n4 s4 h4 => ?_
      refine r_neL (ns := (hitU cs (i + 1) cs.length).map fun _ => (1 : Int)) (ms := []) (by fail "kp") (sq h4) ?_
      have hL4 : H4 l = some (.lst ((as ++ [t]).map V.ref)) := by fail "kp"
      have hR4 : Rws H4 (as ++ [t]) (rowsC (blkP cs i)) := by fail "kp"
      have s04 : Same H H4 := by fail "kp"
      have ha4 : as.length = (blkU cs i).1.length := by
        have := hR.len
        unfold rowsC blkP at this
        rw [List.length_append, List.length_map, List.length_append] at this
        simpa using this
      have hpl := blkP_len cs i
      clear s3 s4 s hL hR hD h4 nD n4
      fail "ww"
      by_cases hk : lnk cs (i + 1) = true
      · refine r_itN (fun z => (hit_nil cs (i + 1)).mp (List.map_eq_nil_iff.mp z) hk) ?_
        have ht4 : H4 t = some (.lst ([((blkU cs i).2 : Int), ((i + 1 : Nat) : Int)].map V.int)) := hR4.row (i := as.length) (by simp) (by unfold rowsC blkP; rw [List.map_append, List.getElem?_append_right (by rw [List.length_map, ha4]; exact Nat.le_refl _), List.length_map, ha4, Nat.sub_self]; rfl)
        fail "ww"
        refine r_ixL (sq hL4) last_at ?_
        fail "ww"
        refine r_ixL (sq ht4) rfl ?_
        fail "ww"
        refine new_ fun u H5 nu s5 hu => ?_
        have hL5 : H5 l = some (.lst ((as ++ [t]).map V.ref)) := by fail "kp"
        fail "ww"
        refine r_setL hL5 last_ix ?_
        rw [last_set]
        refine ⟨_, _, _, as, u, rfl, same_old (by fail "kp") nl, upd_same, ?_, fun v hv => ?_⟩
        · rw [blkP_yes hk, rowsC_app]
          have hR5 : Rws H5 (as ++ [t]) (rowsC (blkP cs i)) := by fail "kp"
          have hR6 : Rws H5 as (rowsC (blkU cs i).1) := by
            refine ⟨by unfold rowsC; rw [List.length_map, ha4], fun k v e => ?_⟩
            have hk' : k < as.length := (List.getElem?_eq_some_iff.mp e).1
            obtain ⟨x, e1, e2⟩ := hR5.at_ k v (by rw [List.getElem?_append_left hk']; exact e)
            unfold rowsC blkP at e1
            rw [List.map_append, List.getElem?_append_left (by rw [List.length_map, ← ha4]; exact hk')] at e1
            exact ⟨x, e1, e2⟩
          refine (Rws.app hR6 (Rws.one (l := [((blkU cs i).2 : Int), ((i + 2 : Nat) : Int)]) (by rw [hu, show (2 : Int) + (i : Int) = ((i + 2 : Nat) : Int) by omega]; rfl))).upd_ fun hm => ?_
          rcases List.mem_append.mp hm with z | z
          · exact hul _ (List.mem_append_left _ z) rfl
          · exact (ne_of_none hL4 nu) (List.mem_singleton.mp z)
        · rcases List.mem_append.mp hv with z | z
          · exact hul v (List.mem_append_left _ z)
          · rw [List.mem_singleton.mp z]; exact (ne_of_none hL4 nu).symm
      · refine r_itNF (by rw [(hit_nil cs (i + 1)).mpr hk]; rfl) ?_
        fail "ww"
        refine new_ fun u H5 nu s5 hu => ?_
        have hL5 : H5 l = some (.lst ((as ++ [t]).map V.ref)) := by fail "kp"
        fail "ww"
        refine r_append hL5 (by rw [List.length_map, List.length_append]; exact size_lt (by show _ + 1 < _; unfold blkP at hpl; rw [List.length_append] at hpl; simp only [List.length_singleton] at hpl; omega)) ?_
        fail "ww"
        refine ⟨_, _, _, as ++ [t], u, rfl, same_old (by fail "kp") nl, by rw [upd_same]; simp, ?_, fun v hv => ?_⟩
        · rw [blkP_no hk, rowsC_app]
          have hR5 : Rws H5 (as ++ [t]) (rowsC (blkP cs i)) := by fail "kp"
          refine (Rws.app hR5 (Rws.one (l := [((i + 2 : Nat) : Int), ((i + 2 : Nat) : Int)]) (by rw [hu, show (2 : Int) + (i : Int) = ((i + 2 : Nat) : Int) by omega]; rfl))).upd_ fun hm => ?_
          rcases List.mem_append.mp hm with z | z
          · exact hul _ z rfl
          · exact (ne_of_none hL4 nu) (List.mem_singleton.mp z)
        · rcases List.mem_append.mp hv with z | z
          · exact hul v z
          · rw [List.mem_singleton.mp z]; exact (ne_of_none hL4 nu).symm
  · obtain ⟨y3, y4, y5, as, t, rfl, s, hL, hR, hul⟩ := p
    rw [show ((((n + 1 : Nat) : Int)) + 1 - 2).toNat = n by omega, blkP_end hF] at hR
    clear ht12 h2 n2 h1 n1 s1 s2
    fail "ww"
    intro D nD
    generalize as ++ [t] = bs at hL hR hul
    refine lc_it (walk_list (xs := bs.map V.ref)) (CmI H' D (blkM (n + 1) cs)) (cmi_nil nD) (fun j Hj _ p => ?_) (fun j x Hj Hj' hj p y => ?_) (fun H3 p => ?_)
    · obtain ⟨_, _, _, sj, _⟩ := p; fail "kp"
    · obtain ⟨rfl, ey⟩ := y
      have p0 := p
      obtain ⟨_, _, _, sj, _⟩ := p
      have hlen := hR.len
      unfold rowsC at hlen
      rw [List.length_map] at hlen
      have hj' : j < (blkM (n + 1) cs).length := by rw [← hlen]; simpa using hj
      obtain ⟨t0, et, ht⟩ := hR.idx (i := j) (by unfold rowsC; rw [List.length_map]; exact hj')
      rw [List.getElem?_map, et] at ey
      cases ey
      unfold rowsC at ht
      rw [List.getElem_map] at ht
      have hg : (blkM (n + 1) cs)[j]? = some (blkM (n + 1) cs)[j] := List.getElem?_eq_getElem hj'
      generalize (blkM (n + 1) cs)[j] = c at ht hg
      have hbl : (blkM (n + 1) cs).length ≤ n + 1 := by rw [← blkP_end hF]; exact blkP_len cs n
      fail "ww"
      refine r_gunl (xs := [.int c.1, .int c.2]) (sq (sj _ _ ht)) rfl ?_
      fail "ww"
      refine ⟨rfl, ?_⟩
      fail "ww"
      refine new_ fun u H5 nu s5 hu => ?_
      exact cmi_put p0 nD hg (by omega) s5 nu hu
    · have hlen := hR.len
      unfold rowsC at hlen
      rw [List.length_map] at hlen
      obtain ⟨es, hD, s3, _, hE⟩ := cmi_end p (by rw [List.length_map, hlen])
      exact q _ D es (s.trans s3) (s.free nD) hD hE
def spe_law_kind (K : PySem.W.Frag) (T : Txt K mg) : Addr → Value → Option Addr → Sp := fun a cls d vs H Q _ => ∃ (D dd : Addr) (j : Nat) (y : V), vs = [.ref a] ∧ cls = .ref D ∧ d = some dd ∧ H dd = some (.xd [(("value" : Str), y)]) ∧ Kd7 K T D j ∧
  ∀ (H' : Hp), Same H H' → Q (.str (wordsC.getD j "")) H'
theorem okE_law_kind (T : Txt K mg) : FnE P w K mg base 1 T.law_kind_a T.law_kind_d ["caught"] (spe_law_kind K T) := by
  refine okE T.law_kind_F sc_law_kind (fun a cls d vs H Q E h => ?_) (fun cdv A ou t H vs Q E q cls d hG hr cg h => ?_)
  · obtain ⟨_, _, _, _, rfl, _⟩ := h; rfl
  have nd := sc_law_kind.nd
  obtain ⟨D, dd, j, y, rfl, rfl, rfl, hdd, kd, k⟩ := h
  refine ⟨_, (pss_cons (sset 1 nd (pe_lst (pa_cons (pe_callB (call_isX cg) (by rfl) T.m_isinstance (by decide +kernel) (pa_cons (pv 0) (pa_cons (pe_glob (v := .ref T.InvalidSize_a) (by rfl) T.InvalidSize_g rfl) pa_nil))) (pa_cons (pe_callB (call_isX cg) (by rfl) T.m_isinstance (by decide +kernel) (pa_cons (pv 0) (pa_cons (pe_glob (v := .ref T.InvalidCommand_a) (by rfl) T.InvalidCommand_g rfl) pa_nil))) (pa_cons (pe_callB (call_isX cg) (by rfl) T.m_isinstance (by decide +kernel) (pa_cons (pv 0) (pa_cons (pe_glob (v := .ref T.InvalidRow_a) (by rfl) T.InvalidRow_g rfl) pa_nil))) pa_nil)))))
      (pss_cons (sset 1 nd (pe_op op_cat (pv 1) (pe_lst (pa_cons (pe_callB (call_isX cg) (by rfl) T.m_isinstance (by decide +kernel) (pa_cons (pv 0) (pa_cons (pe_glob (v := .ref T.InvalidNumber_a) (by rfl) T.InvalidNumber_g rfl) pa_nil))) (pa_cons (pe_callB (call_isX cg) (by rfl) T.m_isinstance (by decide +kernel) (pa_cons (pv 0) (pa_cons (pe_glob (v := .ref T.UnequalSizes_a) (by rfl) T.UnequalSizes_g rfl) pa_nil))) pa_nil)))))
      (pss_cons (sset 1 nd (pe_op op_cat (pv 1) (pe_lst (pa_cons (pe_callB (call_isX cg) (by rfl) T.m_isinstance (by decide +kernel) (pa_cons (pv 0) (pa_cons (pe_glob (v := .ref T.NothingToUndo_a) (by rfl) T.NothingToUndo_g rfl) pa_nil))) (pa_cons (pe_callB (call_isX cg) (by rfl) T.m_isinstance (by decide +kernel) (pa_cons (pv 0) (pa_cons (pe_glob (v := .ref T.Unreadable_a) (by rfl) T.Unreadable_g rfl) pa_nil))) pa_nil)))))
      (pss_cons (ps_if (PW.pt (pw_or (pt_not (pt_val (pe_callB (call_isX cg) (by rfl) T.m_isinstance (by decide +kernel) (pa_cons (pv 0) (pa_cons (pe_glob (v := .ref T.SortError_a) (by rfl) T.SortError_g rfl) pa_nil))))) (pw_or (pt_not (pt_val (pe_callB (call_isX cg) (by rfl) T.m_isinstance (by decide +kernel) (pa_cons (pv 0) (pa_cons (pe_bltn (v := .ty "ValueError") (u := .type "ValueError") (by rfl) T.m_ValueError (by decide +kernel) rfl) pa_nil))))) (pw_or1 (pt_cmpR op_ne (pe_bmK K PySem.F.plainAttrs_list PySem.F.slot_list_count PySem.F.type_list_count (lcountF K) (pv 1) (pa_cons pe_bl pa_nil)) pe_int (nomark _))))))
        (pss_one (ps_ret pe_str))
        pss_nil)
      (pss_one (ps_ret (pe_ix (ix_listK K) (pe_lst (pa_cons pe_str (pa_cons pe_str (pa_cons pe_str (pa_cons pe_str (pa_cons pe_str (pa_cons pe_str (pa_cons pe_str pa_nil)))))))) (pe_bmK K PySem.F.plainAttrs_list PySem.F.slot_list_index PySem.F.type_list_index (lindexK K) (pv 1) (pa_cons pe_bl pa_nil)) (fun _ _ => rfl)))))))), ?_⟩
  fail "ww"
  refine r_isR hdd kd.x kd.k0 ?_
  fail "ww"
  refine r_isR hdd kd.x kd.k1 ?_
  fail "ww"
  refine r_isR hdd kd.x kd.k2 ?_
  fail "ww"
  refine new_ fun t0 H1 n1 s1 g0 => ?_
  fail "ww"
  refine r_isR (s1 _ _ hdd) kd.x kd.k3 ?_
  fail "ww"
  refine r_isR (s1 _ _ hdd) kd.x kd.k4 ?_
  fail "ww"
  refine new_ fun t1 H2 n2 s2 g1 => ?_
  fail "ww"
  refine n_cat (s2 _ _ g0) g1 (size_le (by simp)) (new_ fun t2 H3 n3 s3 g2 => ?_)
  have u3 : Same H H3 := s1.trans (s2.trans s3)
  clear s1 s2 s3 g0 g1 n1 n2 n3
  fail "ww"
  refine r_isR (u3 _ _ hdd) kd.x kd.k5 ?_
  fail "ww"
  refine r_isR (u3 _ _ hdd) kd.x kd.k6 ?_
  fail "ww"
  refine new_ fun t3 H4 n4 s4 g3 => ?_
  fail "ww"
  refine n_cat (s4 _ _ g2) g3 (size_le (by simp)) (new_ fun t4 H5 n5 s5 g4 => ?_)
  have u5 : Same H H5 := u3.trans (s4.trans s5)
  have g5 : H5 t4 = some (.lst ((flg7 j).map V.bl)) := g4
  clear s4 s5 g2 g3 n4 n5 u3 g4
  fail "ww"
  refine r_isR (u5 _ _ hdd) kd.x kd.s ?_
  fail "ww"
  refine r_isT (u5 _ _ hdd) kd.x kd.v ?_
  fail "ww"
  refine ⟨t4, _, .bl true, rfl, rfl, sq g5, rfl, rfl, ?_⟩
  rw [flg7_one j kd.lt]
  fail "ww"
  refine r_itNF rfl ?_
  fail "ww"
  refine new_ fun t6 H6 n6 s6 g6 => ?_
  fail "ww"
  have g7 := s6 _ _ g5
  refine ⟨t4, _, .bl true, j, .bl true, rfl, rfl, sq g7, rfl, rfl, flg7_at j kd.lt, rfl, flg7_no kd.lt, ?_⟩
  refine r_ixL (sq g6) (show atI _ _ = some (V.str (wordsC.getD j "")) from ?_) ?_
  · have := kd.lt
    have h7 : j = 0 ∨ j = 1 ∨ j = 2 ∨ j = 3 ∨ j = 4 ∨ j = 5 ∨ j = 6 := by omega
    rcases h7 with e | e | e | e | e | e | e <;> subst e <;> rfl
  · fail "ww"
    exact k _ (u5.trans s6)
theorem kd7_size {K : PySem.W.Frag} (T : Txt K mg) : Kd7 K T T.InvalidSize_a 0 :=
  ⟨T.InvalidSize_is_InvalidSize, T.InvalidSize_is_InvalidCommand, T.InvalidSize_is_InvalidRow, T.InvalidSize_is_InvalidNumber, T.InvalidSize_is_UnequalSizes, T.InvalidSize_is_NothingToUndo, T.InvalidSize_is_Unreadable, T.InvalidSize_is_SortError, T.InvalidSize_is_ValueError, T.InvalidSize_X, T.InvalidSize_E.xf, T.InvalidSize_E.no, by decide⟩
theorem kd7_command {K : PySem.W.Frag} (T : Txt K mg) : Kd7 K T T.InvalidCommand_a 1 :=
  ⟨T.InvalidCommand_is_InvalidSize, T.InvalidCommand_is_InvalidCommand, T.InvalidCommand_is_InvalidRow, T.InvalidCommand_is_InvalidNumber, T.InvalidCommand_is_UnequalSizes, T.InvalidCommand_is_NothingToUndo, T.InvalidCommand_is_Unreadable, T.InvalidCommand_is_SortError, T.InvalidCommand_is_ValueError, T.InvalidCommand_X, T.InvalidCommand_E.xf, T.InvalidCommand_E.no, by decide⟩
def sp_block_lengths (K : PySem.W.Frag) : Sp := fun vs H Q _ => ∃ (n : Nat) (b : Addr) (ts : List Addr) (cs : List Cmd), vs = [.int n, .ref b] ∧ 1 ≤ n ∧ n ≤ 1000 ∧ SqL K H b (ts.map V.ref) ∧ Cm H ts cs ∧ Fits n cs ∧
  ∀ (H' : Hp) (p : Addr), Same H H' → H p = none → H' p = some (.lst (((lenM n cs).map fun (k : Nat) => (k : Int)).map V.int)) → Q (.ref p) H'
theorem ok_block_lengths (T : Txt K mg) : FnG P w K mg base CX0 2 T.block_lengths_a T.block_lengths_d ["size", "commands"] (sp_block_lengths K) := by
  refine okG T.block_lengths_F sc_block_lengths (fun vs H Q E h => ?_) (fun cdv A ou t H vs Q E hG hr h => ?_)
  · obtain ⟨_, _, _, _, rfl, _⟩ := h; rfl
  have nd := sc_block_lengths.nd
  obtain ⟨n, b, ts, cs, rfl, hn1, hn, hB, hC, hF, q⟩ := h
  refine ⟨_, (pss_one (ps_ret (pe_lc (own := [("first", 2), ("last", 3)]) (hc := rfl) (hN := nd) (hi := (pi_listK K (pe_callG (ok_linked_blocks T) hG (hr.mono (by decide)) (by rfl) T.linked_blocks_g T.linked_blocks_F.kp T.linked_blocks_b .nil pass0 (pa_cons (pv 0) (pa_cons (pv 1) pa_nil))))) (ok := blkOk_by (by rfl)) (hg := fun _ _ _ _ _ => (pg_tupK K 2 rfl (pgs_cons (gset 2 nd) (pgs_cons (gset 3 nd) pgs_nil)))) (ht := (fun _ _ _ _ _ => pts_nil)) (he := fun _ _ _ _ _ => (pe_op op_add (pe_op op_sub (pv 3) (pv 2)) pe_int))))), ?_⟩
  fail "ww"
  refine ⟨n, b, ts, cs, rfl, hn, hB, hC, hF, fun H1 p us s1 np hp hU => ?_⟩
  have hle := (tile_le (blkM_ok hF hn1).1).2
  have hll := lenM_sum hF hn1
  have hbl : (blkM n cs).length ≤ n := by
    have : ∀ l : List Cmd, l.length ≤ (l.map fun c => c.2 - c.1 + 1).sum := fun l => by
      induction l with
      | nil => exact Nat.le_refl _
      | cons c r ih => rw [List.map_cons, List.sum_cons, List.length_cons]; omega
    have := this (blkM n cs)
    unfold lenM at hll
    omega
  fail "ww"
  intro D nD
  refine lc_it (walk_list (xs := us.map V.ref)) (fun j Hj => Same H1 Hj ∧ Hj D = some (.lst ((((blkM n cs).take j).map fun c => ((c.2 - c.1 + 1 : Nat) : Int)).map V.int))) ⟨same_new nD, upd_same⟩ (fun j Hj _ pp => sq (pp.1 _ _ hp)) (fun j x Hj Hj' hj pp y => ?_) (fun H2 pp => ?_)
  · obtain ⟨rfl, ey⟩ := y
    have hj' : j < (blkM n cs).length := by rw [← hU.len]; simpa using hj
    obtain ⟨t0, et, ht⟩ := hU.idx hj'
    rw [List.getElem?_map, et] at ey
    cases ey
    have hc := hle _ (List.getElem_mem hj')
    rw [take_one hj', List.map_append, List.map_append, List.map_singleton, List.map_singleton]
    generalize (blkM n cs)[j] = c at ht hc ⊢
    refine r_gtup (sqT (pp.1 _ _ ht)) rfl ?_
    fail "ww"
    refine ⟨rfl, ?_⟩
    fail "ww"
    rw [show ((c.2 : Nat) : Int) - ((c.1 : Nat) : Int) + 1 = ((c.2 - c.1 + 1 : Nat) : Int) by omega]
    exact ⟨_, pp.2, by rw [List.length_map, List.length_map, List.length_take]; exact size_lt (by omega), same_old pp.1 nD, by rw [upd_same]⟩
  · rw [List.take_of_length_le (by rw [List.length_map, hU.len]; exact Nat.le_refl _)] at pp
    refine q _ D (s1.trans pp.1) (s1.free nD) ?_
    rw [pp.2]
    unfold lenM
    rw [List.map_map (g := fun (k : Nat) => (k : Int))]; rfl
def sp_law_steps (K : PySem.W.Frag) : Sp := fun vs H Q _ => ∃ (r : Addr) (wide most m : Nat), vs = [.ref r, .int wide, .int most] ∧ Pol H r m ∧ 1 ≤ wide ∧ wide ≤ 1000 ∧ most ≤ 10000 ∧ m < 2 ^ 50 ∧
  ∀ (H' : Hp) (p : Addr) (ts : List Addr) (cs : List Cmd), Sx r H H' → H p = none → Pol H' r (m + 3 + 4 * most) → H' p = some (.lst (ts.map V.ref)) → Cm H' ts cs → Fits wide cs → cs.length ≤ most → Q (.ref p) H'
theorem ok_law_steps (T : Txt K mg) : FnG P w K mg base CX0 2 T.law_steps_a T.law_steps_d ["pool", "wide", "most"] (sp_law_steps K) := by
  refine okG T.law_steps_F sc_law_steps (fun vs H Q E h => ?_) (fun cdv A ou t H vs Q E hG hr h => ?_)
  · obtain ⟨_, _, _, _, rfl, _⟩ := h; rfl
  have nd := sc_law_steps.nd
  obtain ⟨r, wide, most, m, rfl, hR, hw1, hw, hmost, hm, q⟩ := h
  refine ⟨_, (pss_cons (ps_par (i := 3) (j := 4) (by rfl) nd rfl rfl (by decide) rfl rfl (pa_cons (pe_callG (ok_law_draw T) hG (hr.mono (by decide)) (by rfl) T.law_draw_g T.law_draw_F.kp T.law_draw_b .nil pass0 (pa_cons (pv 0) (pa_cons pe_int pa_nil))) (pa_cons (pe_lst pa_nil) pa_nil)) (by rfl))
      (pss_cons (sset 5 nd (pe_op op_add pe_int (pe_callG (ok_law_draw T) hG (hr.mono (by decide)) (by rfl) T.law_draw_g T.law_draw_F.kp T.law_draw_b .nil pass0 (pa_cons (pv 0) (pa_cons (pv 1) pa_nil)))))
      (pss_cons (ps_for PassesOwn.never rfl (pi_range1 (by rfl) T.m_range (pa_cons (pe_callG (ok_law_draw T) hG (hr.mono (by decide)) (by rfl) T.law_draw_g T.law_draw_F.kp T.law_draw_b .nil pass0 (pa_cons (pv 0) (pa_cons (pe_op op_add (pv 2) pe_int) pa_nil))) pa_nil)) (gset 6 nd)
        (pss_cons (sset 7 nd (pe_op op_add pe_int (pe_callG (ok_law_draw T) hG (hr.mono (by decide)) (by rfl) T.law_draw_g T.law_draw_F.kp T.law_draw_b .nil pass0 (pa_cons (pv 0) (pa_cons (pv 1) pa_nil)))))
      (pss_cons (sset 8 nd (pe_callB (call_min2 rfl) (by rfl) T.m_min (by decide +kernel) (pa_cons (pv 1) (pa_cons (pe_op op_add (pv 7) (pe_ix (ix_listK K) (pe_lst (pa_cons (pe_callG (ok_law_draw T) hG (hr.mono (by decide)) (by rfl) T.law_draw_g T.law_draw_F.kp T.law_draw_b .nil pass0 (pa_cons (pv 0) (pa_cons (pv 1) pa_nil))) (pa_cons (pe_callG (ok_law_draw T) hG (hr.mono (by decide)) (by rfl) T.law_draw_g T.law_draw_F.kp T.law_draw_b .nil pass0 (pa_cons (pv 0) (pa_cons pe_int pa_nil))) (pa_cons pe_int (pa_cons (pv 1) (pa_cons (pe_callG (ok_law_draw T) hG (hr.mono (by decide)) (by rfl) T.law_draw_g T.law_draw_F.kp T.law_draw_b .nil pass0 (pa_cons (pv 0) (pa_cons pe_int pa_nil))) pa_nil)))))) (pv 3) (fun _ _ => rfl))) pa_nil))))
      (C8.pss_cut (ps_if (pt_cmpR op_eq (pv 3) pe_int (nomark _))
        (pss_one (ps_asg (pe_ix (ix_listK K) (pe_lst (pa_cons (pe_tup (pa_cons pe_int (pa_cons (pe_callB (call_min2 rfl) (by rfl) T.m_min (by decide +kernel) (pa_cons (pv 1) (pa_cons (pe_op op_add (pv 5) pe_int) pa_nil))) pa_nil))) (pa_cons (pe_tup (pa_cons (pv 5) (pa_cons (pv 1) pa_nil))) pa_nil))) (pe_op op_mod (pv 6) pe_int) (fun _ _ => rfl)) (pg_tupK K 2 rfl (pgs_cons (gset 7 nd) (pgs_cons (gset 8 nd) pgs_nil)))))
        pss_nil)
      (C8.pss_cut (ps_if (PW.pt (pw_and (pt_cmpR op_eq (pv 3) pe_int (nomark _)) (pw_and1 (pt_chain op_le op_lt (pv 7) (pv 5) (pv 8)))))
        (pss_one (sset 7 nd (pv 8)))
        pss_nil)
      (pss_one (ps_expr (pe_bmK K PySem.F.plainAttrs_list PySem.F.slot_list_append PySem.F.type_list_append mt_append (pv 4) (pa_cons (pe_tup (pa_cons (pv 7) (pa_cons (pv 8) pa_nil))) pa_nil)))))))))
      (pss_one (ps_ret (pv 4)))))), ?_⟩
  fail "ww"
  refine ⟨r, 5, m, rfl, hR, by omega, by decide, by decide, fun H1 w0 hw00 hw01 s1 hR1 => ?_⟩
  fail "ww"
  refine new_ fun p H2 np s2 hp => ?_
  fail "ww"
  have hpr : p ≠ r := by fail "kpn"
  refine ⟨r, wide, m + 1, rfl, by fail "kp", by omega, by omega, by omega, fun H3 c0 hc0 hc1 s3 hR3 => ?_⟩
  obtain ⟨c, rfl⟩ := Int.eq_ofNat_of_zero_le hc0
  fail "ww"
  refine ⟨r, _, m + 2, rfl, hR3, by omega, by omega, by omega, fun H4 n0 hn0 hn1 s4 hR4 => ?_⟩
  obtain ⟨n, rfl⟩ := Int.eq_ofNat_of_zero_le hn0
  fail "ww"
  refine ⟨by omega, by omega, ?_⟩
  have hp0 : H p = none := by fail "kpz"
  refine forF walk_range (fun i σ' H' => ∃ (ts : List Addr) (cs : List Cmd) (y6 y7 y8 : Option V), σ' = [some (.ref r), some (.int wide), some (.int most), some (.int w0), some (.ref p), some (.int (1 + (c : Int))), y6, y7, y8] ∧ cs.length = i ∧ H' p = some (.lst (ts.map V.ref)) ∧ Cm H' ts cs ∧ Fits wide cs ∧ Sx r H H' ∧ Pol H' r (m + 3 + 4 * i))
   ⟨[], [], none, none, none, rfl, rfl, (by fail "kp" : H4 p = some (.lst [])), Cm.nil, (fun c hc => by cases hc), by fail "kp", hR4⟩ (fun _ _ _ _ _ => trivial) (fun i σ' H' hi p' => ?_) (fun σ' H' p' => ?_)
  · clear s1 s2 s3 s4 hR1 hR3 hR4 hp np
    obtain ⟨ts, cs, y6, y7, y8, rfl, hlen, hP, hC, hF, sH, hRi⟩ := p'
    have hin : i < n := by simpa using hi
    fail "ww"
    refine ⟨r, wide, _, rfl, hRi, by omega, by omega, by omega, fun H5 b0 hb0 hb1 s5 hR5 => ?_⟩
    obtain ⟨b, rfl⟩ := Int.eq_ofNat_of_zero_le hb0
    fail "ww"
    refine ⟨r, wide, _, rfl, hR5, by omega, by omega, by omega, fun H6 d1 hd10 hd11 s6 hR6 => ?_⟩
    fail "ww"
    refine ⟨r, 4, _, rfl, hR6, by omega, by decide, by decide, fun H7 d2 hd20 hd21 s7 hR7 => ?_⟩
    fail "ww"
    refine ⟨r, 3, _, rfl, hR7, by omega, by decide, by decide, fun H8 d3 hd30 hd31 s8 hR8 => ?_⟩
    fail "ww"
    refine new_ fun lx H9 nx s9 hx => ?_
    obtain ⟨L, hat, hL0⟩ : ∃ L : Int, atI [V.int d1, V.int d2, V.int 1, V.int (wide : Int), V.int d3] w0 = some (.int L) ∧ 0 ≤ L := by
      have : w0 = 0 ∨ w0 = 1 ∨ w0 = 2 ∨ w0 = 3 ∨ w0 = 4 := by omega
      rcases this with h | h | h | h | h <;> subst h
      · exact ⟨_, rfl, hd10⟩
      · exact ⟨_, rfl, hd20⟩
      · exact ⟨_, rfl, by omega⟩
      · exact ⟨_, rfl, by omega⟩
      · exact ⟨_, rfl, hd30⟩
    fail "ww"
    refine r_ixL (sq hx) hat ?_
    fail "ww"
    obtain ⟨E, hE, hE1, hE2⟩ : ∃ E : Nat, (if 1 + (b : Int) + L < (wide : Int) then 1 + (b : Int) + L else (wide : Int)) = (E : Int) ∧ 1 + b ≤ E ∧ E ≤ wide := by
      split
      · obtain ⟨l, rfl⟩ := Int.eq_ofNat_of_zero_le hL0
        exact ⟨1 + b + l, by omega, by omega, by omega⟩
      · exact ⟨wide, rfl, by omega, by omega⟩
    rw [hE]
    have hP9 : H9 p = some (.lst (ts.map V.ref)) := by fail "kp"
    have hC9 : Cm H9 ts cs := by fail "kp"
    have sH9 : Sx r H H9 := by fail "kp"
    have hR9 : Pol H9 r (m + 3 + 4 * (i + 1)) := (hR8.same s9).le (by omega)
    clear s5 s6 s7 s8 s9 hR5 hR6 hR7 hR8 hx nx hP hC sH hRi
    refine r_cut (fun σ' H' => ∃ (d : Cmd) (_u : Unit), σ' = [some (.ref r), some (.int wide), some (.int most), some (.int w0), some (.ref p), some (.int (1 + (c : Int))), some (.int (0 + (i : Int))), some (.int (d.1 : Nat)), some (.int (d.2 : Nat))] ∧ (1 ≤ d.1 ∧ d.1 ≤ d.2 ∧ d.2 ≤ wide) ∧ Same H9 H') ?_ (fun σ' H' p' => ?_)
    · fail "ww"
      refine r_dec (fun h3 => ?_) (fun h3 => ?_)
      · fail "ww"
        refine new_ fun t1 G1 m1 e1 g1 => ?_
        fail "ww"
        refine new_ fun t2 G2 m2 e2 g2 => ?_
        fail "ww"
        refine new_ fun l3 G3 m3 e3 g3 => ?_
        fail "ww"
        have hmod : (0 + (i : Int)) % 2 = 0 ∨ (0 + (i : Int)) % 2 = 1 := by omega
        rcases hmod with hh | hh <;> rw [hh]
        · refine r_ixL (sq g3) (v := .ref t1) rfl ?_
          obtain ⟨M, hM, hM1, hM2⟩ : ∃ M : Nat, (if 1 + (c : Int) + 1 < (wide : Int) then 1 + (c : Int) + 1 else (wide : Int)) = (M : Int) ∧ 1 ≤ M ∧ M ≤ wide := by
            split
            · exact ⟨1 + c + 1, by omega, by omega, by omega⟩
            · exact ⟨wide, rfl, by omega, by omega⟩
          rw [hM] at g1
          fail "ww"
          exact ⟨(1, M), (), rfl, ⟨Nat.le_refl _, hM1, hM2⟩, by fail "kp"⟩
        · refine r_ixL (sq g3) (v := .ref t2) rfl ?_
          fail "ww"
          exact ⟨(1 + c, wide), (), by simp, ⟨by show 1 ≤ 1 + c; omega, by show 1 + c ≤ wide; omega, Nat.le_refl _⟩, by fail "kp"⟩
      · fail "ww"
        exact ⟨(1 + b, E), (), by simp, ⟨by show 1 ≤ 1 + b; omega, hE1, hE2⟩, Same.refl _⟩
    · obtain ⟨d, _, rfl, hd, sd⟩ := p'
      refine r_cut (fun σ' H' => ∃ (d : Cmd) (_u : Unit), σ' = [some (.ref r), some (.int wide), some (.int most), some (.int w0), some (.ref p), some (.int (1 + (c : Int))), some (.int (0 + (i : Int))), some (.int (d.1 : Nat)), some (.int (d.2 : Nat))] ∧ (1 ≤ d.1 ∧ d.1 ≤ d.2 ∧ d.2 ≤ wide) ∧ Same H9 H') ?_ (fun σ' H' p' => ?_)
      · fail "ww"
        refine r_dec (fun h4 => ?_) (fun h4 => ?_)
        · fail "ww"
          refine r_dec (fun h5 => ?_) (fun h5 => ?_)
          · fail "ww"
            refine r_dec (fun h6 => ?_) (fun h6 => ?_)
            · fail "ww"
              exact ⟨(d.2, d.2), (), rfl, ⟨by show 1 ≤ d.2; omega, Nat.le_refl _, hd.2.2⟩, sd⟩
            · fail "ww"
              exact ⟨d, (), rfl, hd, sd⟩
          · fail "ww"
            exact ⟨d, (), rfl, hd, sd⟩
        · fail "ww"
          exact ⟨d, (), rfl, hd, sd⟩
      · obtain ⟨d, _, rfl, hd, sd⟩ := p'
        fail "ww"
        refine new_ fun t1 G1 m1 e1 g1 => ?_
        have hPG : G1 p = some (.lst (ts.map V.ref)) := by fail "kp"
        fail "ww"
        refine r_append hPG (by rw [List.length_map, hC9.len]; exact size_lt (by omega)) ?_
        fail "ww"
        refine ⟨ts ++ [t1], cs ++ [d], _, _, _, rfl, by rw [List.length_append, hlen]; rfl, by rw [upd_same, List.map_append]; rfl, ?_, ?_, Sx.old (by fail "kp") hp0, (Pol.other (by fail "kp") hpr)⟩
        · have : Cm G1 (ts ++ [t1]) (cs ++ [d]) := Cm.snoc (by fail "kp") g1
          exact this.put hPG
        · intro e he
          rcases List.mem_append.mp he with z | z
          · exact hF e z
          · rw [List.mem_singleton.mp z]; exact hd
  · obtain ⟨ts, cs, y6, y7, y8, rfl, hlen, hP, hC, hF, sH, hRi⟩ := p'
    rw [Int.toNat_natCast] at hlen hRi
    fail "ww"
    exact q _ _ ts cs sH hp0 (hRi.le (by omega)) hP hC hF (by omega)
def sp_law_line (K : PySem.W.Frag) : Sp := fun vs H Q _ => ∃ (r : Addr) (n m : Nat), vs = [.ref r, .int n] ∧ Pol H r m ∧ n ≤ 1000 ∧ m < 2 ^ 50 ∧
  ∀ (H' : Hp) (p : Addr) (l : List Int), Sx r H H' → H p = none → Pol H' r (m + n) → H' p = some (.lst (l.map V.int)) → l.Perm (ascN n) → Q (.ref p) H'
theorem ok_law_line (T : Txt K mg) : FnG P w K mg base CX0 2 T.law_line_a T.law_line_d ["pool", "wide"] (sp_law_line K) := by
  refine okG T.law_line_F sc_law_line (fun vs H Q E h => ?_) (fun cdv A ou t H vs Q E hG hr h => ?_)
  · obtain ⟨_, _, _, rfl, _⟩ := h; rfl
  have nd := sc_law_line.nd
  obtain ⟨r, n, m, rfl, hR, hn, hm, q⟩ := h
  refine ⟨_, (pss_cons (sset 2 nd (pe_listRg rfl (by rfl) T.m_list (prg_2 (by rfl) T.m_range pe_int (pe_op op_add (pv 1) pe_int))))
      (pss_one (ps_ret (pe_lc (own := [("spot", 3)]) (hc := rfl) (hN := nd) (hi := (pi_range1 (by rfl) T.m_range (pa_cons (pv 1) pa_nil))) (ok := blkOk_by (by rfl)) (hg := fun _ _ _ _ _ => (gset 3 nd)) (ht := (fun _ _ _ _ _ => pts_nil)) (he := fun _ _ _ _ _ => (pe_bmK K PySem.F.plainAttrs_list PySem.F.slot_list_pop PySem.F.type_list_pop mt_popAt (pv 2) (pa_cons (pe_callG (ok_law_draw T) hG (hr.mono (by decide)) (by rfl) T.law_draw_g T.law_draw_F.kp T.law_draw_b .nil pass0 (pa_cons (pv 0) (pa_cons (pe_callB (lenK K) (by rfl) T.m_len PySem.boot_len (pa_cons (pv 2) pa_nil)) pa_nil))) pa_nil))))))), ?_⟩
  fail "ww"
  refine ⟨RgOk.of_le (by omega) (by omega) (by omega) (by omega), new_map (rg_upTo n) (new_ fun l0 H1 nl s1 hl0 => ?_)⟩
  fail "ww"
  have hlr := hR.ne nl
  have hR1 := hR.same s1
  refine ⟨by omega, by omega, fun D nD => ?_⟩
  have hDr := hR1.ne nD
  have hDl : l0 ≠ D := ne_of_none hl0 nD
  have hD0 : H D = none := s1.free nD
  refine lc_it walk_range (fun i Hh => ∃ l1 l2 : List Int, l2.length = i ∧ l1.length + l2.length = n ∧ (l1 ++ l2).Perm (ascN n) ∧ Hh l0 = some (.lst (l1.map V.int)) ∧ Hh D = some (.lst (l2.map V.int)) ∧ Sx r H Hh ∧ Pol Hh r (m + i)) ?_ (fun _ _ _ _ => trivial) (fun i x Hh Hh' hi p y => ?_) (fun Hh p => ?_)
  · exact ⟨ascN n, [], rfl, by simp [ascN], by rw [List.append_nil], upd_to hDl hl0, upd_same, (sx_of s1).same (same_new nD), hR1.same (same_new nD)⟩
  · obtain ⟨rfl, ex⟩ := y
    obtain ⟨l1, l2, hl2, hlen, hperm, h1, h2, sx, hRh⟩ := p
    have hi' : i < n := by simpa using hi
    fail "ww"
    refine ⟨rfl, ?_⟩
    fail "ww"
    rw [List.length_map]
    refine ⟨r, _, m + i, rfl, hRh, by omega, by omega, by omega, fun H5 d hd0 hd1 s5 hR5 => ?_⟩
    obtain ⟨k, rfl⟩ := Int.eq_ofNat_of_zero_le hd0
    have hk : k < l1.length := by omega
    have h15 := s5 _ _ hlr h1
    have h25 := s5 _ _ hDr h2
    fail "ww"
    refine r_popAt (k := k) h15 rfl (y := .int l1[k]) (by simp [hk]) (by omega) ?_
    have h26 : (upd H5 l0 (.lst ((l1.map V.int).eraseIdx k))) D = some (.lst (l2.map V.int)) := upd_to hDl.symm h25
    have hl : (l1.eraseIdx k).length = l1.length - 1 := List.length_eraseIdx_of_lt hk
    have sx2 := sx.trans s5
    have e3 : ∀ b o, b ≠ r → b ≠ l0 → b ≠ D → H5 b = some o → (upd (upd H5 l0 (.lst ((l1.map V.int).eraseIdx k))) D (.lst (l2.map V.int ++ [.int l1[k]]))) b = some o := fun b o _ h2 h3 e => upd_to h3 (upd_to h2 e)
    refine ⟨_, h26, by rw [List.length_map]; exact size_lt (by omega), l1.eraseIdx k, l2 ++ [l1[k]], by rw [List.length_append, hl2]; rfl, by rw [List.length_append, hl, List.length_singleton]; omega, ?_, ?_, ?_, ?_, ?_⟩
    · refine List.Perm.trans ?_ hperm
      have e := erase_permI l1 k hk
      refine List.Perm.trans ?_ (e.append_right l2)
      rw [List.cons_append]
      refine List.Perm.trans (List.Perm.append_left _ (List.perm_append_comm)) ?_
      exact List.perm_middle
    · rw [← erase_mapI]
      exact upd_to hDl (upd_same.trans rfl)
    · rw [upd_same, List.map_append]; rfl
    · exact fun b o hb e => upd_to (ne_of_none e hD0) (upd_to (ne_of_none e nl) (sx2 b o hb e))
    · exact (hR5.other hlr).other hDr
  · obtain ⟨l1, l2, hl2, hlen, hperm, h1, h2, sx, hRh⟩ := p
    have e : l1 = [] := List.length_eq_zero_iff.mp (by have : l2.length = n := by simpa using hl2
                                                       omega)
    subst e
    fail "ww"
    exact q _ D l2 sx hD0 (hRh.le (by have : l2.length = n := by simpa using hl2
                                      omega)) h2 hperm
def sp_law_bad_steps (K : PySem.W.Frag) : Sp := fun vs H Q _ => ∃ (r b : Addr) (wide m : Nat) (tc : List Addr × List Cmd), vs = [.ref r, .int wide, .ref b] ∧ Pol H r m ∧ m < 2 ^ 50 ∧ 1 ≤ wide ∧ wide ≤ 1000 ∧ H b = some (.lst (tc.1.map V.ref)) ∧ b ≠ r ∧ Cm H tc.1 tc.2 ∧ Fits wide tc.2 ∧ tc.2.length ≤ 1000 ∧
  ∀ (H' : Hp) (p f : Addr) (ts : List Addr) (ws : List Pr) (i : Nat), Sx r H H' → H p = none → H f = none → Pol H' r (m + 7) → H' p = some (.lst [.ref f, .int (i : Int)]) → H' f = some (.lst (ts.map V.ref)) → Cw H' ts ws → eW wide ws = some i → ws.length ≤ tc.2.length + 2 → (∀ c ∈ ws, NtC c) → Q (.ref p) H'
theorem ok_law_bad_steps (T : Txt K mg) : FnG P w K mg base CX0 2 T.law_bad_steps_a T.law_bad_steps_d ["pool", "wide", "steps_here"] (sp_law_bad_steps K) := by
  refine okG T.law_bad_steps_F sc_law_bad_steps (fun vs H Q E h => ?_) (fun cdv A ou t H vs Q E hG hr h => ?_)
  · obtain ⟨_, _, _, _, _, rfl, _⟩ := h; rfl
  have nd := sc_law_bad_steps.nd
  obtain ⟨r, b, wide, m, ⟨ts, cs⟩, rfl, hR, hm, hw1, hw2, hB, hbr, hC, hF, hl, k⟩ := h
  refine ⟨_, (pss_cons (sset 3 nd (pe_callTy (listK K) (by rfl) T.m_list (by decide +kernel) (pa_cons (pv 2) pa_nil)))
      (pss_cons (ps_for PassesOwn.never rfl (pi_range1 (by rfl) T.m_range (pa_cons (pe_op op_add pe_int (pe_callG (ok_law_draw T) hG (hr.mono (by decide)) (by rfl) T.law_draw_g T.law_draw_F.kp T.law_draw_b .nil pass0 (pa_cons (pv 0) (pa_cons pe_int pa_nil)))) pa_nil)) (gset 4 nd)
        (pss_cons (sset 5 nd (pe_lst (pa_cons (pe_tup (pa_cons pe_int (pa_cons pe_int pa_nil))) (pa_cons (pe_tup (pa_cons pe_int (pa_cons (pe_op op_add (pv 1) pe_int) pa_nil))) (pa_cons (pe_tup (pa_cons pe_int (pa_cons pe_int pa_nil))) (pa_cons (pe_tup (pa_cons (pe_un un_neg pe_int) (pa_cons pe_int pa_nil))) (pa_cons (pe_tup (pa_cons (pe_op op_add (pv 1) pe_int) (pa_cons (pe_op op_add (pv 1) pe_int) pa_nil))) (pa_cons (pe_tup (pa_cons pe_int (pa_cons pe_int pa_nil))) (pa_cons (pe_tup (pa_cons pe_int (pa_cons pe_int pa_nil))) (pa_cons (pe_tup (pa_cons pe_int (pa_cons (pe_op op_powW pe_int pe_int) pa_nil))) pa_nil))))))))))
      (pss_cons (ps_expr (pe_bmK K PySem.F.plainAttrs_list PySem.F.slot_list_append PySem.F.type_list_append mt_append (pv 5) (pa_cons (pe_tup (pa_cons (pe_op op_sub pe_int (pe_callG (ok_law_draw T) hG (hr.mono (by decide)) (by rfl) T.law_draw_g T.law_draw_F.kp T.law_draw_b .nil pass0 (pa_cons (pv 0) (pa_cons (pe_op op_powW pe_int pe_int) pa_nil)))) (pa_cons pe_int pa_nil))) pa_nil)))
      (pss_one (ps_expr (pe_bmK K PySem.F.plainAttrs_list PySem.F.slot_list_insert PySem.F.type_list_insert mt_insert (pv 3) (pa_cons (pe_callG (ok_law_draw T) hG (hr.mono (by decide)) (by rfl) T.law_draw_g T.law_draw_F.kp T.law_draw_b .nil pass0 (pa_cons (pv 0) (pa_cons (pe_op op_add (pe_callB (lenK K) (by rfl) T.m_len PySem.boot_len (pa_cons (pv 3) pa_nil)) pe_int) pa_nil))) (pa_cons (pe_ix (ix_listK K) (pv 5) (pe_callG (ok_law_draw T) hG (hr.mono (by decide)) (by rfl) T.law_draw_g T.law_draw_F.kp T.law_draw_b .nil pass0 (pa_cons (pv 0) (pa_cons pe_int pa_nil))) (fun _ _ => rfl)) pa_nil))))))))
      (pss_one (ps_ret (pe_lst (pa_cons (pv 3) (pa_cons (pe_ix (ix_listK K) (pe_lc (own := [("at", 6), ("pair", 7)]) (hc := rfl) (hN := nd) (hi := (pi_enumK K (by rfl) T.m_enumerate (pa_cons (pv 3) pa_nil))) (ok := blkOk_by (by rfl)) (hg := fun _ _ _ _ _ => (pg_tupK K 2 rfl (pgs_cons (gset 6 nd) (pgs_cons (gset 7 nd) pgs_nil)))) (ht := (fun _ _ _ _ _ => pts_one (pt_not (pt_chain3 op_le op_le op_le pe_int (pe_ix (ix_tupK K) (pv 7) pe_int (fun _ _ => rfl)) (pe_ix (ix_tupK K) (pv 7) pe_int (fun _ _ => rfl)) (pv 1))))) (he := fun _ _ _ _ _ => (pv 6))) pe_int (fun _ _ => rfl)) pa_nil))))))), ?_⟩
  fail "ww"
  refine new_ fun f H1 nf s1 hf => ?_
  have hR1 := hR.same s1
  have hfr := hR.ne nf
  fail "ww"
  refine ⟨r, 2, _, rfl, hR1, by omega, by decide, by decide, fun H2 d d0 d1 s2 hR2 => ?_⟩
  obtain ⟨e, rfl⟩ := Int.eq_ofNat_of_zero_le d0
  fail "ww"
  refine ⟨by omega, by omega, ?_⟩
  have hfb : f ≠ b := (ne_of_none hB nf).symm
  refine forF walk_range (fun j σ' H' => ∃ y4 y5 y6 y7 ts ws, σ' = [some (.ref r), some (.int (wide : Int)), some (.ref b), some (.ref f), y4, y5, y6, y7] ∧ Sx r H H' ∧ Pol H' r (m + 1 + 3 * j) ∧ H' f = some (.lst (ts.map V.ref)) ∧ Cw H' ts ws ∧ ws.length = cs.length + j ∧ (0 < j → ∃ c ∈ ws, ¬ FitW wide c) ∧ (∀ c ∈ ws, NtC c))
    ⟨none, none, none, none, ts, cs.map toW, rfl, (Sx.refl.same s1).trans s2, hR2, s2 _ _ hfr hf, ((cm_sx s2 hR1 (hC.same s1))).toCw, by rw [List.length_map]; rfl, (fun z => absurd z (Nat.lt_irrefl _)), ntC_toW hF hw2⟩ (fun _ _ _ _ _ => trivial) (fun j σ' H3 hj p => ?_) (fun σ' H3 p => ?_)
  · clear hR2 s2 hf s1 hR hC hF hB hR1
    obtain ⟨y4, y5, y6, y7, ts, ws, rfl, sx, hR, hf, hC, hwl, hbad, hnt⟩ := p
    have hj2 : j < 2 := by omega
    fail "ww"
    refine new_ fun t0 H4 n0 s0 g0 => ?_
    fail "ww"
    refine new_ fun t1 H5 n1 s1 g1 => ?_
    fail "ww"
    refine new_ fun t2 H6 n2 s2 g2 => ?_
    fail "ww"
    refine new_ fun t3 H7 n3 s3 g3 => ?_
    fail "ww"
    refine new_ fun t4 H8 n4 s4 g4 => ?_
    fail "ww"
    refine new_ fun t5 H9 n5 s5 g5 => ?_
    fail "ww"
    refine new_ fun t6 H10 n6 s6 g6 => ?_
    fail "ww"
    refine new_ fun t7 H11 n7 s7 g7 => ?_
    fail "ww"
    refine new_ fun lb H12 n8 s8 g8 => ?_
    have k8 := s8 _ _ g7
    have k7 := (s7.trans s8) _ _ g6
    have k6 := (s6.trans (s7.trans s8)) _ _ g5
    have k5 := (s5.trans (s6.trans (s7.trans s8))) _ _ g4
    have k4 := (s4.trans (s5.trans (s6.trans (s7.trans s8)))) _ _ g3
    have k3 := (s3.trans (s4.trans (s5.trans (s6.trans (s7.trans s8))))) _ _ g2
    have k2 := (s2.trans (s3.trans (s4.trans (s5.trans (s6.trans (s7.trans s8)))))) _ _ g1
    have k1 := (s1.trans (s2.trans (s3.trans (s4.trans (s5.trans (s6.trans (s7.trans s8))))))) _ _ g0
    have u := s0.trans (s1.trans (s2.trans (s3.trans (s4.trans (s5.trans (s6.trans (s7.trans s8)))))))
    have hlf : lb ≠ f := (ne_of_none (s0.trans (s1.trans (s2.trans (s3.trans (s4.trans (s5.trans (s6.trans s7)))))) _ _ hf) n8).symm
    have hlbH : H lb = none := (hR.same (s0.trans (s1.trans (s2.trans (s3.trans (s4.trans (s5.trans (s6.trans s7)))))))).free (sx.same (s0.trans (s1.trans (s2.trans (s3.trans (s4.trans (s5.trans (s6.trans s7)))))))) n8
    have sx12 := sx.same u
    have hR12 := hR.same u
    have hlr : lb ≠ r := (hR.same (s0.trans (s1.trans (s2.trans (s3.trans (s4.trans (s5.trans (s6.trans s7)))))))).ne n8
    have hf12 := u _ _ hf
    have hC12 := hC.same u
    clear s0 s1 s2 s3 s4 s5 s6 s7 s8 g0 g1 g2 g3 g4 g5 g6 g7 n0 n1 n2 n3 n4 n5 n6 n7 n8 u sx hR hf hC
    fail "ww"
    refine ⟨r, 10 ^ 29, _, rfl, hR12, by omega, by decide, by decide, fun H13 far f0 f1 s13 hR13 => ?_⟩
    have rl : ∃ xs, H12 r = some (.lst xs) := by obtain ⟨_, _, _, e, _⟩ := hR12; exact ⟨_, e⟩
    obtain ⟨rxs, hrx⟩ := rl
    have neT : ∀ {t : Addr} {xs : List V}, H12 t = some (.tup xs) → t ≠ r := fun h => ne_of h hrx (by intro z; cases z)
    have k1' := s13 _ _ (neT k1) k1
    have k2' := s13 _ _ (neT k2) k2
    have k3' := s13 _ _ (neT k3) k3
    have k4' := s13 _ _ (neT k4) k4
    have k5' := s13 _ _ (neT k5) k5
    have k6' := s13 _ _ (neT k6) k6
    have k7' := s13 _ _ (neT k7) k7
    have k8' := s13 _ _ (neT k8) k8
    have hl13 := s13 _ _ hlr g8
    have hf13 := s13 _ _ hfr hf12
    have hC13 := hC12.keep hrx s13
    have sx13 := sx12.trans s13
    clear k1 k2 k3 k4 k5 k6 k7 k8 g8 hf12 hC12 sx12 s13 hrx neT hR12
    fail "ww"
    refine new_ fun t8 H14 n9 s9 g9 => ?_
    fail "ww"
    refine r_append (s9 _ _ hl13) (size_lt (by simp)) ?_
    have nl : ∀ {t : Addr} {xs : List V}, H14 t = some (.tup xs) → t ≠ lb := fun h => ne_of h (s9 _ _ hl13) (by intro z; cases z)
    have q1 := upd_to (o := .lst ([V.ref t0, V.ref t1, V.ref t2, V.ref t3, V.ref t4, V.ref t5, V.ref t6, V.ref t7] ++ [V.ref t8])) (nl (s9 _ _ k1')) (s9 _ _ k1')
    have q2 := upd_to (o := .lst ([V.ref t0, V.ref t1, V.ref t2, V.ref t3, V.ref t4, V.ref t5, V.ref t6, V.ref t7] ++ [V.ref t8])) (nl (s9 _ _ k2')) (s9 _ _ k2')
    have q3 := upd_to (o := .lst ([V.ref t0, V.ref t1, V.ref t2, V.ref t3, V.ref t4, V.ref t5, V.ref t6, V.ref t7] ++ [V.ref t8])) (nl (s9 _ _ k3')) (s9 _ _ k3')
    have q4 := upd_to (o := .lst ([V.ref t0, V.ref t1, V.ref t2, V.ref t3, V.ref t4, V.ref t5, V.ref t6, V.ref t7] ++ [V.ref t8])) (nl (s9 _ _ k4')) (s9 _ _ k4')
    have q5 := upd_to (o := .lst ([V.ref t0, V.ref t1, V.ref t2, V.ref t3, V.ref t4, V.ref t5, V.ref t6, V.ref t7] ++ [V.ref t8])) (nl (s9 _ _ k5')) (s9 _ _ k5')
    have q6 := upd_to (o := .lst ([V.ref t0, V.ref t1, V.ref t2, V.ref t3, V.ref t4, V.ref t5, V.ref t6, V.ref t7] ++ [V.ref t8])) (nl (s9 _ _ k6')) (s9 _ _ k6')
    have q7 := upd_to (o := .lst ([V.ref t0, V.ref t1, V.ref t2, V.ref t3, V.ref t4, V.ref t5, V.ref t6, V.ref t7] ++ [V.ref t8])) (nl (s9 _ _ k7')) (s9 _ _ k7')
    have q8 := upd_to (o := .lst ([V.ref t0, V.ref t1, V.ref t2, V.ref t3, V.ref t4, V.ref t5, V.ref t6, V.ref t7] ++ [V.ref t8])) (nl (s9 _ _ k8')) (s9 _ _ k8')
    have q9 := upd_to (o := .lst ([V.ref t0, V.ref t1, V.ref t2, V.ref t3, V.ref t4, V.ref t5, V.ref t6, V.ref t7] ++ [V.ref t8])) (nl g9) g9
    have ql := upd_same (H := H14) (a := lb) (o := .lst ([V.ref t0, V.ref t1, V.ref t2, V.ref t3, V.ref t4, V.ref t5, V.ref t6, V.ref t7] ++ [V.ref t8]))
    have hf15 := upd_to (o := .lst ([V.ref t0, V.ref t1, V.ref t2, V.ref t3, V.ref t4, V.ref t5, V.ref t6, V.ref t7] ++ [V.ref t8])) hlf.symm (s9 _ _ hf13)
    have hC15 := (hC13.same s9).put (o := .lst ([V.ref t0, V.ref t1, V.ref t2, V.ref t3, V.ref t4, V.ref t5, V.ref t6, V.ref t7] ++ [V.ref t8])) (s9 _ _ hl13)
    have hR15 := (hR13.same s9).other (o := .lst ([V.ref t0, V.ref t1, V.ref t2, V.ref t3, V.ref t4, V.ref t5, V.ref t6, V.ref t7] ++ [V.ref t8])) hlr
    have sx15 := (sx13.same s9).old (o := .lst ([V.ref t0, V.ref t1, V.ref t2, V.ref t3, V.ref t4, V.ref t5, V.ref t6, V.ref t7] ++ [V.ref t8])) hlbH
    generalize upd H14 lb (.lst ([V.ref t0, V.ref t1, V.ref t2, V.ref t3, V.ref t4, V.ref t5, V.ref t6, V.ref t7] ++ [V.ref t8])) = H15 at q1 q2 q3 q4 q5 q6 q7 q8 q9 ql hf15 hC15 hR15 sx15 ⊢
    clear k1' k2' k3' k4' k5' k6' k7' k8' hl13 hf13 hC13 sx13 hR13 nl s9 n9 g9
    fail "ww"
    rw [List.length_map, hC15.len, hwl]
    have hl' : cs.length ≤ 1000 := hl
    refine ⟨r, _, _, rfl, hR15, by omega, by omega, by have : (2 : Int) ^ 200 > 5000 := by decide
                                                       omega, fun H16 at' a0 a1 s16 hR16 => ?_⟩
    obtain ⟨kk, rfl⟩ := Int.eq_ofNat_of_zero_le a0
    fail "ww"
    refine ⟨r, 9, _, rfl, hR16, by omega, by decide, by decide, fun H17 z z0 z1 s17 hR17 => ?_⟩
    have s1517 := s16.trans s17
    have rl : ∃ xs, H15 r = some (.lst xs) := by obtain ⟨_, _, _, e, _⟩ := hR15; exact ⟨_, e⟩
    obtain ⟨rxs, hrx⟩ := rl
    have neT : ∀ {t : Addr} {xs : List V}, H15 t = some (.tup xs) → t ≠ r := fun h => ne_of h hrx (by intro z; cases z)
    obtain ⟨t, c, hat, ht, hcb, hcn⟩ : ∃ (t : Addr) (c : Pr), atI ([V.ref t0, V.ref t1, V.ref t2, V.ref t3, V.ref t4, V.ref t5, V.ref t6, V.ref t7] ++ [V.ref t8]) z = some (.ref t) ∧ H15 t = some (.tup [.int c.1, .int c.2]) ∧ ¬ FitW wide c ∧ NtC c := by
      have nt1 : ∀ i : Int, i.natAbs ≤ 10 ^ 29 → Nt i := fun i h => by unfold Nt; exact Nat.le_trans h (by decide)
      have p29 : (10 : Nat) ^ 29 = 100000000000000000000000000000 := by decide
      have : z = 0 ∨ z = 1 ∨ z = 2 ∨ z = 3 ∨ z = 4 ∨ z = 5 ∨ z = 6 ∨ z = 7 ∨ z = 8 := by omega
      rcases this with e | e | e | e | e | e | e | e | e <;> subst e
      · exact ⟨t0, (0, 1), rfl, q1, by unfold FitW; simp only; omega, nt1 _ (by omega), nt1 _ (by omega)⟩
      · exact ⟨t1, (1, (wide : Int) + 1), rfl, q2, by unfold FitW; simp only; omega, nt1 _ (by omega), nt1 _ (by simp only; omega)⟩
      · exact ⟨t2, (2, 1), rfl, q3, by unfold FitW; simp only; omega, nt1 _ (by omega), nt1 _ (by omega)⟩
      · exact ⟨t3, (-1, 1), rfl, q4, by unfold FitW; simp only; omega, nt1 _ (by omega), nt1 _ (by omega)⟩
      · exact ⟨t4, ((wide : Int) + 1, (wide : Int) + 1), rfl, q5, by unfold FitW; simp only; omega, nt1 _ (by simp only; omega), nt1 _ (by simp only; omega)⟩
      · exact ⟨t5, (0, 0), rfl, q6, by unfold FitW; simp only; omega, nt1 _ (by omega), nt1 _ (by omega)⟩
      · exact ⟨t6, (1, 0), rfl, q7, by unfold FitW; simp only; omega, nt1 _ (by omega), nt1 _ (by omega)⟩
      · exact ⟨t7, (1, 10 ^ Int.toNat 29), rfl, q8, by
          have : (10 : Int) ^ Int.toNat 29 = 100000000000000000000000000000 := by decide
          unfold FitW; simp only; omega, nt1 _ (by omega), nt1 _ (by decide)⟩
      · exact ⟨t8, (0 - far, 1), rfl, q9, by unfold FitW; simp only; omega, nt1 _ (by
          have : (10 : Int) ^ Int.toNat 29 = 100000000000000000000000000000 := by decide
          simp only; omega), nt1 _ (by omega)⟩
    have ql17 := s1517 _ _ hlr ql
    have hf17 := s1517 _ _ hfr hf15
    have ht17 := s1517 _ _ (neT ht) ht
    have hC17 := hC15.keep hrx s1517
    have sx17 := sx15.trans s1517
    clear q1 q2 q3 q4 q5 q6 q7 q8 q9 ql hf15 hC15 sx15 ht neT hrx s1517 s16 s17 hR15 hR16
    refine r_ixL (sq ql17) hat ?_
    fail "ww"
    refine ⟨f, _, kk, _, rfl, rfl, hf17, by rw [List.length_map, hC17.len]; exact size_lt (by omega), by omega, by omega, ?_⟩
    rw [Int.toNat_natCast, show (ts.map V.ref).take kk ++ [V.ref t] ++ (ts.map V.ref).drop kk = (ts.take kk ++ [t] ++ ts.drop kk).map V.ref by rw [List.map_append, List.map_append, List.map_take, List.map_drop]; rfl]
    refine ⟨_, _, _, _, ts.take kk ++ [t] ++ ts.drop kk, ws.take kk ++ [c] ++ ws.drop kk, rfl, sx17.old nf, (hR17.other hfr).le (by omega), upd_same, (hC17.ins ht17 kk).put hf17, ?_, fun _ => ⟨c, List.mem_append_left _ (List.mem_append_right _ List.mem_cons_self), hcb⟩, fun d hd => ?_⟩
    · rw [List.length_append, List.length_append, List.length_take, List.length_drop, List.length_singleton]; omega
    · rcases List.mem_append.mp hd with h | h
      · rcases List.mem_append.mp h with h | h
        · exact hnt d (List.mem_of_mem_take h)
        · rw [List.mem_singleton.mp h]; exact hcn
      · exact hnt d (List.mem_of_mem_drop h)
  · obtain ⟨y4, y5, y6, y7, ts, ws, rfl, sx, hR, hf, hC, hwl, hbad, hnt⟩ := p
    have hl' : cs.length ≤ 1000 := hl
    have ht : Int.toNat (1 + (e : Int)) = 1 + e := by omega
    rw [ht] at hR hwl hbad
    obtain ⟨cb, hcb, hcf⟩ := hbad (by omega)
    fail "ww"
    intro D nD
    refine lc_same (walk_enum (xs := ts.map V.ref)) (fun i => ((List.range i).filter (wrW wide ws)).map fun (j : Nat) => V.int (j : Int)) nD (Same.refl _) rfl (fun H s => sq (s _ _ hf)) (fun i x Hh Hh' hi pp y => ?_) (fun H4 s4 hD => ?_)
    · obtain ⟨T1, x1, y1, rfl, nT, rfl, e1, e2⟩ := y
      cases e1
      have hi' : i < ws.length := by rw [← hC.len]; simpa using hi
      obtain ⟨t0, et, ht⟩ := hC.idx hi'
      simp only [List.getElem?_map, et] at e2
      cases e2
      have s1 := same_new (o := .tup [.int (i : Nat), .ref t0]) nT
      have ht1 := s1 _ _ (pp.1 _ _ ht)
      have hw := wrW_at (n := wide) (ws := ws) (i := i) (List.getElem?_eq_getElem hi')
      rw [List.range_succ, List.filter_append, List.map_append]
      generalize ws[i] = c at *
      have len : ((List.range i).filter (wrW wide ws)).length ≤ 100000 := Nat.le_trans (List.length_filter_le _ _) (by rw [List.length_range]; omega)
      have skip : FitW wide c → Same H3 (upd Hh T1 (.tup [.int (i : Nat), .ref t0])) ∧ (upd Hh T1 (.tup [.int (i : Nat), .ref t0])) D = some (.lst ((((List.range i).filter (wrW wide ws)).map fun (j : Nat) => V.int (j : Int)) ++ ((([i] : List Nat).filter (wrW wide ws)).map fun (j : Nat) => V.int (j : Int)))) := fun g => by
        rw [List.filter_cons_of_neg (by rw [hw, decide_eq_true g]; decide), List.filter_nil, List.map_nil, List.append_nil]
        exact ⟨pp.1.trans s1, s1 _ _ pp.2⟩
      have take_ : ¬ FitW wide c → ∃ l, (upd Hh T1 (.tup [.int (i : Nat), .ref t0])) D = some (.lst l) ∧ l.length < sizeLine ∧ Same H3 (upd (upd Hh T1 (.tup [.int (i : Nat), .ref t0])) D (.lst (l ++ [.int (i : Nat)]))) ∧
          (upd (upd Hh T1 (.tup [.int (i : Nat), .ref t0])) D (.lst (l ++ [.int (i : Nat)]))) D = some (.lst ((((List.range i).filter (wrW wide ws)).map fun (j : Nat) => V.int (j : Int)) ++ ((([i] : List Nat).filter (wrW wide ws)).map fun (j : Nat) => V.int (j : Int)))) := fun g => by
        rw [List.filter_cons_of_pos (by rw [hw, decide_eq_false g]; decide)]
        exact lc_add pp s1 nD rfl (by rw [List.length_map]; exact size_lt (by omega))
      unfold FitW at skip take_
      fail "ww"
      refine ⟨rfl, ?_⟩
      fail "ww"
      refine r_ixT (sqT ht1) (show atI _ (0 : Int) = some (V.int c.1) from rfl) ?_
      fail "ww"
      refine r_dec (fun g => ?_) (fun g => ?_)
      · fail "ww"
        refine r_ixT (sqT ht1) (show atI _ (1 : Int) = some (V.int c.2) from rfl) ?_
        fail "ww"
        refine r_dec (fun g2 => ?_) (fun g2 => ?_)
        · fail "ww"
          by_cases g3 : c.2 ≤ wide
          · rw [decide_eq_true g3]
            fail "ww"
            exact skip ⟨g, g2, g3⟩
          · rw [decide_eq_false g3]
            fail "ww"
            exact take_ (fun z => g3 z.2.2)
        · fail "ww"
          exact take_ (fun z => g2 z.2.1)
      · fail "ww"
        exact take_ (fun z => g z.1)
    · rw [List.length_map, hC.len] at hD
      have hR4 := hR.same s4
      have hf4 := s4 _ _ hf
      have hC4 := hC.same s4
      have sx4 := sx.same s4
      rcases first_cases (wrW wide ws) ws.length with ⟨i, e, _⟩ | ⟨e, hno⟩
      · have eWi : eW wide ws = some i := e
        unfold firstN at e
        obtain ⟨rr, er⟩ : ∃ r, (List.range ws.length).filter (wrW wide ws) = i :: r := by
          cases g : (List.range ws.length).filter (wrW wide ws) with
          | nil => rw [g] at e; cases e
          | cons x r => rw [g] at e; cases e; exact ⟨r, rfl⟩
        rw [er] at hD
        fail "ww"
        refine r_ixL (sq hD) (at_of (j := 0) rfl rfl) ?_
        fail "ww"
        refine new_ fun p H5 n5 s5 h5 => ?_
        exact k _ p f ts ws i (sx4.same s5) (hR4.free sx4 n5) nf ((hR4.same s5).le (by omega)) h5 (s5 _ _ hf4) (hC4.same s5) eWi (by show ws.length ≤ cs.length + 2; omega) hnt
      · exact absurd (eW_fits (show eW wide ws = none from e) cb hcb) hcf
def sp_law_bad_line (K : PySem.W.Frag) : Sp := fun vs H Q _ => ∃ (r a : Addr) (m : Nat) (ns : List Int), vs = [.ref r, .ref a] ∧ Pol H r m ∧ m < 2 ^ 50 ∧ H a = some (.lst (ns.map V.int)) ∧ 1 ≤ ns.length ∧ ns.length ≤ 1000 ∧ (∀ x ∈ ns, Nt x) ∧
  ∀ (H' : Hp) (p f : Addr) (ms : List Int), Sx r H H' → H p = none → H f = none → Pol H' r (m + 7) → H' p = some (.lst [.ref f, optV (eR ms)]) → H' f = some (.lst (ms.map V.int)) → ms.length = ns.length → (∀ x ∈ ms, Nt x) → Q (.ref p) H'
theorem ok_law_bad_line (T : Txt K mg) : FnG P w K mg base CX0 2 T.law_bad_line_a T.law_bad_line_d ["pool", "line_here"] (sp_law_bad_line K) := by
  refine okG T.law_bad_line_F sc_law_bad_line (fun vs H Q E h => ?_) (fun cdv A ou t H vs Q E hG hr h => ?_)
  · obtain ⟨_, _, _, _, rfl, _⟩ := h; rfl
  have nd := sc_law_bad_line.nd
  obtain ⟨r, a, m, ns, rfl, hR, hm, hA, hl1, hl, hx, k⟩ := h
  refine ⟨_, (pss_cons (sset 2 nd (pe_callTy (listK K) (by rfl) T.m_list (by decide +kernel) (pa_cons (pv 1) pa_nil)))
      (pss_cons (ps_for PassesOwn.never rfl (pi_range1 (by rfl) T.m_range (pa_cons (pe_op op_add pe_int (pe_callG (ok_law_draw T) hG (hr.mono (by decide)) (by rfl) T.law_draw_g T.law_draw_F.kp T.law_draw_b .nil pass0 (pa_cons (pv 0) (pa_cons pe_int pa_nil)))) pa_nil)) (gset 3 nd)
        (pss_cons (sset 4 nd (pe_callG (ok_law_draw T) hG (hr.mono (by decide)) (by rfl) T.law_draw_g T.law_draw_F.kp T.law_draw_b .nil pass0 (pa_cons (pv 0) (pa_cons (pe_callB (lenK K) (by rfl) T.m_len PySem.boot_len (pa_cons (pv 2) pa_nil)) pa_nil))))
      (pss_cons (sset 5 nd (pe_ix (ix_listK K) (pv 2) (pe_callG (ok_law_draw T) hG (hr.mono (by decide)) (by rfl) T.law_draw_g T.law_draw_F.kp T.law_draw_b .nil pass0 (pa_cons (pv 0) (pa_cons (pe_callB (lenK K) (by rfl) T.m_len PySem.boot_len (pa_cons (pv 2) pa_nil)) pa_nil))) (fun _ _ => rfl)))
      (pss_one (ps_asg (pe_ix (ix_listK K) (pe_lst (pa_cons pe_int (pa_cons (pe_op op_add (pe_callB (lenK K) (by rfl) T.m_len PySem.boot_len (pa_cons (pv 2) pa_nil)) pe_int) (pa_cons (pe_un un_neg pe_int) (pa_cons (pe_ix (ix_listK K) (pv 2) (pe_op op_sub (pv 4) pe_int) (fun _ _ => rfl)) (pa_cons (pe_op op_powW pe_int pe_int) (pa_cons (pv 5) (pa_cons (pv 5) pa_nil)))))))) (pe_callG (ok_law_draw T) hG (hr.mono (by decide)) (by rfl) T.law_draw_g T.law_draw_F.kp T.law_draw_b .nil pass0 (pa_cons (pv 0) (pa_cons pe_int pa_nil))) (fun _ _ => rfl)) (pg_sub (pv 2) (pv 4) set_list))))))
      (pss_cons (ps_setLc (i := 6) (hy := rfl) (hyl := rfl) (hsw := sw_true rfl rfl rfl (by decide +kernel)) (own := [("at", 4), ("value", 7)]) (hc := rfl) (hN := nd) (hi := (pi_enumK K (by rfl) T.m_enumerate (pa_cons (pv 2) pa_nil))) (ok := blkOk_by (by rfl)) (hg := fun _ _ _ _ _ => (pg_tupK K 2 rfl (pgs_cons (gset 4 nd) (pgs_cons (gset 7 nd) pgs_nil)))) (ht := (fun _ _ _ _ _ => pts_one (PW.pt (pw_or (pt_not (pt_chain op_le op_le pe_int (pv 7) (pe_callB (lenK K) (by rfl) T.m_len PySem.boot_len (pa_cons (pv 2) pa_nil)))) (pw_or1 (pt_cmpR (inK K) (pv 7) (pe_slice (sl_listK K) (pv 2) po_none (po_some (pv 4))) (by rfl))))))) (he := fun _ _ _ _ _ => (pv 4)))
      (pss_one (ps_ret (pe_lst (pa_cons (pv 2) (pa_cons (pe_ifExp (pt_cmpR (neDK K hr.units) (pv 6) (pe_lst pa_nil) (nomark _)) (pe_ix (ix_listK K) (pv 6) pe_int (fun _ _ => rfl)) pe_non) pa_nil)))))))), ?_⟩
  have small : ∀ z : Nat, z ≤ 10000 → Nt (z : Int) := fun z hz => by unfold Nt; rw [Int.natAbs_natCast]; exact Nat.le_trans hz (by decide)
  fail "ww"
  refine new_ fun f H1 nf s1 hf => ?_
  have hR1 := hR.same s1
  have hfr := hR.ne nf
  fail "ww"
  refine ⟨r, 2, _, rfl, hR1, by omega, by decide, by decide, fun H2 d d0 d1 s2 hR2 => ?_⟩
  obtain ⟨e, rfl⟩ := Int.eq_ofNat_of_zero_le d0
  fail "ww"
  refine ⟨by omega, by omega, ?_⟩
  refine forF walk_range (fun j σ' H' => ∃ y3 y4 y5 y6 y7 ms, σ' = [some (.ref r), some (.ref a), some (.ref f), y3, y4, y5, y6, y7] ∧ Sx r H H' ∧ Pol H' r (m + 1 + 3 * j) ∧ H' f = some (.lst (ms.map V.int)) ∧ ms.length = ns.length ∧ (∀ x ∈ ms, Nt x))
    ⟨none, none, none, none, none, ns, rfl, (Sx.refl.same s1).trans s2, hR2, s2 _ _ hfr hf, rfl, hx⟩ (fun _ _ _ _ _ => trivial) (fun j σ' H3 hj p => ?_) (fun σ' H3 p => ?_)
  · clear hR2 s2 hf s1 hR hR1
    obtain ⟨y3, y4, y5, y6, y7, ms, rfl, sx, hR, hf, hml, hnt⟩ := p
    have hj2 : j < 2 := by omega
    fail "ww"
    rw [List.length_map]
    refine ⟨r, _, _, rfl, hR, by omega, by omega, by omega, fun H4 at' a0 a1 s4 hR4 => ?_⟩
    obtain ⟨t, rfl⟩ := Int.eq_ofNat_of_zero_le a0
    have hf4 := s4 _ _ hfr hf
    fail "ww"
    rw [List.length_map]
    refine ⟨r, _, _, rfl, hR4, by omega, by omega, by omega, fun H5 u u0 u1 s5 hR5 => ?_⟩
    obtain ⟨u, rfl⟩ := Int.eq_ofNat_of_zero_le u0
    have hf5 := s5 _ _ hfr hf4
    have sx5 := (sx.trans s4).trans s5
    clear s4 s5 hf hf4 hR hR4 sx
    have hu : u < ms.length := by omega
    refine r_ixL (sq hf5) (at_of (j := u) rfl (by rw [List.getElem?_map, List.getElem?_eq_getElem hu]; rfl)) ?_
    fail "ww"
    obtain ⟨pv, hpv, hpn⟩ : ∃ x : Int, atI (ms.map V.int) ((t : Int) - 1) = some (.int x) ∧ Nt x := by
      by_cases g : t = 0
      · subst g
        refine ⟨ms[ms.length - 1], ?_, hnt _ (List.getElem_mem _)⟩
        rw [show ((0 : Nat) : Int) - 1 = -1 from rfl]
        exact at_neg1 (by rw [List.length_map]; omega) (by rw [List.getElem?_map, List.length_map, List.getElem?_eq_getElem (show ms.length - 1 < ms.length by omega)]; rfl)
      · refine ⟨ms[t - 1], at_of (j := t - 1) (by omega) (by rw [List.getElem?_map, List.getElem?_eq_getElem (show t - 1 < ms.length by omega)]; rfl), hnt _ (List.getElem_mem _)⟩
    refine r_ixL (sq hf5) hpv ?_
    fail "ww"
    refine new_ fun lb H6 nb s6 hb => ?_
    rw [List.length_map] at hb
    have hlb := hR5.ne nb
    have hf6 := s6 _ _ hf5
    have sx6 := sx5.same s6
    have big : Nt (10 ^ 29) := by unfold Nt; decide
    have val : ∀ d : Int, 0 ≤ d → d < 7 → ∃ x : Int, atI [V.int 0, V.int ((ms.length : Int) + 1), V.int (-1), V.int pv, V.int (10 ^ Int.toNat 29), V.int ms[u], V.int ms[u]] d = some (.int x) ∧ Nt x := fun d h0 h7 => by
      have : d = 0 ∨ d = 1 ∨ d = 2 ∨ d = 3 ∨ d = 4 ∨ d = 5 ∨ d = 6 := by omega
      rcases this with e | e | e | e | e | e | e <;> subst e
      · exact ⟨_, rfl, small 0 (by decide)⟩
      · exact ⟨_, rfl, small (ms.length + 1) (by omega)⟩
      · exact ⟨_, rfl, by unfold Nt; decide⟩
      · exact ⟨_, rfl, hpn⟩
      · exact ⟨_, rfl, big⟩
      · exact ⟨_, rfl, hnt _ (List.getElem_mem _)⟩
      · exact ⟨_, rfl, hnt _ (List.getElem_mem _)⟩
    fail "ww"
    refine ⟨r, 7, _, rfl, hR5.same s6, by omega, by decide, by decide, fun H7 d7 h70 h71 s7 hR7 => ?_⟩
    obtain ⟨x, ex, hx7⟩ := val d7 h70 h71
    refine r_ixL (sq (s7 _ _ hlb hb)) ex ?_
    have hf7 := s7 _ _ hfr hf6
    fail "ww"
    refine r_setL hf7 (n := t) (ix_of (by omega) (by rw [List.length_map]; omega)) ?_
    refine ⟨_, _, _, _, _, ms.set t x, rfl, (sx6.trans s7).old nf, (hR7.other hfr).le (by omega), by rw [upd_same, List.map_set], by rw [List.length_set]; exact hml, fun z hz => ?_⟩
    rcases List.mem_or_eq_of_mem_set hz with q | q
    · exact hnt z q
    · rw [q]; exact hx7
  · clear hR2 s2 hf s1 hR hR1
    obtain ⟨y3, y4, y5, y6, y7, ms, rfl, sx, hR, hf, hml, hnt⟩ := p
    fail "ww"
    have hl' : ms.length ≤ 1000 := by omega
    intro D nD
    refine lc_same (walk_enum (xs := ms.map V.int)) (fun i => ((List.range i).filter (wrR ms)).map fun (j : Nat) => V.int (j : Int)) nD (Same.refl _) rfl (fun H s => sq (s _ _ hf)) (fun i x Hh Hh' hi pp y => ?_) (fun H4 s4 hD => ?_)
    · obtain ⟨T1, x1, y1, rfl, nT, rfl, e1, e2⟩ := y
      cases e1
      have hi' : i < ms.length := by simpa using hi
      simp only [List.getElem?_map, List.getElem?_eq_getElem hi'] at e2
      cases e2
      have s1 := same_new (o := .tup [.int (i : Nat), .int ms[i]]) nT
      have hw := wrR_at hi'
      rw [List.range_succ, List.filter_append, List.map_append]
      have len : ((List.range i).filter (wrR ms)).length ≤ 100000 := Nat.le_trans (List.length_filter_le _ _) (by rw [List.length_range]; omega)
      have hf1 := s1 _ _ (pp.1 _ _ hf)
      have skip : (1 ≤ ms[i] ∧ ms[i] ≤ (ms.length : Int) ∧ ms[i] ∉ ms.take i) → ∀ Hx, Same (upd Hh T1 (.tup [.int (i : Nat), .int ms[i]])) Hx → Same H3 Hx ∧ Hx D = some (.lst ((((List.range i).filter (wrR ms)).map fun (j : Nat) => V.int (j : Int)) ++ ((([i] : List Nat).filter (wrR ms)).map fun (j : Nat) => V.int (j : Int)))) := fun g Hx sx => by
        rw [List.filter_cons_of_neg (by rw [hw, decide_eq_true g]; decide), List.filter_nil, List.map_nil, List.append_nil]
        exact ⟨(pp.1.trans s1).trans sx, sx _ _ (s1 _ _ pp.2)⟩
      have take_ : ¬ (1 ≤ ms[i] ∧ ms[i] ≤ (ms.length : Int) ∧ ms[i] ∉ ms.take i) → ∀ Hx, Same (upd Hh T1 (.tup [.int (i : Nat), .int ms[i]])) Hx → ∃ l, Hx D = some (.lst l) ∧ l.length < sizeLine ∧ Same H3 (upd Hx D (.lst (l ++ [.int (i : Nat)]))) ∧
          (upd Hx D (.lst (l ++ [.int (i : Nat)]))) D = some (.lst ((((List.range i).filter (wrR ms)).map fun (j : Nat) => V.int (j : Int)) ++ ((([i] : List Nat).filter (wrR ms)).map fun (j : Nat) => V.int (j : Int)))) := fun g Hx sx => by
        rw [List.filter_cons_of_pos (by rw [hw, decide_eq_false g]; decide)]
        exact lc_add pp (s1.trans sx) nD rfl (by rw [List.length_map]; exact size_lt (by omega))
      fail "ww"
      refine ⟨rfl, ?_⟩
      fail "ww"
      have inV_ : inV (.int ms[i]) ((ms.take i).map V.int) = decide (ms[i] ∈ ms.take i) := by
        unfold inV
        rw [List.any_map]
        by_cases hm : ms[i] ∈ ms.take i
        · rw [decide_eq_true hm, List.any_eq_true]
          exact ⟨_, hm, by show (_ == _) = true; simp⟩
        · rw [decide_eq_false hm, List.any_eq_false]
          intro x hx
          show ¬ (x == ms[i]) = true
          intro e
          exact hm (eq_of_beq e ▸ hx)
      refine r_dec (fun g => ?_) (fun g => ?_)
      · fail "ww"
        rw [List.length_map]
        by_cases g2 : ms[i] ≤ (ms.length : Int)
        · rw [decide_eq_true g2]
          fail "ww"
          refine n_slT (sq hf1) (a := i) rfl (new_ fun l H5 n5 s5 h5 => ?_)
          refine ⟨l, _, rfl, .inl (sq h5), rfl, by rw [List.all_map, List.all_eq_true]; exact fun x _ => rfl, ?_⟩
          rw [inV_, show (if false = true then !decide (ms[i] ∈ ms.take i) else decide (ms[i] ∈ ms.take i)) = decide (ms[i] ∈ ms.take i) from rfl]
          fail "ww"
          by_cases g3 : ms[i] ∈ ms.take i
          · rw [decide_eq_true g3]
            fail "ww"
            exact take_ (fun z => z.2.2 g3) _ s5
          · rw [decide_eq_false g3]
            fail "ww"
            exact skip ⟨g, g2, g3⟩ _ s5
        · rw [decide_eq_false g2]
          fail "ww"
          exact take_ (fun z => g2 z.2.1) _ (Same.refl _)
      · fail "ww"
        exact take_ (fun z => g z.1) _ (Same.refl _)
    · rw [List.length_map] at hD
      have hR4 := hR.same s4
      have hf4 := s4 _ _ hf
      have sx4 := sx.same s4
      have hD' : H4 D = some (.lst ((((List.range ms.length).filter (wrR ms)).map (fun j : Nat => (j : Int))).map V.int)) := by rw [List.map_map]; exact hD
      fail "ww"
      refine new_ fun e0 H5 n5 s5 h5 => ?_
      have sx5 := sx4.same s5
      refine r_neL (sq (s5 _ _ hD')) (ms := []) (sq h5) ?_
      rcases first_cases (wrR ms) ms.length with ⟨i, e, _⟩ | ⟨e, hno⟩
      · have eRi : eR ms = some i := e
        unfold firstN at e
        obtain ⟨rr, er⟩ : ∃ r, (List.range ms.length).filter (wrR ms) = i :: r := by
          cases g : (List.range ms.length).filter (wrR ms) with
          | nil => rw [g] at e; cases e
          | cons x r => rw [g] at e; cases e; exact ⟨r, rfl⟩
        rw [er] at hD
        rw [er, List.map_cons, decide_eq_false (by intro z; cases z)]
        fail "ww"
        refine r_ixL (sq (s5 _ _ hD)) (at_of (j := 0) rfl rfl) ?_
        fail "ww"
        refine new_ fun p H6 n6 s6 h6 => ?_
        exact k _ p f ms (sx5.same s6) ((hR4.same s5).free sx5 n6) nf (((hR4.same s5).same s6).le (by omega)) (by rw [eRi]; exact h6) ((s5.trans s6) _ _ hf4) hml hnt
      · have eRn : eR ms = none := e
        have er : (List.range ms.length).filter (wrR ms) = [] := List.filter_eq_nil_iff.mpr fun j hm => by rw [hno j (List.mem_range.mp hm)]; decide
        rw [er, List.map_nil, decide_eq_true rfl]
        fail "ww"
        refine new_ fun p H6 n6 s6 h6 => ?_
        exact k _ p f ms (sx5.same s6) ((hR4.same s5).free sx5 n6) nf (((hR4.same s5).same s6).le (by omega)) (by rw [eRn]; exact h6) ((s5.trans s6) _ _ hf4) hml hnt
/-- a list of at most one list, that o says -/
def Hl (r : Addr) (H : Hp) (a : Addr) (o : Option (Str × Int)) : Prop := ∃ l : List Addr, H a = some (.lst (l.map V.ref)) ∧ HdO H l o ∧ l.length ≤ 1 ∧ a ≠ r ∧ ∀ q ∈ l, q ≠ r
theorem Hl.sx {r a : Addr} {H H' : Hp} {o : Option (Str × Int)} (h : Hl r H a o) (s : Sx r H H') : Hl r H' a o := by
  obtain ⟨l, h1, h2, h3, h4, h5⟩ := h
  refine ⟨l, s _ _ h4 h1, ?_, h3, h4, h5⟩
  rcases o with _ | ⟨nm, i⟩
  · exact h2
  · obtain ⟨q, rest, rfl, g⟩ := h2
    exact ⟨q, rest, rfl, s _ _ (h5 q List.mem_cons_self) g⟩
theorem Hl.same {r a : Addr} {H H' : Hp} {o : Option (Str × Int)} (h : Hl r H a o) (s : Same H H') : Hl r H' a o := h.sx (sx_of s)
theorem Hl.nil {r a : Addr} {H : Hp} (h : H a = some (.lst [])) (ne : a ≠ r) : Hl r H a none := ⟨[], h, rfl, Nat.zero_le _, ne, fun q hq => by cases hq⟩
theorem Hl.one {r a q : Addr} {H : Hp} {nm : Str} {i : Int} (h : H a = some (.lst [.ref q])) (g : H q = some (.lst [.str nm, .int i])) (ne : a ≠ r) (nq : q ≠ r) : Hl r H a (some (nm, i)) :=
  ⟨[q], h, ⟨q, [], rfl, g⟩, Nat.le_refl _, ne, fun x hx => by rw [List.mem_singleton.mp hx]; exact nq⟩
def numO (sp : Int) (M : Nat) : Option (Str × Int) := if 0 ≤ sp ∧ sp < (M : Int) then none else some ("number", sp)
def rowO (ns : List Int) : Option (Str × Int) := match eR ns with
  | some i => some ("row", (i : Int))
  | none => none
def szO (z : Int) : Option (Str × Int) := if z < 1 then some ("size", z) else none
theorem told_or {z : Int} {n : Nat} (hn : 1 ≤ n) (h : z = (n : Int) ∨ z < 1) (ws : List Pr) : orO (szO z) (dC' n ws) = dR z ws := by
  unfold szO dR
  by_cases g : z < 1
  · rw [if_pos g, if_pos g]; rfl
  · rw [if_neg g, if_neg g]
    obtain rfl : z = (n : Int) := h.resolve_right g
    unfold dC'
    cases eW (n : Int) ws <;> rfl
theorem dNum_ok {n : Int} {ws : List Pr} {k : Int} : OkO (dNum n ws k) := fun nm i e => by
  unfold dNum at e
  split at e
  · cases e; decide +kernel
  · cases e
theorem dGB_ok {ws : List Pr} {ns : List Int} : OkO (dGB ws ns) := fun nm i e => by
  unfold dGB at e
  split at e
  · cases e; decide +kernel
  · split at e
    · cases e; decide +kernel
    · cases e
theorem orO_ok {o p : Option (Str × Int)} (ho : OkO o) (hp : OkO p) : OkO (orO o p) := by
  cases o with
  | none => exact hp
  | some x => exact ho
theorem dTl_ok {door : Nat} {n : Int} {ws : List Pr} {k : Int} {ns : List Int} : OkO (dTl door n ws k ns) := by
  unfold dTl
  split
  · exact dR_ok
  · split
    · exact orO_ok dR_ok dNum_ok
    · exact dGB_ok
theorem dTl_3 {z : Int} {n : Nat} {ws : List Pr} {cs : List Cmd} {sp : Int} {ns : List Int} (h : z = (n : Int) ∨ z < 1) (he : eW n ws = none → ws = cs.map toW) : orO (dR z ws) (numO sp (mulM (lenM n cs) n)) = dTl 3 z ws sp ns := by
  unfold dTl
  rw [if_neg (by decide), if_pos rfl]
  cases e : dR z ws with
  | some x => rfl
  | none =>
    have g : ¬ z < 1 := fun g => by unfold dR at e; rw [if_pos g] at e; cases e
    obtain rfl : z = (n : Int) := h.resolve_right g
    have e2 : eW n ws = none := by
      unfold dR at e
      rw [if_neg g] at e
      split at e
      · cases e
      · assumption
    show numO sp _ = dNum _ _ _
    unfold numO dNum
    rw [Int.toNat_natCast, he e2, from_to]
    by_cases q : 0 ≤ sp ∧ sp < ((mulM (lenM n cs) n : Nat) : Int)
    · rw [if_pos q, if_neg (by omega)]
    · rw [if_neg q, if_pos (by omega)]
theorem dTl_4 {z : Int} {n : Nat} {ws : List Pr} {sp : Int} {ns : List Int} (hn : ns.length = n) : orO (rowO ns) (dC' n ws) = dTl 4 z ws sp ns := by
  unfold dTl dGB rowO dC'
  rw [if_neg (by decide), if_neg (by decide), hn]
  cases eR ns <;> rfl
theorem dTl_0 {door : Nat} {z : Int} {ws : List Pr} {sp : Int} {ns : List Int} (h : door < 3) : dR z ws = dTl door z ws sp ns := by
  unfold dTl; rw [if_pos h]
theorem dTu_ok {a b c : Int} : OkO (dTu a b c) := fun nm i e => by
  unfold dTu at e
  split at e
  · cases e; decide +kernel
  · split at e
    · cases e; decide +kernel
    · split at e
      · cases e; decide +kernel
      · cases e
def wrT (xs : List Int) (j : Nat) : List Int := ((List.range j).filter fun t => decide (xs.getD t 0 < ([0, 1, 0] : List Int).getD t 0)).map fun t => xs.getD t 0
theorem wrT_succ (xs : List Int) (j : Nat) : wrT xs (j + 1) = wrT xs j ++ if xs.getD j 0 < ([0, 1, 0] : List Int).getD j 0 then [xs.getD j 0] else [] := by
  unfold wrT
  rw [List.range_succ, List.filter_append, List.map_append]
  by_cases g : xs.getD j 0 < ([0, 1, 0] : List Int).getD j 0
  · rw [if_pos g, List.filter_cons_of_pos (by rw [decide_eq_true g])]; rfl
  · rw [if_neg g, List.filter_cons_of_neg (by rw [decide_eq_false g]; decide)]; rfl
theorem wrT_len (xs : List Int) (j : Nat) : (wrT xs j).length ≤ j := by
  unfold wrT
  rw [List.length_map]
  exact Nat.le_trans (List.length_filter_le _ _) (by rw [List.length_range]; omega)
theorem wrT_3 (a b c : Int) : (∃ i rest, dTu a b c = some (("number" : Str), i) ∧ wrT [a, b, c] 3 = i :: rest) ∨ (dTu a b c = none ∧ wrT [a, b, c] 3 = []) := by
  have e : wrT [a, b, c] 3 = (([] ++ if a < 0 then [a] else []) ++ if b < 1 then [b] else []) ++ if c < 0 then [c] else [] := by
    rw [wrT_succ, wrT_succ, wrT_succ]; rfl
  rw [e]
  unfold dTu
  by_cases h1 : a < 0
  · rw [if_pos h1, if_pos h1]; exact .inl ⟨_, _, rfl, rfl⟩
  rw [if_neg h1, if_neg h1]
  by_cases h2 : b < 1
  · rw [if_pos h2, if_pos h2]; exact .inl ⟨_, _, rfl, rfl⟩
  rw [if_neg h2, if_neg h2]
  by_cases h3 : c < 0
  · rw [if_pos h3, if_pos h3]; exact .inl ⟨_, _, rfl, rfl⟩
  rw [if_neg h3, if_neg h3]; exact .inr ⟨rfl, rfl⟩
def sp_check_size (K : PySem.W.Frag) : Sp := fun vs H Q _ => ∃ (n : Nat), vs = [.int n] ∧ 1 ≤ n ∧ Q .non H
theorem ok_check_size (T : Txt K mg) : FnG P w K mg base CX0 3 T.check_size_a T.check_size_d ["size"] (sp_check_size K) := by
  refine okG T.check_size_F sc_check_size (fun vs H Q E h => ?_) (fun cdv A ou t H vs Q E hG hr h => ?_)
  · obtain ⟨_, rfl, _⟩ := h; rfl
  have nd := sc_check_size.nd
  obtain ⟨n, rfl, hn, q⟩ := h
  refine ⟨_, (pss_one (ps_if (pt_cmpR op_lt (pv 0) pe_int (nomark _))
        (pss_one ps_never)
        pss_nil)), ?_⟩
  fail "g"
  refine r_itDF (by omega) ?_
  fail "g"
  exact q
def spx_check_size (K : PySem.W.Frag) (T : Txt K mg) : Sp := fun vs H Q E => ∃ (n : Int), vs = [.int n] ∧ n < 1 ∧ Err H E T.InvalidSize_a (.int n)
theorem okx_check_size (T : Txt K mg) : FnG P w K mg base (L2N.CX P w) 3 T.check_size_a T.check_size_d ["size"] (spx_check_size K T) := by
  refine okX T.check_size_F sc_check_size (fun vs H Q E h => ?_) (fun cdv A ou t H vs Q E hG hr h => ?_)
  · obtain ⟨_, rfl, _⟩ := h; rfl
  have nd := sc_check_size.nd
  obtain ⟨n, rfl, hn, q⟩ := h
  refine ⟨_, (pss_one (ps_if (pt_cmpR op_lt (pv 0) pe_int (nomark _))
        (pss_one (ps_raiseV rfl (L2N.takes_of rfl rfl rfl rfl) T.InvalidSize_E (ini_InvalidSize T) (hr.mono (by decide)) T.InvalidSize_i_b (by rfl) (pa_cons (pv 0) pa_nil)))
        pss_nil)), ?_⟩
  fail "ww"
  refine r_itD hn ?_
  fail "ww"
  exact fun d hd => q _ d (Same.refl _) hd
def sp_check_script (K : PySem.W.Frag) : Sp := fun vs H Q _ => ∃ (n : Nat) (b : Addr) (ts : List Addr) (cs : List Cmd), vs = [.int n, .ref b] ∧ SqL K H b (ts.map V.ref) ∧ Cm H ts cs ∧ Fits n cs ∧ ∀ H', Same H H' → Q .non H'
theorem ok_check_script (T : Txt K mg) : FnG P w K mg base CX0 3 T.check_script_a T.check_script_d ["size", "commands"] (sp_check_script K) := by
  refine okG T.check_script_F sc_check_script (fun vs H Q E h => ?_) (fun cdv A ou t H vs Q E hG hr h => ?_)
  · obtain ⟨_, _, _, _, rfl, _⟩ := h; rfl
  have nd := sc_check_script.nd
  obtain ⟨n, b, ts, cs, rfl, hS, hC, hF, q⟩ := h
  refine ⟨_, (pss_one (ps_for PassesOwn.never rfl (pi_enumK K (by rfl) T.m_enumerate (pa_cons (pv 1) pa_nil)) (pg_tupK K 2 rfl (pgs_cons (gset 2 nd) (pgs_cons (pg_tupK K 2 rfl (pgs_cons (gset 3 nd) (pgs_cons (gset 4 nd) pgs_nil))) pgs_nil)))
        (pss_one (ps_if (PW.pt (pw_or (pt_cmpR op_lt (pv 3) pe_int (nomark _)) (pw_or (pt_cmpR op_lt (pv 4) (pv 3) (nomark _)) (pw_or1 (pt_cmpR op_gt (pv 4) (pv 0) (nomark _))))))
        (pss_one ps_never)
        pss_nil)))), ?_⟩
  fail "g"
  refine forP (walk_enum (xs := ts.map V.ref)) (fun i σ' H' => ∃ y2 y3 y4, σ' = [some (.int n), some (.ref b), y2, y3, y4] ∧ Same H H') ⟨none, none, none, rfl, Same.refl H⟩ (fun i σ' H' _ p => ?_) (fun i σ' H' T1 x y hi p e1 e2 nT => ?_) (fun σ' H' p => ?_)
  · obtain ⟨_, _, _, _, s⟩ := p; exact s.seq hS
  · obtain ⟨y2, y3, y4, rfl, s⟩ := p
    cases e1
    have hi' : i < cs.length := by rw [← hC.len]; simpa using hi
    obtain ⟨t0, et, ht⟩ := hC.idx hi'
    simp only [List.getElem?_map, et] at e2
    cases e2
    have hc := hF cs[i] (List.getElem_mem hi')
    have s1 := s.trans (same_new (o := .tup [.int (i : Nat), .ref t0]) nT)
    have ht1 := s1 _ _ ht
    fail "g"
    refine r_itDF (by omega) ?_
    fail "g"
    refine r_itDF (by omega) ?_
    fail "g"
    refine r_itDF (by omega) ?_
    fail "g"
    exact ⟨_, _, _, rfl, s1⟩
  · obtain ⟨y2, y3, y4, rfl, s⟩ := p
    fail "g"
    exact q _ s
def spx_check_script (K : PySem.W.Frag) (T : Txt K mg) : Sp := fun vs H Q E => ∃ (n : Int) (b : Addr) (ts : List Addr) (ws : List Pr) (i : Nat), vs = [.int n, .ref b] ∧ SqL K H b (ts.map V.ref) ∧ Cw H ts ws ∧ eW n ws = some i ∧ Err H E T.InvalidCommand_a (.int i)
theorem okx_check_script (T : Txt K mg) : FnG P w K mg base (L2N.CX P w) 3 T.check_script_a T.check_script_d ["size", "commands"] (spx_check_script K T) := by
  refine okX T.check_script_F sc_check_script (fun vs H Q E h => ?_) (fun cdv A ou t H vs Q E hG hr h => ?_)
  · obtain ⟨_, _, _, _, _, rfl, _⟩ := h; rfl
  have nd := sc_check_script.nd
  obtain ⟨n, b, ts, ws, i0, rfl, hS, hC, hI, q⟩ := h
  refine ⟨_, (pss_one (ps_for (passes_of rfl) rfl (pi_enumK K (by rfl) T.m_enumerate (pa_cons (pv 1) pa_nil)) (pg_tupK K 2 rfl (pgs_cons (gset 2 nd) (pgs_cons (pg_tupK K 2 rfl (pgs_cons (gset 3 nd) (pgs_cons (gset 4 nd) pgs_nil))) pgs_nil)))
        (pss_one (ps_if (PW.pt (pw_or (pt_cmpR op_lt (pv 3) pe_int (nomark _)) (pw_or (pt_cmpR op_lt (pv 4) (pv 3) (nomark _)) (pw_or1 (pt_cmpR op_gt (pv 4) (pv 0) (nomark _))))))
        (pss_one (ps_raiseV rfl (L2N.takes_of rfl rfl rfl rfl) T.InvalidCommand_E (ini_InvalidCommand T) (hr.mono (by decide)) T.InvalidCommand_i_b (by rfl) (pa_cons (pv 2) pa_nil)))
        pss_nil)))), ?_⟩
  obtain ⟨hi0, hb, hl⟩ := first_at hI
  fail "ww"
  refine forP (walk_enum (xs := ts.map V.ref)) (fun i σ' H' => ∃ y2 y3 y4, σ' = [some (.int n), some (.ref b), y2, y3, y4] ∧ Same H H' ∧ i ≤ i0) ⟨none, none, none, rfl, Same.refl H, Nat.zero_le _⟩ (fun i σ' H' _ p => ?_) (fun i σ' H' T1 x y hi p e1 e2 nT => ?_) (fun σ' H' p => ?_)
  · obtain ⟨_, _, _, _, s, _⟩ := p; exact s.seq hS
  · obtain ⟨y2, y3, y4, rfl, s, hle⟩ := p
    cases e1
    have hi' : i < ws.length := by rw [← hC.len]; simpa using hi
    obtain ⟨t0, et, ht⟩ := hC.idx hi'
    simp only [List.getElem?_map, et] at e2
    cases e2
    have s1 := s.trans (same_new (o := .tup [.int (i : Nat), .ref t0]) nT)
    have ht1 := s1 _ _ ht
    have hw := wrW_at (n := n) (ws := ws) (i := i) (List.getElem?_eq_getElem hi')
    have bad : ¬ FitW n ws[i] → i = i0 := fun g => by
      rcases Nat.lt_or_eq_of_le hle with z | z
      · have := hl i z
        rw [hw, decide_eq_false g] at this
        cases this
      · exact z
    have good : FitW n ws[i] → i + 1 ≤ i0 := fun g => by
      rcases Nat.lt_or_eq_of_le hle with z | z
      · exact z
      · rw [← z, hw, decide_eq_true g] at hb
        cases hb
    unfold FitW at bad good
    fail "ww"
    refine r_dec (fun g => ?_) (fun g => ?_)
    · fail "ww"
      rw [bad (by omega)] at *
      exact fun d hd => q _ d s1 hd
    fail "ww"
    refine r_dec (fun g2 => ?_) (fun g2 => ?_)
    · fail "ww"
      rw [bad (by omega)] at *
      exact fun d hd => q _ d s1 hd
    fail "ww"
    refine r_dec (fun g3 => ?_) (fun g3 => ?_)
    · fail "ww"
      rw [bad (by omega)] at *
      exact fun d hd => q _ d s1 hd
    fail "ww"
    exact ⟨_, _, _, rfl, s1, good (by omega)⟩
  · obtain ⟨y2, y3, y4, rfl, s, hle⟩ := p
    rw [List.length_map, hC.len] at hle
    omega
def sp_check_arrangement (K : PySem.W.Frag) : Sp := fun vs H Q _ => ∃ (a : Addr) (ns : List Int), vs = [.ref a] ∧ SqL K H a (ns.map V.int) ∧ IsArr ns ∧ ns.length ≤ 1000 ∧ ∀ H', Same H H' → Q .non H'
theorem ok_check_arrangement (T : Txt K mg) : FnG P w K mg base CX0 3 T.check_arrangement_a T.check_arrangement_d ["row"] (sp_check_arrangement K) := by
  refine okG T.check_arrangement_F sc_check_arrangement (fun vs H Q E h => ?_) (fun cdv A ou t H vs Q E hG hr h => ?_)
  · obtain ⟨_, _, rfl, _⟩ := h; rfl
  have nd := sc_check_arrangement.nd
  obtain ⟨a, ns, rfl, hS, hA, hlen, q⟩ := h
  refine ⟨_, (pss_cons (sset 1 nd (pe_callTy0 cr_set0 (by rfl) T.m_set (by decide +kernel)))
      (pss_one (ps_for PassesOwn.never rfl (pi_enumK K (by rfl) T.m_enumerate (pa_cons (pv 0) pa_nil)) (pg_tupK K 2 rfl (pgs_cons (gset 2 nd) (pgs_cons (gset 3 nd) pgs_nil)))
        (pss_cons (ps_if (PW.pt (pw_or (pt_cmpR op_lt (pv 3) pe_int (nomark _)) (pw_or (pt_cmpR op_gt (pv 3) (pe_callB (lenK K) (by rfl) T.m_len PySem.boot_len (pa_cons (pv 0) pa_nil)) (nomark _)) (pw_or1 (pt_cmpR or_sin (pv 3) (pv 1) (by rfl))))))
        (pss_one ps_never)
        pss_nil)
      (pss_one (ps_expr (pe_sadd (pv 1) (pa_cons (pv 3) pa_nil)))))))), ?_⟩
  fail "g"
  refine r_set0 fun p np => ?_
  have s1 := same_new (o := SetO w p (fun _ => false) 0) np
  have hS1 := s1.seq hS
  fail "g"
  refine ⟨a, _, rfl, hS1, ?_⟩
  refine forEI (walk_enum (xs := ns.map V.int)) (fun i σ' H' => ∃ (S : Int → Bool) (n : Nat) (y2 y3 : Option V), σ' = [some (.ref a), some (.ref p), y2, y3] ∧ Same H H' ∧ H' p = some (SetO w p S n) ∧ n ≤ i ∧ ∀ v, S v = true → v ∈ ns.take i)
    ⟨fun _ => false, 0, none, none, rfl, s1, upd_same, Nat.le_refl _, fun v hv => by cases hv⟩ (fun i σ' H' _ p => ?_) (fun i σ' H' T1 hi p' nT => ?_) (fun σ' H' p' => ?_)
  · obtain ⟨_, _, _, _, _, s, _⟩ := p; exact s.seq hS
  · obtain ⟨S, n, y2, y3, rfl, s, hP, hn, hin⟩ := p'
    have s2 := s.trans (same_new (o := .tup [.int (i : Nat), .int ns[i]]) nT)
    have hS2 := s2.seq hS
    have hP2 := upd_old (o := .tup [.int (i : Nat), .int ns[i]]) nT hP
    have hv := hA.2 ns[i] (List.getElem_mem hi)
    fail "g"
    refine r_itDF (by omega) ?_
    fail "g"
    refine r_itDF (by rw [List.length_map]; omega) ?_
    fail "g"
    refine r_sin hP2 ?_
    have hno : S ns[i] = false := by
      cases h : S ns[i] with
      | false => rfl
      | true =>
        have h1 := hin _ h
        have h2 := hA.1
        rw [← List.take_append_drop i ns, List.nodup_append] at h2
        rw [List.drop_eq_getElem_cons hi] at h2
        exact absurd rfl (h2.2.2 _ h1 _ List.mem_cons_self)
    rw [hno]
    fail "g"
    refine ⟨⟨p, S, n, rfl, hP2⟩, ?_⟩
    fail "g"
    refine r_sadd hP2 (by omega) ?_
    fail "g"
    refine ⟨_, _, _, _, rfl, same_old s2 np, upd_same, by split <;> omega, fun v hv => ?_⟩
    rw [take_one hi]
    rcases Bool.or_eq_true_iff.mp hv with h | h
    · exact List.mem_append_left _ (hin v h)
    · rw [of_decide_eq_true h]; exact List.mem_append_right _ List.mem_cons_self
  · obtain ⟨S, n, y2, y3, rfl, s, hP, hn, hin⟩ := p'
    fail "g"
    exact q _ s
def spx_check_arrangement (K : PySem.W.Frag) (T : Txt K mg) : Sp := fun vs H Q E => ∃ (a : Addr) (ns : List Int) (i : Nat), vs = [.ref a] ∧ SqL K H a (ns.map V.int) ∧ ns.length ≤ 1000 ∧ eR ns = some i ∧ Err H E T.InvalidRow_a (.int i)
theorem okx_check_arrangement (T : Txt K mg) : FnG P w K mg base (L2N.CX P w) 3 T.check_arrangement_a T.check_arrangement_d ["row"] (spx_check_arrangement K T) := by
  refine okX T.check_arrangement_F sc_check_arrangement (fun vs H Q E h => ?_) (fun cdv A ou t H vs Q E hG hr h => ?_)
  · obtain ⟨_, _, _, rfl, _⟩ := h; rfl
  have nd := sc_check_arrangement.nd
  obtain ⟨a, ns, i0, rfl, hS, hlen, hI, q⟩ := h
  refine ⟨_, (pss_cons (sset 1 nd (pe_callTy0 cr_set0 (by rfl) T.m_set (by decide +kernel)))
      (pss_one (ps_for (passes_of rfl) rfl (pi_enumK K (by rfl) T.m_enumerate (pa_cons (pv 0) pa_nil)) (pg_tupK K 2 rfl (pgs_cons (gset 2 nd) (pgs_cons (gset 3 nd) pgs_nil)))
        (pss_cons (ps_if (PW.pt (pw_or (pt_cmpR op_lt (pv 3) pe_int (nomark _)) (pw_or (pt_cmpR op_gt (pv 3) (pe_callB (lenK K) (by rfl) T.m_len PySem.boot_len (pa_cons (pv 0) pa_nil)) (nomark _)) (pw_or1 (pt_cmpR or_sin (pv 3) (pv 1) (by rfl))))))
        (pss_one (ps_raiseV rfl (L2N.takes_of rfl rfl rfl rfl) T.InvalidRow_E (ini_InvalidRow T) (hr.mono (by decide)) T.InvalidRow_i_b (by rfl) (pa_cons (pv 2) pa_nil)))
        pss_nil)
      (pss_one (ps_expr (pe_sadd (pv 1) (pa_cons (pv 3) pa_nil)))))))), ?_⟩
  obtain ⟨hi0, hb, hl⟩ := first_at hI
  fail "ww"
  refine r_set0 fun p np => ?_
  have s1 := same_new (o := SetO w p (fun _ => false) 0) np
  have hS1 := s1.seq hS
  fail "ww"
  refine forEI (walk_enum (xs := ns.map V.int)) (fun i σ' H' => ∃ (S : Int → Bool) (n : Nat) (y2 y3 : Option V), σ' = [some (.ref a), some (.ref p), y2, y3] ∧ Same H H' ∧ H' p = some (SetO w p S n) ∧ n ≤ i ∧ (∀ v, S v = decide (v ∈ ns.take i)) ∧ i ≤ i0)
    ⟨fun _ => false, 0, none, none, rfl, s1, upd_same, Nat.le_refl _, (fun v => by simp), Nat.zero_le _⟩ (fun i σ' H' _ p => ?_) (fun i σ' H' T1 hi p' nT => ?_) (fun σ' H' p' => ?_)
  · obtain ⟨_, _, _, _, _, s, _⟩ := p; exact s.seq hS
  · obtain ⟨S, n, y2, y3, rfl, s, hP, hn, hin, hle⟩ := p'
    have s2 := s.trans (same_new (o := .tup [.int (i : Nat), .int ns[i]]) nT)
    have hS2 := s2.seq hS
    have hP2 := upd_old (o := .tup [.int (i : Nat), .int ns[i]]) nT hP
    have hw := wrR_at hi
    have bad : ¬ (1 ≤ ns[i] ∧ ns[i] ≤ (ns.length : Int) ∧ ns[i] ∉ ns.take i) → i = i0 := fun g => by
      rcases Nat.lt_or_eq_of_le hle with z | z
      · have := hl i z
        rw [hw, decide_eq_false g] at this
        cases this
      · exact z
    have good : (1 ≤ ns[i] ∧ ns[i] ≤ (ns.length : Int) ∧ ns[i] ∉ ns.take i) → i + 1 ≤ i0 := fun g => by
      rcases Nat.lt_or_eq_of_le hle with z | z
      · exact z
      · rw [← z, hw, decide_eq_true g] at hb
        cases hb
    fail "ww"
    refine r_dec (fun g => ?_) (fun g => ?_)
    · fail "ww"
      have := bad (by omega)
      subst this
      exact fun d hd => q _ d s2 hd
    fail "ww"
    rw [List.length_map]
    refine r_dec (fun g2 => ?_) (fun g2 => ?_)
    · fail "ww"
      have := bad (by omega)
      subst this
      exact fun d hd => q _ d s2 hd
    fail "ww"
    refine r_sin hP2 ?_
    rw [hin]
    fail "ww"
    refine r_dec (fun g3 => ?_) (fun g3 => ?_)
    · fail "ww"
      have := bad (fun z => z.2.2 g3)
      subst this
      exact fun d hd => q _ d s2 hd
    fail "ww"
    refine ⟨⟨p, S, n, rfl, hP2⟩, ?_⟩
    fail "ww"
    refine r_sadd hP2 (by omega) ?_
    fail "ww"
    refine ⟨_, _, _, _, rfl, same_old s2 np, upd_same, by split <;> omega, fun v => ?_, good ⟨by omega, by omega, g3⟩⟩
    have e : decide (v ∈ ns.take (i + 1)) = (decide (v ∈ ns.take i) || decide (v = ns[i])) := by
      rw [take_one hi, Bool.eq_iff_iff, decide_eq_true_iff, Bool.or_eq_true, decide_eq_true_iff, decide_eq_true_iff, List.mem_append, List.mem_singleton]
    rw [e, ← hin]
  · obtain ⟨S, n, y2, y3, rfl, s, hP, hn, hin, hle⟩ := p'
    rw [List.length_map] at hle
    omega
def sp_turns (K : PySem.W.Frag) : Sp := fun vs H Q _ => ∃ (x m y : Nat), vs = [.int x, .int m, .int y] ∧ 1 ≤ m ∧ x ≤ 2 ^ 30 ∧ m ≤ 2 ^ 30 ∧ y ≤ 2 ^ 30 ∧ Q (.int (trnM x m y : Nat)) H
theorem ok_turns (T : Txt K mg) : FnG P w K mg base CX0 3 T.turns_a T.turns_d ["alone", "shared", "other"] (sp_turns K) := by
  refine okG T.turns_F sc_turns (fun vs H Q E h => ?_) (fun cdv A ou t H vs Q E hG hr h => ?_)
  · obtain ⟨_, _, _, rfl, _⟩ := h; rfl
  have nd := sc_turns.nd
  obtain ⟨x, m, y, rfl, hm, hx, hm2, hy, q⟩ := h
  refine ⟨_, (pss_cons (ps_if (pt_cmpR op_lt (pv 0) pe_int (nomark _))
        (pss_one ps_never)
        pss_nil)
      (pss_cons (ps_if (pt_cmpR op_lt (pv 1) pe_int (nomark _))
        (pss_one ps_never)
        pss_nil)
      (pss_cons (ps_if (pt_cmpR op_lt (pv 2) pe_int (nomark _))
        (pss_one ps_never)
        pss_nil)
      (pss_cons (ps_if (pt_cmpR op_eq (pe_op op_add (pe_op op_add (pv 0) (pv 1)) (pv 2)) pe_int (nomark _))
        (pss_one (ps_ret pe_int))
        pss_nil)
      (pss_cons (sset 3 nd (pe_op op_fdivW (pe_op op_sub (pe_op op_add (pv 0) (pv 1)) pe_int) (pv 1)))
      (pss_cons (sset 4 nd (pe_op op_fdivW (pe_op op_sub (pe_op op_add (pv 2) (pv 1)) pe_int) (pv 1)))
      (pss_one (ps_ret (pe_callB (call_min2 rfl) (by rfl) T.m_min (by decide +kernel) (pa_cons (pe_op op_add (pe_op op_mulW pe_int (pv 4)) pe_int) (pa_cons (pe_op op_add (pe_op op_mulW pe_int (pv 3)) pe_int) pa_nil))))))))))), ?_⟩
  fail "ww"
  refine r_dec (fun h => absurd h (by omega)) (fun _ => ?_)
  fail "ww"
  refine r_dec (fun h => absurd h (by omega)) (fun _ => ?_)
  fail "ww"
  refine r_dec (fun h => absurd h (by omega)) (fun _ => ?_)
  fail "ww"
  refine r_dec (fun h => ?_) (fun h => ?_)
  · fail "ww"
    have e : trnM x m y = 0 := if_pos (by omega)
    rw [e] at q
    exact q
  · have e : trnM x m y = min (2 * upD y m + 1) (2 * upD x m + 2) := if_neg (by omega)
    rw [e] at q
    fail "ww"
    have b1 : upD x m ≤ x + m - 1 := Nat.div_le_self _ _
    have b2 : upD y m ≤ y + m - 1 := Nat.div_le_self _ _
    refine r_divU hm (by omega) ?_
    fail "ww"
    refine r_divU hm (by omega) ?_
    generalize upD x m = u at *
    generalize upD y m = w at *
    fail "ww"
    refine r_mul2 (by omega) ?_
    fail "ww"
    refine r_mul2 (by omega) ?_
    fail "ww"
    rw [show (if 2 * (u : Int) + 2 < 2 * (w : Int) + 1 then 2 * (u : Int) + 2 else 2 * (w : Int) + 1) = ((min (2 * w + 1) (2 * u + 2) : Nat) : Int) by split <;> omega]
    exact q
def spx_turns (K : PySem.W.Frag) (T : Txt K mg) : Sp := fun vs H Q E => ∃ (x m y k : Int), vs = [.int x, .int m, .int y] ∧ ((x < 0 ∧ k = x) ∨ (0 ≤ x ∧ m < 1 ∧ k = m) ∨ (0 ≤ x ∧ 1 ≤ m ∧ y < 0 ∧ k = y)) ∧ Err H E T.InvalidNumber_a (.int k)
theorem okx_turns (T : Txt K mg) : FnG P w K mg base (L2N.CX P w) 3 T.turns_a T.turns_d ["alone", "shared", "other"] (spx_turns K T) := by
  refine okX T.turns_F sc_turns (fun vs H Q E h => ?_) (fun cdv A ou t H vs Q E hG hr h => ?_)
  · obtain ⟨_, _, _, _, rfl, _⟩ := h; rfl
  have nd := sc_turns.nd
  obtain ⟨x, m, y, k, rfl, hk, q⟩ := h
  refine ⟨_, (pss_cons (ps_if (pt_cmpR op_lt (pv 0) pe_int (nomark _))
        (pss_one (ps_raiseV rfl (L2N.takes_of rfl rfl rfl rfl) T.InvalidNumber_E (ini_InvalidNumber T) (hr.mono (by decide)) T.InvalidNumber_i_b (by rfl) (pa_cons (pv 0) pa_nil)))
        pss_nil)
      (pss_cons (ps_if (pt_cmpR op_lt (pv 1) pe_int (nomark _))
        (pss_one (ps_raiseV rfl (L2N.takes_of rfl rfl rfl rfl) T.InvalidNumber_E (ini_InvalidNumber T) (hr.mono (by decide)) T.InvalidNumber_i_b (by rfl) (pa_cons (pv 1) pa_nil)))
        pss_nil)
      (pss_cons (ps_if (pt_cmpR op_lt (pv 2) pe_int (nomark _))
        (pss_one (ps_raiseV rfl (L2N.takes_of rfl rfl rfl rfl) T.InvalidNumber_E (ini_InvalidNumber T) (hr.mono (by decide)) T.InvalidNumber_i_b (by rfl) (pa_cons (pv 2) pa_nil)))
        pss_nil)
      (pss_cons (ps_if (pt_cmpR op_eq (pe_op op_add (pe_op op_add (pv 0) (pv 1)) (pv 2)) pe_int (nomark _))
        (pss_one (ps_ret pe_int))
        pss_nil)
      (pss_cons (sset 3 nd (pe_op op_fdivW (pe_op op_sub (pe_op op_add (pv 0) (pv 1)) pe_int) (pv 1)))
      (pss_cons (sset 4 nd (pe_op op_fdivW (pe_op op_sub (pe_op op_add (pv 2) (pv 1)) pe_int) (pv 1)))
      (pss_one (ps_ret (pe_callB (call_min2 rfl) (by rfl) T.m_min (by decide +kernel) (pa_cons (pe_op op_add (pe_op op_mulW pe_int (pv 4)) pe_int) (pa_cons (pe_op op_add (pe_op op_mulW pe_int (pv 3)) pe_int) pa_nil))))))))))), ?_⟩
  fail "ww"
  rcases hk with ⟨h1, rfl⟩ | ⟨h0, h1, rfl⟩ | ⟨h0, h1, h2, rfl⟩
  · rw [decide_eq_true h1]
    fail "ww"
    exact fun d hd => q _ d (Same.refl _) hd
  · rw [decide_eq_false (show ¬ x < 0 by omega)]
    fail "ww"
    rw [decide_eq_true h1]
    fail "ww"
    exact fun d hd => q _ d (Same.refl _) hd
  · rw [decide_eq_false (show ¬ x < 0 by omega)]
    fail "ww"
    rw [decide_eq_false (show ¬ m < 1 by omega)]
    fail "ww"
    rw [decide_eq_true h2]
    fail "ww"
    exact fun d hd => q _ d (Same.refl _) hd
def sp_check_sized_script (K : PySem.W.Frag) : Sp := fun vs H Q _ => ∃ (n : Nat) (b : Addr) (ts : List Addr) (cs : List Cmd), vs = [.int n, .ref b] ∧ 1 ≤ n ∧ SqL K H b (ts.map V.ref) ∧ Cm H ts cs ∧ Fits n cs ∧ ∀ H', Same H H' → Q .non H'
theorem ok_check_sized_script (T : Txt K mg) : FnG P w K mg base CX0 4 T.check_sized_script_a T.check_sized_script_d ["size", "commands"] (sp_check_sized_script K) := by
  refine okG T.check_sized_script_F sc_check_sized_script (fun vs H Q E h => ?_) (fun cdv A ou t H vs Q E hG hr h => ?_)
  · obtain ⟨_, _, _, _, rfl, _⟩ := h; rfl
  have nd := sc_check_sized_script.nd
  obtain ⟨n, b, ts, cs, rfl, hn, hS, hC, hF, q⟩ := h
  refine ⟨_, (pss_cons (ps_expr (pe_callG (ok_check_size T) hG (hr.mono (by decide)) (by rfl) T.check_size_g T.check_size_F.kp T.check_size_b .nil pass0 (pa_cons (pv 0) pa_nil)))
      (pss_one (ps_expr (pe_callG (ok_check_script T) hG (hr.mono (by decide)) (by rfl) T.check_script_g T.check_script_F.kp T.check_script_b .nil pass0 (pa_cons (pv 0) (pa_cons (pv 1) pa_nil)))))), ?_⟩
  fail "g"
  refine ⟨n, rfl, hn, ?_⟩
  fail "g"
  refine ⟨n, b, ts, cs, rfl, hS, hC, hF, fun H' s => ?_⟩
  fail "g"
  exact q _ s
def spx_check_sized_script (K : PySem.W.Frag) (T : Txt K mg) : Sp := fun vs H Q E => ∃ (n : Int) (b : Addr) (ts : List Addr) (ws : List Pr) (cy : Addr × V), vs = [.int n, .ref b] ∧ SqL K H b (ts.map V.ref) ∧ Cw H ts ws ∧ BadRun T n ws cy.1 cy.2 ∧ Err H E cy.1 cy.2
theorem okx_check_sized_script (T : Txt K mg) : FnG P w K mg base (L2N.CX P w) 4 T.check_sized_script_a T.check_sized_script_d ["size", "commands"] (spx_check_sized_script K T) := by
  refine okX T.check_sized_script_F sc_check_sized_script (fun vs H Q E h => ?_) (fun cdv A ou t H vs Q E hG hr h => ?_)
  · obtain ⟨_, _, _, _, _, rfl, _⟩ := h; rfl
  have nd := sc_check_sized_script.nd
  obtain ⟨n, b, ts, ws, ⟨c, y⟩, rfl, hS, hC, bd, q⟩ := h
  refine ⟨_, (pss_cons (ps_expr (pe_callX ((ok_check_size T).lift.or (okx_check_size T)) hG (hr.mono (by decide)) (by rfl) T.check_size_g T.check_size_F.kp T.check_size_b (L2N.takes_of rfl rfl rfl rfl) (pa_cons (pv 0) pa_nil)))
      (pss_one (ps_expr (pe_callX ((ok_check_script T).lift.or (okx_check_script T)) hG (hr.mono (by decide)) (by rfl) T.check_script_g T.check_script_F.kp T.check_script_b (L2N.takes_of rfl rfl rfl rfl) (pa_cons (pv 0) (pa_cons (pv 1) pa_nil)))))), ?_⟩
  fail "ww"
  rcases bd with ⟨hn, e1, e2⟩ | ⟨hn, i, hi, e1, e2⟩
  · obtain rfl : c = _ := e1
    obtain rfl : y = _ := e2
    exact .inr ⟨n, rfl, hn, q⟩
  · obtain rfl : c = _ := e1
    obtain rfl : y = _ := e2
    obtain ⟨m, rfl⟩ := Int.eq_ofNat_of_zero_le (show 0 ≤ n by omega)
    refine .inl ⟨m, rfl, by omega, ?_⟩
    fail "ww"
    exact .inr ⟨_, b, ts, ws, i, rfl, hS, hC, hi, q⟩
def sp_unchanged_number (K : PySem.W.Frag) : Sp := fun vs H Q _ => ∃ (b a : Addr) (n : Nat) (l : List Int) (ts : List Addr) (cs : List Cmd), vs = [.ref b, .ref a] ∧ 1 ≤ n ∧ n ≤ 100 ∧ SqL K H b (ts.map V.ref) ∧ Cm H ts cs ∧ Fits n cs ∧ H a = some (.lst (l.map V.int)) ∧ l.Perm (ascN n) ∧
  ∀ (H' : Hp), Same H H' → (runM l cs ≠ l → Q .non H') ∧ (runM l cs = l → Q (.int (eIx (lenM n cs) (ascN n) l : Nat)) H')
theorem ok_unchanged_number (T : Txt K mg) : FnG P w K mg base CX0 4 T.unchanged_number_a T.unchanged_number_d ["commands", "row"] (sp_unchanged_number K) := by
  refine okG T.unchanged_number_F sc_unchanged_number (fun vs H Q E h => ?_) (fun cdv A ou t H vs Q E hG hr h => ?_)
  · obtain ⟨_, _, _, _, _, _, rfl, _⟩ := h; rfl
  have nd := sc_unchanged_number.nd
  obtain ⟨b, a, n, l, ts, cs, rfl, hn1, hn, hB, hC, hF, hA, hL, q⟩ := h
  refine ⟨_, (pss_cons (ps_expr (pe_callG (ok_check_arrangement T) hG (hr.mono (by decide)) (by rfl) T.check_arrangement_g T.check_arrangement_F.kp T.check_arrangement_b .nil pass0 (pa_cons (pv 1) pa_nil)))
      (pss_cons (ps_expr (pe_callG (ok_check_script T) hG (hr.mono (by decide)) (by rfl) T.check_script_g T.check_script_F.kp T.check_script_b .nil pass0 (pa_cons (pe_callB (lenK K) (by rfl) T.m_len PySem.boot_len (pa_cons (pv 1) pa_nil)) (pa_cons (pv 0) pa_nil))))
      (pss_cons (ps_if (pt_cmpR (neDK K hr.units) (pe_callG (ok_sort_stretches T) hG (hr.mono (by decide)) (by rfl) T.sort_stretches_g T.sort_stretches_F.kp T.sort_stretches_b .nil pass0 (pa_cons (pv 1) (pa_cons (pv 0) pa_nil))) (pv 1) (nomark _))
        (pss_one (ps_ret pe_non))
        pss_nil)
      (pss_cons (sset 2 nd pe_int)
      (pss_cons (sset 3 nd (pe_callB (sortedK K) (by rfl) T.m_sorted (by decide +kernel) (pa_cons (pv 1) pa_nil)))
      (pss_cons (ps_for PassesOwn.never rfl (pi_listK K (pe_callG (ok_linked_blocks T) hG (hr.mono (by decide)) (by rfl) T.linked_blocks_g T.linked_blocks_F.kp T.linked_blocks_b .nil pass0 (pa_cons (pe_callB (lenK K) (by rfl) T.m_len PySem.boot_len (pa_cons (pv 1) pa_nil)) (pa_cons (pv 0) pa_nil)))) (pg_tupK K 2 rfl (pgs_cons (gset 4 nd) (pgs_cons (gset 5 nd) pgs_nil)))
        (pss_cons (sset 6 nd (pe_slice (sl_listK K) (pv 1) (po_some (pe_op op_sub (pv 4) pe_int)) (po_some (pv 5))))
      (pss_cons (saug 2 nd (pe_callBfun cr_comb (by rfl) T.g_comb (pa_cons (pe_callB (lenK K) (by rfl) T.m_len PySem.boot_len (pa_cons (pv 3) pa_nil)) (pa_cons (pe_callB (lenK K) (by rfl) T.m_len PySem.boot_len (pa_cons (pv 6) pa_nil)) pa_nil))) ip_mulW)
      (pss_cons (saug 2 nd (pe_callG (ok_choice_number T) hG (hr.mono (by decide)) (by rfl) T.choice_number_g T.choice_number_F.kp T.choice_number_b .nil pass0 (pa_cons (pv 3) (pa_cons (pv 6) pa_nil))) ip_add)
      (pss_one (ps_setLc (i := 3) (hy := rfl) (hyl := rfl) (hsw := sw_true rfl rfl rfl (by decide +kernel)) (own := [("value", 7)]) (hc := rfl) (hN := nd) (hi := (pi_listK K (pv 3))) (ok := blkOk_by (by rfl)) (hg := fun _ _ _ _ _ => (gset 7 nd)) (ht := (fun _ _ _ _ _ => pts_one (pt_cmpR (notInK K) (pv 7) (pv 6) (by rfl)))) (he := fun _ _ _ _ _ => (pv 7))))))))
      (pss_one (ps_ret (pv 2))))))))), ?_⟩
  have hll := perm_len hL
  fail "ww"
  refine ⟨a, l, rfl, sq hA, arr_asc hL, by omega, fun H1 s1 => ?_⟩
  fail "ww"
  rw [List.length_map, hll]
  refine ⟨n, b, ts, cs, rfl, s1.seq hB, hC.same s1, hF, fun H2 s2 => ?_⟩
  fail "ww"
  have s12 := s1.trans s2
  refine ⟨a, b, l, ts, cs, rfl, sq (s12 _ _ hA), s12.seq hB, hC.same s12, by omega, by rw [hll]; exact hF, fun H3 p3 s3 n3 h3 => ?_⟩
  fail "ww"
  have s13 := s12.trans s3
  refine r_neL (sq h3) (sq (s13 _ _ hA)) ?_
  fail "ww"
  refine r_ndec (fun hne => ?_) (fun heq => ?_)
  · fail "ww"
    exact (q _ s13).1 hne
  · fail "ww"
    refine n_sorted (sq (s13 _ _ hA)) ?_
    rw [srt_asc hL]
    refine new_ fun pv H4 nv s4 hv => ?_
    fail "ww"
    rw [List.length_map, hll]
    have s14 := s13.trans s4
    refine ⟨n, b, ts, cs, rfl, by omega, s14.seq hB, hC.same s14, hF, fun H5 p us s5 np hp hU => ?_⟩
    fail "ww"
    obtain ⟨tl0, _⟩ := blkM_ok hF hn1
    have hsum := lenM_sum hF hn1
    have hup := asc_lt n
    have hrise : Rise (lenM n cs) l := by
      have := (tile_rise (l := l) tl0 (Nat.le_refl 1) (by omega)).mpr ((fix_rise hF hn1 hll).mp heq)
      exact this
    have hIx := (enu_at (lenM n cs) hup (by rw [hsum, ascN_length']) hL hrise).2
    rw [ascN_length'] at hIx
    have hI7 : eIx (lenM n cs) (ascN n) l ≤ 2 ^ 700 := Nat.le_trans (Nat.le_of_lt hIx) (mulM_700 (by omega) hn)
    have hlm : lenM n cs = (blkM n cs).map fun c => c.2 - c.1 + 1 := rfl
    rw [hlm] at hrise hI7 hsum
    have q' := (q · · |>.2 heq)
    rw [hlm] at q'
    generalize blkM n cs = bl at *
    have s15 := s14.trans s5
    have hA5 := s15 _ _ hA
    have hv5 := s5 _ _ hv
    clear s1 s2 s12 s3 s13 s4 s14 s5 h3 n3 nv hv hIx
    refine forA (walk_list (xs := us.map V.ref)) (fun i σ' H' => ∃ (y4 y5 y6 y7 : Option V) (pv : Addr) (vals : List Int) (m st : Nat), σ' = [some (.ref b), some (.ref a), some (.int m), some (.ref pv), y4, y5, y6, y7] ∧ Same H5 H' ∧ H' pv = some (.lst (vals.map V.int)) ∧ vals.Pairwise (· < ·) ∧ 1 ≤ st ∧ Tile st (bl.drop i) (n + 1) ∧ (l.drop (st - 1)).Perm vals ∧ Rise ((bl.drop i).map fun c => c.2 - c.1 + 1) (l.drop (st - 1)) ∧
      m * mulM ((bl.drop i).map fun c => c.2 - c.1 + 1) vals.length + eIx ((bl.drop i).map fun c => c.2 - c.1 + 1) vals (l.drop (st - 1)) = eIx (bl.map fun c => c.2 - c.1 + 1) (ascN n) l)
      ⟨none, none, none, none, pv, ascN n, 0, 1, rfl, Same.refl _, hv5, hup, Nat.le_refl _, tl0, hL, hrise, by rw [Nat.zero_mul, Nat.zero_add]; rfl⟩ (fun i σ' H' _ p' => ?_) (fun i σ' H' hi p' => ?_) (fun σ' H' p' => ?_)
    · obtain ⟨_, _, _, _, _, _, _, _, _, s, _⟩ := p'; exact sq (s _ _ hp)
    · clear hv5
      obtain ⟨y4, y5, y6, y7, pv, vals, m, st, rfl, s, hv, hvu, hst, htl, hpm, hri, he⟩ := p'
      have hi' : i < bl.length := by rw [← hU.len]; simpa using hi
      obtain ⟨t0, et, ht⟩ := hU.idx hi'
      have e1 : (us.map V.ref)[i] = .ref t0 := by
        have : (us.map V.ref)[i]? = some (.ref t0) := by rw [List.getElem?_map, et]; rfl
        rw [List.getElem?_eq_getElem hi] at this
        exact Option.some.inj this
      rw [e1]
      rw [List.drop_eq_getElem_cons hi'] at htl hri he
      rw [List.map_cons] at hri he
      generalize bl[i] = c at *
      have hc1 := htl.1
      have hc2 := htl.2.1
      have htl2 := htl.2.2
      have hle := (tile_le htl2).1
      have hsm := tile_sum htl2
      generalize (bl.drop (i + 1)).map (fun c => c.2 - c.1 + 1) = ks' at *
      generalize hk0 : c.2 - c.1 + 1 = k0 at *
      have hdl : (l.drop (st - 1)).length = n - (st - 1) := by rw [List.length_drop, hll]
      have hvl : vals.length = n - (st - 1) := by rw [← hpm.length_eq, hdl]
      obtain ⟨cc, hcc, hl⟩ := List.mem_flatMap.mp ((enu_mem (k0 :: ks') hvu (by rw [List.sum_cons]; omega)).mpr ⟨hpm, hri⟩)
      obtain ⟨t, ht2, e⟩ := List.mem_map.mp hl
      obtain ⟨h1, h2⟩ := chs_mem.mp hcc
      have ec : (l.drop (st - 1)).take k0 = cc := by rw [← e, ← h2, List.take_left]
      have ed : (l.drop (st - 1)).drop k0 = t := by rw [← e, ← h2, List.drop_left]
      have hrl : (rest vals cc).length = vals.length - k0 := by rw [rest_len hvu h1, h2]
      obtain ⟨p1, p2⟩ := (enu_mem ks' (rest_up hvu) (by rw [hrl]; omega)).mp ht2
      have hidx : eIx (k0 :: ks') vals (l.drop (st - 1)) = chIx vals cc * mulM ks' (vals.length - k0) + eIx ks' (rest vals cc) t := by
        show chIx vals ((l.drop (st - 1)).take k0) * mulM ks' (vals.length - k0) + eIx ks' (rest vals ((l.drop (st - 1)).take k0)) ((l.drop (st - 1)).drop k0) = _
        rw [ec, ed]
      have hdef : mulM (k0 :: ks') vals.length = cmb vals.length k0 * mulM ks' (vals.length - k0) := rfl
      rw [hidx, hdef] at he
      have hq : 0 < mulM ks' (vals.length - k0) := mul_pos' ks' (by omega)
      have hcp := cmb_pos (show k0 ≤ vals.length by omega)
      have hcn : cmb vals.length k0 ≤ 2 ^ n := Nat.le_trans (cmb_le _ _) (Nat.pow_le_pow_right (by decide) (by omega))
      have hmb : m ≤ 2 ^ 700 := by
        have h3 : m * 1 ≤ m * (cmb vals.length k0 * mulM ks' (vals.length - k0)) := Nat.mul_le_mul_left _ (Nat.mul_pos hcp hq)
        omega
      have hAk := s _ _ hA5
      have hdd : l.drop (c.2 + 1 - 1) = t := by rw [← ed, List.drop_drop]; congr 1; omega
      refine r_gtup (sqT (s _ _ ht)) rfl ?_
      fail "ww"
      refine n_slM (ns := l) (a := st - 1) (c := c.2) (sq hAk) (by omega) rfl ?_
      rw [show c.2 - (st - 1) = k0 by omega, ec]
      refine new_ fun p6 H6 n6 s6 h6 => ?_
      have hv6 := s6 _ _ hv
      fail "ww"
      refine ⟨vals.length, k0, by rw [List.length_map, List.length_map, h2], by omega, by omega, ?_⟩
      fail "ww"
      refine r_I (wide_mul (a := 701) (b := n + 1) (nat_bound hmb) (nat_bound hcn) (by decide) (by omega) (by omega)) ?_
      fail "ww"
      refine ⟨pv, p6, vals, cc, rfl, hv6, h6, by omega, hvu, h1, fun H7 s7 => ?_⟩
      fail "ww"
      have hv7 := s7 _ _ hv6
      have h67 := s7 _ _ h6
      intro D nD
      refine lc_sameAI (walk_list (xs := vals.map V.int)) (fun j => (((vals.take j).filter fun v => !decide (v ∈ cc)).map V.int)) nD (Same.refl _) rfl (fun H s => sq (s _ _ hv7)) (fun j Hj hj pp => ?_) (fun H8 s8 hD => ?_)
      · have hcj := pp.1 _ _ h67
        fail "ww"
        refine ⟨rfl, ?_⟩
        fail "ww"
        refine ⟨p6, _, rfl, .inl (sq hcj), rfl, by rw [List.all_map, List.all_eq_true]; exact fun x _ => rfl, ?_⟩
        rw [inv_ints]
        refine ⟨_, rfl, ?_⟩
        by_cases hm : vals[j] ∈ cc
        · rw [decide_eq_true hm]
          refine r_nF ?_
          exact lc_skip pp (Same.refl _) (acc_filtF hj (by simp [hm]))
        · rw [decide_eq_false hm]
          refine r_nT ?_
          fail "ww"
          exact lc_add pp (Same.refl _) nD (acc_filtT hj (by simp [hm])) (filt_len (by omega))
      · rw [List.take_of_length_le (Nat.le_refl _)] at hD
        replace hD : H8 D = some (.lst ((rest vals cc).map V.int)) := hD
        rw [show ((m : Nat) : Int) * ((cmb vals.length k0 : Nat) : Int) + ((chIx vals cc : Nat) : Int) = ((m * cmb vals.length k0 + chIx vals cc : Nat) : Int) by rw [Int.natCast_add, Int.natCast_mul]]
        refine ⟨_, _, _, _, D, rest vals cc, m * cmb vals.length k0 + chIx vals cc, c.2 + 1, rfl, s.trans (s6.trans (s7.trans s8)), hD, rest_up hvu, by omega, htl2, by rw [hdd]; exact p1, by rw [hdd]; exact p2, ?_⟩
        rw [hdd, hrl, ← he, Nat.add_mul, Nat.mul_assoc]; omega
    · obtain ⟨y4, y5, y6, y7, pv, vals, m, st, rfl, s, hv, hvu, hst, htl, hpm, hri, he⟩ := p'
      rw [List.length_map, hU.len, List.drop_of_length_le (Nat.le_refl _)] at he
      replace he : m * 1 + 0 = eIx (bl.map fun c => c.2 - c.1 + 1) (ascN n) l := he
      fail "ww"
      rw [show m = eIx (bl.map fun c => c.2 - c.1 + 1) (ascN n) l by omega]
      exact q' _ (s15.trans s)
def spx_unchanged_number (K : PySem.W.Frag) (T : Txt K mg) : Sp := fun vs H Q E => ∃ (b a : Addr) (ns : List Int) (ts : List Addr) (ws : List Pr) (cy : Addr × V), vs = [.ref b, .ref a] ∧ 1 ≤ ns.length ∧ ns.length ≤ 1000 ∧ H a = some (.lst (ns.map V.int)) ∧ SqL K H b (ts.map V.ref) ∧ Cw H ts ws ∧ BadGB T ns ws cy.1 cy.2 ∧ Err H E cy.1 cy.2
theorem okx_unchanged_number (T : Txt K mg) : FnG P w K mg base (L2N.CX P w) 4 T.unchanged_number_a T.unchanged_number_d ["commands", "row"] (spx_unchanged_number K T) := by
  refine okX T.unchanged_number_F sc_unchanged_number (fun vs H Q E h => ?_) (fun cdv A ou t H vs Q E hG hr h => ?_)
  · obtain ⟨_, _, _, _, _, _, rfl, _⟩ := h; rfl
  have nd := sc_unchanged_number.nd
  obtain ⟨b, a, ns, ts, ws, ⟨c, y⟩, rfl, hn1, hn, hA, hS, hC, bd, q⟩ := h
  refine ⟨_, (pss_cons (ps_expr (pe_callX ((ok_check_arrangement T).lift.or (okx_check_arrangement T)) hG (hr.mono (by decide)) (by rfl) T.check_arrangement_g T.check_arrangement_F.kp T.check_arrangement_b (L2N.takes_of rfl rfl rfl rfl) (pa_cons (pv 1) pa_nil)))
      (pss_cons (ps_expr (pe_callX ((ok_check_script T).lift.or (okx_check_script T)) hG (hr.mono (by decide)) (by rfl) T.check_script_g T.check_script_F.kp T.check_script_b (L2N.takes_of rfl rfl rfl rfl) (pa_cons (pe_callB (lenK K) (by rfl) T.m_len PySem.boot_len (pa_cons (pv 1) pa_nil)) (pa_cons (pv 0) pa_nil))))
      (pss_cons (ps_if (pt_cmpR (neDK K hr.units) (pe_callG (ok_sort_stretches T) hG (hr.mono (by decide)) (by rfl) T.sort_stretches_g T.sort_stretches_F.kp T.sort_stretches_b .nil pass0 (pa_cons (pv 1) (pa_cons (pv 0) pa_nil))) (pv 1) (nomark _))
        (pss_one (ps_ret pe_non))
        pss_nil)
      (pss_cons (sset 2 nd pe_int)
      (pss_cons (sset 3 nd (pe_callB (sortedK K) (by rfl) T.m_sorted (by decide +kernel) (pa_cons (pv 1) pa_nil)))
      (pss_cons (ps_for (passes_of rfl) rfl (pi_listK K (pe_callG (ok_linked_blocks T) hG (hr.mono (by decide)) (by rfl) T.linked_blocks_g T.linked_blocks_F.kp T.linked_blocks_b .nil pass0 (pa_cons (pe_callB (lenK K) (by rfl) T.m_len PySem.boot_len (pa_cons (pv 1) pa_nil)) (pa_cons (pv 0) pa_nil)))) (pg_tupK K 2 rfl (pgs_cons (gset 4 nd) (pgs_cons (gset 5 nd) pgs_nil)))
        (pss_cons (sset 6 nd (pe_slice (sl_listK K) (pv 1) (po_some (pe_op op_sub (pv 4) pe_int)) (po_some (pv 5))))
      (pss_cons (saug 2 nd (pe_callBfun cr_comb (by rfl) T.g_comb (pa_cons (pe_callB (lenK K) (by rfl) T.m_len PySem.boot_len (pa_cons (pv 3) pa_nil)) (pa_cons (pe_callB (lenK K) (by rfl) T.m_len PySem.boot_len (pa_cons (pv 6) pa_nil)) pa_nil))) ip_mulW)
      (pss_cons (saug 2 nd (pe_callG (ok_choice_number T) hG (hr.mono (by decide)) (by rfl) T.choice_number_g T.choice_number_F.kp T.choice_number_b .nil pass0 (pa_cons (pv 3) (pa_cons (pv 6) pa_nil))) ip_add)
      (pss_one (ps_setLc (i := 3) (hy := rfl) (hyl := rfl) (hsw := sw_true rfl rfl rfl (by decide +kernel)) (own := [("value", 7)]) (hc := rfl) (hN := nd) (hi := (pi_listK K (pv 3))) (ok := blkOk_by (by rfl)) (hg := fun _ _ _ _ _ => (gset 7 nd)) (ht := (fun _ _ _ _ _ => pts_one (pt_cmpR (notInK K) (pv 7) (pv 6) (by rfl)))) (he := fun _ _ _ _ _ => (pv 7))))))))
      (pss_one (ps_ret (pv 2))))))))), ?_⟩
  fail "ww"
  rcases bd with ⟨i, hi, e1, e2⟩ | ⟨hr, i, hi, e1, e2⟩
  · obtain rfl : c = _ := e1
    obtain rfl : y = _ := e2
    exact .inr ⟨a, ns, i, rfl, sq hA, hn, hi, q⟩
  · obtain rfl : c = _ := e1
    obtain rfl : y = _ := e2
    refine .inl ⟨a, ns, rfl, sq hA, eR_arr hr, hn, fun H1 s1 => ?_⟩
    fail "ww"
    rw [List.length_map]
    exact .inr ⟨_, b, ts, ws, i, rfl, s1.seq hS, hC.same s1, hi, q.up s1⟩
def sp_law_turns_told (K : PySem.W.Frag) : Sp := fun vs H Q _ => ∃ (x m y : Int), vs = [.int x, .int m, .int y] ∧ x ≤ 2 ^ 30 ∧ m ≤ 2 ^ 30 ∧ y ≤ 2 ^ 30 ∧
  ∀ (H' : Hp) (p : Addr), Same H H' → H p = none → H' p = some (.lst (lsT (dTu x m y))) → Q (.ref p) H'
theorem ok_law_turns_told (T : Txt K mg) : FnG P w K mg base CX0 4 T.law_turns_told_a T.law_turns_told_d ["left", "both", "right"] (sp_law_turns_told K) := by
  refine okG T.law_turns_told_F sc_law_turns_told (fun vs H Q E h => ?_) (fun cdv A ou t H vs Q E hG hr h => ?_)
  · obtain ⟨_, _, _, rfl, _⟩ := h; rfl
  have nd := sc_law_turns_told.nd
  obtain ⟨x, m, y, rfl, hx, hm, hy, k⟩ := h
  refine ⟨_, (pss_cons (sset 3 nd pe_non)
      (pss_hold (i := 4) rfl rfl nd rfl rfl ⟨rfl, by decide, .inl T.SortError_g⟩ takesN0 (fun W pn xe tk po => (pss_one (ps_expr (pe_callX ((ok_turns T).lift.or (okx_turns T)) hG (hr.mono (by decide)) (by rfl) T.turns_g T.turns_F.kp T.turns_b tk (pa_cons (pv 0) (pa_cons (pv 1) (pa_cons (pv 2) pa_nil)))))))
        (fun a oe cls d pn hz hf => (pss_one (sset 3 nd (pv 4))))
        (pss_one (ps_ret (pe_ifExp (pt_cmpR op_isN (pv 3) pe_non (nomark _)) (pe_lst (pa_cons pe_str (pa_cons pe_non pa_nil))) (pe_lst (pa_cons pe_never (pa_cons pe_never pa_nil))))))
        (fun a oe cls d hz hf => (pss_one (ps_ret (pe_ifExp (pt_cmpR op_isN (pv 3) pe_non (nomark _)) (pe_lst (pa_cons pe_str (pa_cons pe_non pa_nil))) (pe_lst (pa_cons (pe_callEH (okE_law_kind T) hz hf hG (hr.mono (by decide)) (by rfl) T.law_kind_g T.law_kind_F.kp T.law_kind_b (pa_cons (pv 3) pa_nil)) (pa_cons (pe_xfH hr hz hf (pv 3)) pa_nil))))))))), ?_⟩
  have fin : ∀ (c : Addr) (j : Nat) (i : Int), PySem.W.exmOne K (.ref c) (.ref T.SortError_a) = some true → Kd7 K T c j → dTu x m y = some (wordsC.getD j "", i) → Err H (fun cls d H' => wHold K (Value.ref T.SortError_a) 4 (fun a cls d => tAsg (tVar 4) (gName 3)) (fun a cls d => tRet (tIf (tTest (tOp (fun x y H Q => y = V.non ∧ Q (V.bl (decide (x = V.non))) H) (tVar 3) (tC V.non))) (tLst (tCons (tC (V.str "none")) (tCons (tC V.non) tNil))) (tLst (tCons (tCallE (spe_law_kind K T a cls d) (tCons (tVar 3) tNil)) (tCons (tXfA K a cls d "value" (tVar 3)) tNil))))) (fun _ _ _ _ => False) { nx := fun _ H' => Q V.non H', rt := Q } cls d [some (.int x), some (.int m), some (.int y), some .non, none] H') c (.int i) := fun c j i te kd e H' d s hd' => by
    refine ⟨true, te, fun _ x hx => ?_, fun z => by cases z⟩
    fail "ww"
    refine ⟨rfl, ?_⟩
    rw [decide_eq_false (by intro z; cases z)]
    fail "ww"
    refine ⟨c, d, j, .int i, rfl, rfl, rfl, upd_same, kd, fun H2 s2 => ?_⟩
    fail "ww"
    refine ⟨rfl, c, d, _, .int i, rfl, rfl, kd.xf, kd.no, s2 _ _ upd_same, rfl, ?_⟩
    fail "ww"
    refine new_ fun p H3 n3 s3 h3 => ?_
    have s0 := (s.trans (same_new hd')).trans s2
    refine k _ p (s0.trans s3) (s0.free n3) ?_
    rw [e]
    exact h3
  have good : dTu x m y = none → ∀ H', Same H H' → New (fun x H1 => Q x H1) H' (.lst [.str "none", .non]) := fun e H' s => new_ fun p H1 n1 s1 h1 => by
    refine k _ p (s.trans s1) (s.free n1) ?_
    rw [e]; exact h1
  have num : ∀ i : Int, dTu x m y = some (("number" : Str), i) → Err H (fun cls d H' => wHold K (Value.ref T.SortError_a) 4 (fun a cls d => tAsg (tVar 4) (gName 3)) (fun a cls d => tRet (tIf (tTest (tOp (fun x y H Q => y = V.non ∧ Q (V.bl (decide (x = V.non))) H) (tVar 3) (tC V.non))) (tLst (tCons (tC (V.str "none")) (tCons (tC V.non) tNil))) (tLst (tCons (tCallE (spe_law_kind K T a cls d) (tCons (tVar 3) tNil)) (tCons (tXfA K a cls d "value" (tVar 3)) tNil))))) (fun _ _ _ _ => False) { nx := fun _ H' => Q V.non H', rt := Q } cls d [some (.int x), some (.int m), some (.int y), some .non, none] H') T.InvalidNumber_a (.int i) := fun i e => fin _ 3 _ T.InvalidNumber_E.te (kd7_number T) e
  fail "ww"
  by_cases h1 : x < 0
  · exact .inr ⟨x, m, y, x, rfl, .inl ⟨h1, rfl⟩, num _ (by unfold dTu; rw [if_pos h1])⟩
  by_cases h2 : m < 1
  · exact .inr ⟨x, m, y, m, rfl, .inr (.inl ⟨by omega, h2, rfl⟩), num _ (by unfold dTu; rw [if_neg h1, if_pos h2])⟩
  by_cases h3 : y < 0
  · exact .inr ⟨x, m, y, y, rfl, .inr (.inr ⟨by omega, by omega, h3, rfl⟩), num _ (by unfold dTu; rw [if_neg h1, if_neg h2, if_pos h3])⟩
  obtain ⟨x', rfl⟩ := Int.eq_ofNat_of_zero_le (show 0 ≤ x by omega)
  obtain ⟨m', rfl⟩ := Int.eq_ofNat_of_zero_le (show 0 ≤ m by omega)
  obtain ⟨y', rfl⟩ := Int.eq_ofNat_of_zero_le (show 0 ≤ y by omega)
  refine .inl ⟨x', m', y', rfl, by omega, by omega, by omega, by omega, ?_⟩
  fail "ww"
  refine ⟨rfl, ?_⟩
  rw [decide_eq_true rfl]
  fail "ww"
  exact good (by unfold dTu; rw [if_neg h1, if_neg h2, if_neg h3]) _ (Same.refl _)
def sp_run (K : PySem.W.Frag) : Sp := fun vs H Q _ => ∃ (a b : Addr) (ns : List Int) (ts : List Addr) (cs : List Cmd), vs = [.ref a, .ref b] ∧ SqL K H a (ns.map V.int) ∧ SqL K H b (ts.map V.ref) ∧ Cm H ts cs ∧ 1 ≤ ns.length ∧ ns.length ≤ 1000 ∧ Fits ns.length cs ∧
  ∀ (H' : Hp) (p : Addr), Same H H' → H p = none → H' p = some (.lst ((runM ns cs).map V.int)) → Q (.ref p) H'
theorem ok_run (T : Txt K mg) : FnG P w K mg base CX0 5 T.run_a T.run_d ["row", "commands"] (sp_run K) := by
  refine okG T.run_F sc_run (fun vs H Q E h => ?_) (fun cdv A ou t H vs Q E hG hr h => ?_)
  · obtain ⟨_, _, _, _, _, rfl, _⟩ := h; rfl
  have nd := sc_run.nd
  obtain ⟨a, b, ns, ts, cs, rfl, hS, hB, hC, hn, hn2, hF, q⟩ := h
  refine ⟨_, (pss_cons (ps_expr (pe_callG (ok_check_sized_script T) hG (hr.mono (by decide)) (by rfl) T.check_sized_script_g T.check_sized_script_F.kp T.check_sized_script_b .nil pass0 (pa_cons (pe_callB (lenK K) (by rfl) T.m_len PySem.boot_len (pa_cons (pv 0) pa_nil)) (pa_cons (pv 1) pa_nil))))
      (pss_one (ps_ret (pe_callG (ok_sort_stretches T) hG (hr.mono (by decide)) (by rfl) T.sort_stretches_g T.sort_stretches_F.kp T.sort_stretches_b .nil pass0 (pa_cons (pv 0) (pa_cons (pv 1) pa_nil)))))), ?_⟩
  fail "g"
  rw [List.length_map]
  refine ⟨ns.length, b, ts, cs, rfl, hn, hB, hC, hF, fun H1 s1 => ?_⟩
  fail "g"
  refine ⟨a, b, ns, ts, cs, rfl, s1.seq hS, s1.seq hB, hC.same s1, hn2, hF, fun H2 p s2 np hP => ?_⟩
  fail "g"
  exact q _ p (s1.trans s2) (s1.free np) hP
def spx_run (K : PySem.W.Frag) (T : Txt K mg) : Sp := fun vs H Q E => ∃ (a b : Addr) (ns : List Int) (ts : List Addr) (ws : List Pr) (cy : Addr × V), vs = [.ref a, .ref b] ∧ SqL K H a (ns.map V.int) ∧ SqL K H b (ts.map V.ref) ∧ Cw H ts ws ∧ BadRun T ns.length ws cy.1 cy.2 ∧ Err H E cy.1 cy.2
theorem okx_run (T : Txt K mg) : FnG P w K mg base (L2N.CX P w) 5 T.run_a T.run_d ["row", "commands"] (spx_run K T) := by
  refine okX T.run_F sc_run (fun vs H Q E h => ?_) (fun cdv A ou t H vs Q E hG hr h => ?_)
  · obtain ⟨_, _, _, _, _, _, rfl, _⟩ := h; rfl
  have nd := sc_run.nd
  obtain ⟨a, b, ns, ts, ws, cy, rfl, hA, hS, hC, bd, q⟩ := h
  refine ⟨_, (pss_cons (ps_expr (pe_callX ((ok_check_sized_script T).lift.or (okx_check_sized_script T)) hG (hr.mono (by decide)) (by rfl) T.check_sized_script_g T.check_sized_script_F.kp T.check_sized_script_b (L2N.takes_of rfl rfl rfl rfl) (pa_cons (pe_callB (lenK K) (by rfl) T.m_len PySem.boot_len (pa_cons (pv 0) pa_nil)) (pa_cons (pv 1) pa_nil))))
      (pss_one (ps_ret (pe_callG (ok_sort_stretches T) hG (hr.mono (by decide)) (by rfl) T.sort_stretches_g T.sort_stretches_F.kp T.sort_stretches_b .nil pass0 (pa_cons (pv 0) (pa_cons (pv 1) pa_nil)))))), ?_⟩
  fail "ww"
  refine .inr ⟨_, b, ts, ws, cy, rfl, hS, hC, by rw [List.length_map]; exact bd, q⟩
def sp_blocks (K : PySem.W.Frag) : Sp := fun vs H Q _ => ∃ (n : Nat) (b : Addr) (ts : List Addr) (cs : List Cmd), vs = [.int n, .ref b] ∧ 1 ≤ n ∧ n ≤ 1000 ∧ SqL K H b (ts.map V.ref) ∧ Cm H ts cs ∧ Fits n cs ∧
  ∀ (H' : Hp) (p : Addr) (us : List Addr), Same H H' → H p = none → H' p = some (.lst (us.map V.ref)) → Cm H' us (blkM n cs) → Q (.ref p) H'
theorem ok_blocks (T : Txt K mg) : FnG P w K mg base CX0 5 T.blocks_a T.blocks_d ["size", "commands"] (sp_blocks K) := by
  refine okG T.blocks_F sc_blocks (fun vs H Q E h => ?_) (fun cdv A ou t H vs Q E hG hr h => ?_)
  · obtain ⟨_, _, _, _, rfl, _⟩ := h; rfl
  have nd := sc_blocks.nd
  obtain ⟨n, b, ts, cs, rfl, hn1, hn, hB, hC, hF, q⟩ := h
  refine ⟨_, (pss_cons (ps_expr (pe_callG (ok_check_sized_script T) hG (hr.mono (by decide)) (by rfl) T.check_sized_script_g T.check_sized_script_F.kp T.check_sized_script_b .nil pass0 (pa_cons (pv 0) (pa_cons (pv 1) pa_nil))))
      (pss_one (ps_ret (pe_callG (ok_linked_blocks T) hG (hr.mono (by decide)) (by rfl) T.linked_blocks_g T.linked_blocks_F.kp T.linked_blocks_b .nil pass0 (pa_cons (pv 0) (pa_cons (pv 1) pa_nil)))))), ?_⟩
  fail "ww"
  refine ⟨n, b, ts, cs, rfl, hn1, hB, hC, hF, fun H1 s1 => ?_⟩
  fail "ww"
  refine ⟨n, b, ts, cs, rfl, hn, by fail "kp", by fail "kp", hF, fun H2 p us s2 np hp hU => ?_⟩
  exact q _ p us (by fail "kp") (by fail "kpz") hp hU
def spx_blocks (K : PySem.W.Frag) (T : Txt K mg) : Sp := fun vs H Q E => ∃ (n : Int) (b : Addr) (ts : List Addr) (ws : List Pr) (cy : Addr × V), vs = [.int n, .ref b] ∧ n ≤ 1000 ∧ SqL K H b (ts.map V.ref) ∧ Cw H ts ws ∧ BadRun T n ws cy.1 cy.2 ∧ Err H E cy.1 cy.2
theorem okx_blocks (T : Txt K mg) : FnG P w K mg base (L2N.CX P w) 5 T.blocks_a T.blocks_d ["size", "commands"] (spx_blocks K T) := by
  refine okX T.blocks_F sc_blocks (fun vs H Q E h => ?_) (fun cdv A ou t H vs Q E hG hr h => ?_)
  · obtain ⟨_, _, _, _, _, rfl, _⟩ := h; rfl
  have nd := sc_blocks.nd
  obtain ⟨n, b, ts, ws, cy, rfl, hn, hS, hC, bd, q⟩ := h
  refine ⟨_, (pss_cons (ps_expr (pe_callX ((ok_check_sized_script T).lift.or (okx_check_sized_script T)) hG (hr.mono (by decide)) (by rfl) T.check_sized_script_g T.check_sized_script_F.kp T.check_sized_script_b (L2N.takes_of rfl rfl rfl rfl) (pa_cons (pv 0) (pa_cons (pv 1) pa_nil))))
      (pss_one (ps_ret (pe_callG (ok_linked_blocks T) hG (hr.mono (by decide)) (by rfl) T.linked_blocks_g T.linked_blocks_F.kp T.linked_blocks_b .nil pass0 (pa_cons (pv 0) (pa_cons (pv 1) pa_nil)))))), ?_⟩
  fail "ww"
  exact .inr ⟨n, b, ts, ws, cy, rfl, hS, hC, bd, q⟩
def sp_count_unchanged (K : PySem.W.Frag) : Sp := fun vs H Q _ => ∃ (n : Nat) (b : Addr) (ts : List Addr) (cs : List Cmd), vs = [.int n, .ref b] ∧ 1 ≤ n ∧ n ≤ 100 ∧ SqL K H b (ts.map V.ref) ∧ Cm H ts cs ∧ Fits n cs ∧
  ∀ (H' : Hp), Same H H' → Q (.int (mulM (lenM n cs) n : Nat)) H'
theorem ok_count_unchanged (T : Txt K mg) : FnG P w K mg base CX0 5 T.count_unchanged_a T.count_unchanged_d ["size", "commands"] (sp_count_unchanged K) := by
  refine okG T.count_unchanged_F sc_count_unchanged (fun vs H Q E h => ?_) (fun cdv A ou t H vs Q E hG hr h => ?_)
  · obtain ⟨_, _, _, _, rfl, _⟩ := h; rfl
  have nd := sc_count_unchanged.nd
  obtain ⟨n, b, ts, cs, rfl, hn1, hn, hB, hC, hF, q⟩ := h
  refine ⟨_, (pss_cons (ps_expr (pe_callG (ok_check_sized_script T) hG (hr.mono (by decide)) (by rfl) T.check_sized_script_g T.check_sized_script_F.kp T.check_sized_script_b .nil pass0 (pa_cons (pv 0) (pa_cons (pv 1) pa_nil))))
      (pss_cons (sset 2 nd pe_int)
      (pss_cons (sset 3 nd (pv 0))
      (pss_cons (ps_for PassesOwn.never rfl (pi_listK K (pe_callG (ok_block_lengths T) hG (hr.mono (by decide)) (by rfl) T.block_lengths_g T.block_lengths_F.kp T.block_lengths_b .nil pass0 (pa_cons (pv 0) (pa_cons (pv 1) pa_nil)))) (gset 4 nd)
        (pss_cons (saug 2 nd (pe_callBfun cr_comb (by rfl) T.g_comb (pa_cons (pv 3) (pa_cons (pv 4) pa_nil))) ip_mulW)
      (pss_one (saug 3 nd (pv 4) ip_sub))))
      (pss_one (ps_ret (pv 2))))))), ?_⟩
  fail "ww"
  refine ⟨n, b, ts, cs, rfl, hn1, hB, hC, hF, fun H1 s1 => ?_⟩
  fail "ww"
  refine ⟨n, b, ts, cs, rfl, hn1, by omega, s1.seq hB, hC.same s1, hF, fun H2 p s2 np hp => ?_⟩
  have hsum := lenM_sum hF hn1
  have hlen : (lenM n cs).length ≤ n := by
    have : ∀ l : List Cmd, l.length ≤ (l.map fun c => c.2 - c.1 + 1).sum := fun l => by
      induction l with
      | nil => exact Nat.le_refl _
      | cons c r ih => rw [List.map_cons, List.sum_cons, List.length_cons]; omega
    have := this (blkM n cs)
    unfold lenM at hsum ⊢
    rw [List.length_map]
    omega
  generalize lenM n cs = ks at *
  fail "ww"
  refine forAI (walk_list (xs := (ks.map fun (k : Nat) => (k : Int)).map V.int)) (fun i σ' H' => ∃ (y4 : Option V) (m lf : Nat), σ' = [some (.int n), some (.ref b), some (.int m), some (.int lf), y4] ∧ Same H H' ∧ Same H2 H' ∧ m * mulM (ks.drop i) lf = mulM ks n ∧ (ks.drop i).sum = lf ∧ m ≤ 2 ^ (n * i) ∧ lf ≤ n)
    ⟨none, 1, n, rfl, s1.trans s2, Same.refl _, by rw [Nat.one_mul]; rfl, hsum, Nat.one_le_two_pow, Nat.le_refl _⟩ (fun i σ' H' _ p' => ?_) (fun i σ' H' hi p' => ?_) (fun σ' H' p' => ?_)
  · obtain ⟨_, _, _, _, _, s, _⟩ := p'; exact sq (s _ _ hp)
  · obtain ⟨y4, m, lf, rfl, s, s2', hm, hs, hb, hlf⟩ := p'
    have hi' : i < ks.length := by simpa using hi
    rw [List.drop_eq_getElem_cons hi'] at hm hs
    rw [List.sum_cons] at hs
    rw [List.getElem_map]
    generalize ks[i] = k at *
    have hcb := cmb_le lf k
    have hcn : cmb lf k ≤ 2 ^ n := Nat.le_trans hcb (Nat.pow_le_pow_right (by decide) hlf)
    have hni : n * i ≤ 100 * 100 := Nat.mul_le_mul hn (by omega)
    fail "ww"
    refine ⟨lf, k, rfl, by omega, by omega, ?_⟩
    fail "ww"
    refine r_I (wide_mul (a := n * i + 1) (b := n + 1) (nat_bound hb) (nat_bound hcn) (by omega) (by omega) (by omega)) ?_
    fail "ww"
    rw [show ((m : Nat) : Int) * ((cmb lf k : Nat) : Int) = ((m * cmb lf k : Nat) : Int) from (Int.natCast_mul _ _).symm, show ((lf : Nat) : Int) - ((k : Nat) : Int) = ((lf - k : Nat) : Int) by omega]
    refine ⟨_, m * cmb lf k, lf - k, rfl, s, s2', ?_, by omega, ?_, by omega⟩
    · rw [← hm, Nat.mul_assoc]; rfl
    · rw [Nat.mul_succ, Nat.pow_add]
      exact Nat.mul_le_mul hb hcn
  · obtain ⟨y4, m, lf, rfl, s, s2', hm, hs, hb, hlf⟩ := p'
    rw [List.length_map, List.length_map, List.drop_of_length_le (Nat.le_refl _)] at hm
    replace hm : m * 1 = mulM ks n := hm
    fail "ww"
    rw [show m = mulM ks n by omega]
    exact q _ s
def spx_count_unchanged (K : PySem.W.Frag) (T : Txt K mg) : Sp := fun vs H Q E => ∃ (n : Int) (b : Addr) (ts : List Addr) (ws : List Pr) (cy : Addr × V), vs = [.int n, .ref b] ∧ n ≤ 1000 ∧ SqL K H b (ts.map V.ref) ∧ Cw H ts ws ∧ BadRun T n ws cy.1 cy.2 ∧ Err H E cy.1 cy.2
theorem okx_count_unchanged (T : Txt K mg) : FnG P w K mg base (L2N.CX P w) 5 T.count_unchanged_a T.count_unchanged_d ["size", "commands"] (spx_count_unchanged K T) := by
  refine okX T.count_unchanged_F sc_count_unchanged (fun vs H Q E h => ?_) (fun cdv A ou t H vs Q E hG hr h => ?_)
  · obtain ⟨_, _, _, _, _, rfl, _⟩ := h; rfl
  have nd := sc_count_unchanged.nd
  obtain ⟨n, b, ts, ws, cy, rfl, hn, hS, hC, bd, q⟩ := h
  refine ⟨_, (pss_cons (ps_expr (pe_callX ((ok_check_sized_script T).lift.or (okx_check_sized_script T)) hG (hr.mono (by decide)) (by rfl) T.check_sized_script_g T.check_sized_script_F.kp T.check_sized_script_b (L2N.takes_of rfl rfl rfl rfl) (pa_cons (pv 0) (pa_cons (pv 1) pa_nil))))
      (pss_cons (sset 2 nd pe_int)
      (pss_cons (sset 3 nd (pv 0))
      (pss_cons (ps_for (passes_of rfl) rfl (pi_listK K (pe_callG (ok_block_lengths T) hG (hr.mono (by decide)) (by rfl) T.block_lengths_g T.block_lengths_F.kp T.block_lengths_b .nil pass0 (pa_cons (pv 0) (pa_cons (pv 1) pa_nil)))) (gset 4 nd)
        (pss_cons (saug 2 nd (pe_callBfun cr_comb (by rfl) T.g_comb (pa_cons (pv 3) (pa_cons (pv 4) pa_nil))) ip_mulW)
      (pss_one (saug 3 nd (pv 4) ip_sub))))
      (pss_one (ps_ret (pv 2))))))), ?_⟩
  fail "ww"
  exact .inr ⟨n, b, ts, ws, cy, rfl, hS, hC, bd, q⟩
def sp_rounds (K : PySem.W.Frag) : Sp := fun vs H Q _ => ∃ (n : Nat) (b : Addr) (ts : List Addr) (cs : List Cmd), vs = [.int n, .ref b] ∧ 1 ≤ n ∧ n ≤ 1000 ∧ SqL K H b (ts.map V.ref) ∧ Cm H ts cs ∧ Fits n cs ∧
  ∀ (H' : Hp) (k : Nat), Same H H' → runM (runM (desc n) (rep k cs)) cs = runM (desc n) (rep k cs) → (∀ j, j < k → runM (desc n) (rep j cs) ≠ runM (desc n) (rep k cs)) → k ≤ n * n → Q (.int k) H'
theorem ok_rounds (T : Txt K mg) : FnG P w K mg base CX0 6 T.rounds_a T.rounds_d ["size", "commands"] (sp_rounds K) := by
  refine okG T.rounds_F sc_rounds (fun vs H Q E h => ?_) (fun cdv A ou t H vs Q E hG hr h => ?_)
  · obtain ⟨_, _, _, _, rfl, _⟩ := h; rfl
  have nd := sc_rounds.nd
  obtain ⟨n, b, ts, cs, rfl, hn1, hn, hB, hC, hF, q⟩ := h
  refine ⟨_, (pss_cons (ps_expr (pe_callG (ok_check_size T) hG (hr.mono (by decide)) (by rfl) T.check_size_g T.check_size_F.kp T.check_size_b .nil pass0 (pa_cons (pv 0) pa_nil)))
      (pss_cons (sset 2 nd (pe_callG (ok_descending_row T) hG (hr.mono (by decide)) (by rfl) T.descending_row_g T.descending_row_F.kp T.descending_row_b .nil pass0 (pa_cons (pv 0) pa_nil)))
      (pss_cons (sset 3 nd (pe_callG (ok_run T) hG (hr.mono (by decide)) (by rfl) T.run_g T.run_F.kp T.run_b .nil pass0 (pa_cons (pv 2) (pa_cons (pv 1) pa_nil))))
      (pss_cons (sset 4 nd pe_int)
      (pss_cons (ps_while PassesOwn.never (pt_cmpR (neDK K hr.units) (pv 3) (pv 2) (nomark _))
        (pss_cons (sset 2 nd (pv 3))
      (pss_cons (sset 3 nd (pe_callG (ok_sort_stretches T) hG (hr.mono (by decide)) (by rfl) T.sort_stretches_g T.sort_stretches_F.kp T.sort_stretches_b .nil pass0 (pa_cons (pv 2) (pa_cons (pv 1) pa_nil))))
      (pss_one (saug 4 nd pe_int ip_add)))))
      (pss_one (ps_ret (pv 4)))))))), ?_⟩
  have hd := desc_len n
  fail "ww"
  refine ⟨n, rfl, hn1, ?_⟩
  fail "ww"
  refine ⟨n, rfl, hn, fun H1 p s1 np hP => ?_⟩
  fail "ww"
  refine ⟨p, b, desc n, ts, cs, rfl, sq hP, s1.seq hB, hC.same s1, by omega, by omega, by rw [hd]; exact hF, fun H2 p2 s2 np2 hP2 => ?_⟩
  fail "ww"
  have hi0 : inv (desc n) ≤ n * n := by have := inv_le (desc n); rw [hd] at this; exact this
  refine r_while (fun k σ' H' => ∃ (j : Nat) (p1 p2 : Addr), σ' = [some (.int n), some (.ref b), some (.ref p1), some (.ref p2), some (.int (j : Int))] ∧ Same H H' ∧ H' p1 = some (.lst ((runM (desc n) (rep j cs)).map V.int)) ∧ H' p2 = some (.lst ((runM (desc n) (rep (j + 1) cs)).map V.int)) ∧
     (∀ i, i < j → inv (runM (desc n) (rep j cs)) < inv (runM (desc n) (rep i cs))) ∧ j + inv (runM (desc n) (rep j cs)) ≤ n * n ∧ k = inv (runM (desc n) (rep j cs))) (inv (desc n))
     ⟨0, p, p2, rfl, s1.trans s2, s2 _ _ hP, by rw [rep_one]; exact hP2, (fun i hi => absurd hi (Nat.not_lt_zero i)), by show 0 + inv (desc n) ≤ _; omega, rfl⟩ (fun k σ' H' p' => ?_)
  clear hP hP2 s1 s2 np np2
  obtain ⟨j, p1, p2, rfl, s, h1, h2, hdn, hb, rfl⟩ := p'
  fail "ww"
  refine r_neL (sq h2) (sq h1) ?_
  fail "ww"
  have hlj : (runM (desc n) (rep j cs)).length = n := rep_fits_len hF j
  have hst := run_rep_succ (desc n) j cs
  have hiv := run_inv cs (runM (desc n) (rep j cs)) (by rw [hlj]; exact hF)
  rw [← hst] at hiv
  by_cases e : runM (desc n) (rep (j + 1) cs) = runM (desc n) (rep j cs)
  · rw [decide_eq_true e, if_neg (by simp)]
    fail "ww"
    exact q _ j s (by rw [← hst]; exact e) (fun i hi g => by have := hdn i hi; rw [g] at this; omega) (by omega)
  · rw [decide_eq_false e, if_pos (by rfl)]
    refine r_turn ?_
    have hlt : inv (runM (desc n) (rep (j + 1) cs)) < inv (runM (desc n) (rep j cs)) := Nat.lt_of_le_of_ne hiv.1 fun g => e (by rw [hst]; exact run_inv cs _ (by rw [hlj]; exact hF) |>.2 (by rw [← hst]; exact g))
    have hlj1 : (runM (desc n) (rep (j + 1) cs)).length = n := rep_fits_len hF (j + 1)
    have hst2 := run_rep_succ (desc n) (j + 1) cs
    fail "ww"
    refine ⟨p2, b, _, ts, cs, rfl, sq h2, s.seq hB, hC.same s, by omega, by rw [hlj1]; exact hF, fun H5 p5 s5 np5 hP5 => ?_⟩
    rw [← hst2] at hP5
    fail "ww"
    refine ⟨_, hlt, j + 1, p2, p5, rfl, s.trans s5, s5 _ _ h2, hP5, fun i hi => ?_, by omega, rfl⟩
    rcases Nat.lt_or_ge i j with g | g
    · exact Nat.lt_trans hlt (hdn i g)
    · rw [show i = j by omega]; exact hlt
def spx_rounds (K : PySem.W.Frag) (T : Txt K mg) : Sp := fun vs H Q E => ∃ (n : Int) (b : Addr) (ts : List Addr) (ws : List Pr) (cy : Addr × V), vs = [.int n, .ref b] ∧ n ≤ 1000 ∧ SqL K H b (ts.map V.ref) ∧ Cw H ts ws ∧ BadRun T n ws cy.1 cy.2 ∧ Err H E cy.1 cy.2
theorem okx_rounds (T : Txt K mg) : FnG P w K mg base (L2N.CX P w) 6 T.rounds_a T.rounds_d ["size", "commands"] (spx_rounds K T) := by
  refine okX T.rounds_F sc_rounds (fun vs H Q E h => ?_) (fun cdv A ou t H vs Q E hG hr h => ?_)
  · obtain ⟨_, _, _, _, _, rfl, _⟩ := h; rfl
  have nd := sc_rounds.nd
  obtain ⟨n, b, ts, ws, ⟨c, y⟩, rfl, hn, hS, hC, bd, q⟩ := h
  refine ⟨_, (pss_cons (ps_expr (pe_callX ((ok_check_size T).lift.or (okx_check_size T)) hG (hr.mono (by decide)) (by rfl) T.check_size_g T.check_size_F.kp T.check_size_b (L2N.takes_of rfl rfl rfl rfl) (pa_cons (pv 0) pa_nil)))
      (pss_cons (sset 2 nd (pe_callG (ok_descending_row T) hG (hr.mono (by decide)) (by rfl) T.descending_row_g T.descending_row_F.kp T.descending_row_b .nil pass0 (pa_cons (pv 0) pa_nil)))
      (pss_cons (sset 3 nd (pe_callX ((ok_run T).lift.or (okx_run T)) hG (hr.mono (by decide)) (by rfl) T.run_g T.run_F.kp T.run_b (L2N.takes_of rfl rfl rfl rfl) (pa_cons (pv 2) (pa_cons (pv 1) pa_nil))))
      (pss_cons (sset 4 nd pe_int)
      (pss_cons (ps_while (passes_of rfl) (pt_cmpR (neDK K hr.units) (pv 3) (pv 2) (nomark _))
        (pss_cons (sset 2 nd (pv 3))
      (pss_cons (sset 3 nd (pe_callG (ok_sort_stretches T) hG (hr.mono (by decide)) (by rfl) T.sort_stretches_g T.sort_stretches_F.kp T.sort_stretches_b .nil pass0 (pa_cons (pv 2) (pa_cons (pv 1) pa_nil))))
      (pss_one (saug 4 nd pe_int ip_add)))))
      (pss_one (ps_ret (pv 4)))))))), ?_⟩
  fail "ww"
  rcases bd with ⟨h1, e1, e2⟩ | ⟨h1, i, hi, e1, e2⟩
  · obtain rfl : c = _ := e1
    obtain rfl : y = _ := e2
    exact .inr ⟨n, rfl, h1, q⟩
  · obtain ⟨r, rfl⟩ := Int.eq_ofNat_of_zero_le (show 0 ≤ n by omega)
    refine .inl ⟨r, rfl, by omega, ?_⟩
    fail "ww"
    refine ⟨r, rfl, by omega, fun H1 p s1 np hp => ?_⟩
    fail "ww"
    exact .inr ⟨p, b, desc r, ts, ws, (c, y), rfl, sq hp, s1.seq hS, hC.same s1, by rw [desc_len]; exact .inr ⟨h1, i, hi, e1, e2⟩, q.up s1⟩
def sp_nth_unchanged (K : PySem.W.Frag) : Sp := fun vs H Q _ => ∃ (n : Nat) (b : Addr) (k : Nat) (ts : List Addr) (cs : List Cmd), vs = [.int n, .ref b, .int k] ∧ 1 ≤ n ∧ n ≤ 100 ∧ SqL K H b (ts.map V.ref) ∧ Cm H ts cs ∧ Fits n cs ∧ k < mulM (lenM n cs) n ∧
  ∀ (H' : Hp) (p : Addr) (l : List Int), Same H H' → H p = none → (enu (lenM n cs) (ascN n))[k]? = some l → H' p = some (.lst (l.map V.int)) → Q (.ref p) H'
theorem ok_nth_unchanged (T : Txt K mg) : FnG P w K mg base CX0 6 T.nth_unchanged_a T.nth_unchanged_d ["size", "commands", "number"] (sp_nth_unchanged K) := by
  refine okG T.nth_unchanged_F sc_nth_unchanged (fun vs H Q E h => ?_) (fun cdv A ou t H vs Q E hG hr h => ?_)
  · obtain ⟨_, _, _, _, _, rfl, _⟩ := h; rfl
  have nd := sc_nth_unchanged.nd
  obtain ⟨n, b, k, ts, cs, rfl, hn1, hn, hB, hC, hF, hk, q⟩ := h
  refine ⟨_, (pss_cons (sset 3 nd (pe_callG (ok_count_unchanged T) hG (hr.mono (by decide)) (by rfl) T.count_unchanged_g T.count_unchanged_F.kp T.count_unchanged_b .nil pass0 (pa_cons (pv 0) (pa_cons (pv 1) pa_nil))))
      (pss_cons (ps_if (PW.pt (pw_or (pt_cmpR op_lt (pv 2) pe_int (nomark _)) (pw_or1 (pt_cmpR op_ge (pv 2) (pv 3) (nomark _)))))
        (pss_one ps_never)
        pss_nil)
      (pss_cons (sset 4 nd (pe_lst pa_nil))
      (pss_cons (sset 5 nd (pe_listRg rfl (by rfl) T.m_list (prg_2 (by rfl) T.m_range pe_int (pe_op op_add (pv 0) pe_int))))
      (pss_cons (sset 6 nd (pv 2))
      (pss_cons (ps_for PassesOwn.never rfl (pi_listK K (pe_callG (ok_block_lengths T) hG (hr.mono (by decide)) (by rfl) T.block_lengths_g T.block_lengths_F.kp T.block_lengths_b .nil pass0 (pa_cons (pv 0) (pa_cons (pv 1) pa_nil)))) (gset 7 nd)
        (pss_cons (saug 3 nd (pe_callBfun cr_comb (by rfl) T.g_comb (pa_cons (pe_callB (lenK K) (by rfl) T.m_len PySem.boot_len (pa_cons (pv 5) pa_nil)) (pa_cons (pv 7) pa_nil))) ip_fdivW)
      (pss_cons (ps_asg (pe_callB call_divmodW (by rfl) T.m_divmod (by decide +kernel) (pa_cons (pv 6) (pa_cons (pv 3) pa_nil))) (pg_tupK K 2 rfl (pgs_cons (gset 8 nd) (pgs_cons (gset 6 nd) pgs_nil))))
      (pss_cons (sset 9 nd (pe_callG (ok_nth_choice T) hG (hr.mono (by decide)) (by rfl) T.nth_choice_g T.nth_choice_F.kp T.nth_choice_b .nil pass0 (pa_cons (pv 5) (pa_cons (pv 7) (pa_cons (pv 8) pa_nil)))))
      (pss_cons (ps_expr (pe_bmK K PySem.F.plainAttrs_list PySem.F.slot_list_extend PySem.F.type_list_extend mt_extend (pv 4) (pa_cons (pv 9) pa_nil)))
      (pss_one (ps_setLc (i := 5) (hy := rfl) (hyl := rfl) (hsw := sw_true rfl rfl rfl (by decide +kernel)) (own := [("value", 10)]) (hc := rfl) (hN := nd) (hi := (pi_listK K (pv 5))) (ok := blkOk_by (by rfl)) (hg := fun _ _ _ _ _ => (gset 10 nd)) (ht := (fun _ _ _ _ _ => pts_one (pt_cmpR (notInK K) (pv 10) (pv 9) (by rfl)))) (he := fun _ _ _ _ _ => (pv 10)))))))))
      (pss_one (ps_ret (pv 4))))))))), ?_⟩
  fail "ww"
  refine ⟨n, b, ts, cs, rfl, hn1, hn, hB, hC, hF, fun H1 s1 => ?_⟩
  fail "ww"
  rw [decide_eq_false (show ¬ ((k : Nat) : Int) < 0 by omega)]
  fail "ww"
  rw [decide_eq_false (show ¬ ((mulM (lenM n cs) n : Nat) : Int) ≤ ((k : Nat) : Int) by omega)]
  fail "ww"
  refine new_ fun l H2 nl s2 hl => ?_
  fail "ww"
  refine ⟨RgOk.of_le (by omega) (by omega) (by omega) (by omega), ?_⟩
  rw [show rgV 1 ((n : Int) + 1) = (ascN n).map V.int by unfold rgV ascN; rw [List.map_map, show ((n : Int) + 1 - 1).toNat = n by omega]; rfl]
  refine new_ fun pv H3 nv s3 hv => ?_
  fail "ww"
  have s13 := s1.trans (s2.trans s3)
  refine ⟨n, b, ts, cs, rfl, hn1, by omega, s13.seq hB, hC.same s13, hF, fun H4 p s4 np hp => ?_⟩
  fail "ww"
  have hsum := lenM_sum hF hn1
  have hup := asc_lt n
  have hlen : (lenM n cs).length ≤ n := by
    have : ∀ l : List Cmd, l.length ≤ (l.map fun c => c.2 - c.1 + 1).sum := fun l => by
      induction l with
      | nil => exact Nat.le_refl _
      | cons c r ih => rw [List.map_cons, List.sum_cons, List.length_cons]; omega
    have := this (blkM n cs)
    unfold lenM at hsum ⊢
    rw [List.length_map]
    omega
  have hkt : k < (enu (lenM n cs) (ascN n)).length := by rw [enu_len _ hup, ascN_length']; exact hk
  generalize lenM n cs = ks at *
  have s04 := s13.trans s4
  have nl0 : H l = none := s1.free nl
  have hl4 := s4 _ _ (s3 _ _ hl)
  have hv4 := s4 _ _ hv
  have hlv : pv ≠ l := (ne_of_none (s3 _ _ hl |> fun e => hl) nv).symm
  have hpl : p ≠ l := (ne_of_none (s3 _ _ hl) np).symm
  clear s1 s2 s3 s4 s13 hl hv nl nv
  refine forAI (walk_list (xs := (ks.map fun (k : Nat) => (k : Int)).map V.int)) (fun i σ' H' => ∃ (y7 y8 y9 y10 : Option V) (pv : Addr) (row vals t : List Int) (lf : Nat), σ' = [some (.int n), some (.ref b), some (.int k), some (.int (mulM (ks.drop i) vals.length : Nat)), some (.ref l), some (.ref pv), some (.int lf), y7, y8, y9, y10] ∧ Sx l H4 H' ∧ Same H H' ∧ pv ≠ l ∧ H' l = some (.lst (row.map V.int)) ∧ H' pv = some (.lst (vals.map V.int)) ∧ vals.Pairwise (· < ·) ∧ vals.length ≤ n ∧ row.length ≤ n ∧ row.length + vals.length = n ∧ (ks.drop i).sum = vals.length ∧ lf < mulM (ks.drop i) vals.length ∧ (enu (ks.drop i) vals)[lf]? = some t ∧ (enu ks (ascN n))[k]? = some (row ++ t))
    ⟨none, none, none, none, pv, [], ascN n, _, k, by rw [ascN_length']; rfl, Sx.refl, s04, hlv, hl4, hv4, hup, by rw [ascN_length']; exact Nat.le_refl _, Nat.zero_le _, by rw [ascN_length']; exact Nat.zero_add n, by rw [ascN_length']; exact hsum, by rw [ascN_length']; exact hk, List.getElem?_eq_getElem hkt, List.getElem?_eq_getElem hkt⟩ (fun i σ' H' _ p' => ?_) (fun i σ' H' hi p' => ?_) (fun σ' H' p' => ?_)
  · obtain ⟨_, _, _, _, _, _, _, _, _, _, s, _⟩ := p'; exact sq (s _ _ hpl hp)
  · clear s04 hl4 hv4 hlv
    obtain ⟨y7, y8, y9, y10, pv, row, vals, t, lf, rfl, sx, s, hlv, hl, hv, hvu, hvn, hrn, hrv, hs, hlf, ht, hc⟩ := p'
    have hi' : i < ks.length := by simpa using hi
    rw [List.drop_eq_getElem_cons hi'] at hs hlf ht ⊢
    rw [List.sum_cons] at hs
    rw [List.getElem_map]
    generalize ks[i] = k0 at *
    generalize ks.drop (i + 1) = ks' at *
    have hq : 0 < mulM ks' (vals.length - k0) := mul_pos' ks' (by omega)
    have hdef : mulM (k0 :: ks') vals.length = cmb vals.length k0 * mulM ks' (vals.length - k0) := rfl
    rw [hdef] at hlf ⊢
    have hcp := cmb_pos (show k0 ≤ vals.length by omega)
    have hcl := cmb_le vals.length k0
    have hcn : cmb vals.length k0 ≤ 2 ^ n := Nat.le_trans hcl (Nat.pow_le_pow_right (by decide) hvn)
    replace ht : ((chs vals k0).flatMap fun c => (enu ks' (rest vals c)).map fun t => c ++ t)[lf]? = some t := ht
    rw [flat_at hq (fun c hc => by
      obtain ⟨g1, g2⟩ := chs_mem.mp hc
      rw [List.length_map, enu_len ks' (rest_up hvu), rest_len hvu g1, g2])] at ht
    have hch : lf / mulM ks' (vals.length - k0) < cmb vals.length k0 := Nat.div_lt_of_lt_mul (by rw [Nat.mul_comm]; exact hlf)
    have hmod := Nat.mod_lt lf hq
    have hml : mulM ks' (vals.length - k0) ≤ 2 ^ 700 := mulM_700 (by omega) (by omega)
    fail "ww"
    refine ⟨vals.length, k0, by rw [List.length_map], by omega, by omega, ?_⟩
    fail "ww"
    refine r_I (wide_div (b := n + 1) (by omega) (nat_bound hcn) (by omega) (by omega)) ?_
    rw [show ((cmb vals.length k0 * mulM ks' (vals.length - k0) : Nat) : Int) / ((cmb vals.length k0 : Nat) : Int) = ((mulM ks' (vals.length - k0) : Nat) : Int) by
      rw [Int.natCast_mul]; exact Int.mul_ediv_cancel_left _ (by omega)]
    generalize hM : mulM ks' (vals.length - k0) = M at *
    fail "ww"
    have dv : CDivW ((lf : Nat) : Int) ((M : Nat) : Int) := wide_div (b := 701) (by omega) (nat_bound hml) (by decide) (by decide)
    refine ⟨⟨by omega, PyProof.noPylong_of_log2 dv.2⟩, fun T nT => ?_⟩
    have sT : Same H' (upd H' T (.tup [.int (((lf : Nat) : Int) / ((M : Nat) : Int)), .int (((lf : Nat) : Int) % ((M : Nat) : Int))])) := same_new nT
    have hT : upd H' T (.tup [.int (((lf : Nat) : Int) / ((M : Nat) : Int)), .int (((lf : Nat) : Int) % ((M : Nat) : Int))]) T = some (.tup [.int ((lf / M : Nat) : Int), .int ((lf % M : Nat) : Int)]) := upd_same
    generalize upd H' T (.tup [.int (((lf : Nat) : Int) / ((M : Nat) : Int)), .int (((lf : Nat) : Int) % ((M : Nat) : Int))]) = G0 at *
    refine r_gtup (sqT hT) rfl ?_
    fail "ww"
    have hlG := sT _ _ hl
    have hvG := sT _ _ hv
    refine ⟨pv, vals, k0, lf / M, rfl, hvG, by omega, by omega, hch, fun H6 p6 c s6 n6 hc6 h6 => ?_⟩
    rw [hc6] at ht
    replace ht : ((enu ks' (rest vals c)).map fun t => c ++ t)[lf % M]? = some t := ht
    rw [List.getElem?_map] at ht
    obtain ⟨t', ht', rfl⟩ := Option.map_eq_some_iff.mp ht
    obtain ⟨cs1, cs2⟩ := chs_mem.mp (List.mem_of_getElem? hc6)
    have hrl : (rest vals c).length = vals.length - k0 := by rw [rest_len hvu cs1, cs2]
    fail "ww"
    have hl6 := s6 _ _ hlG
    have hv6 := s6 _ _ hvG
    have h6l : p6 ≠ l := (ne_of_none hlG n6).symm
    refine r_extend hl6 h6 (by rw [List.length_map, List.length_map, cs2]; exact size_le (by omega)) ?_
    rw [← List.map_append]
    have s06 := sT.trans s6
    have hv7 : upd H6 l (.lst ((row ++ c).map V.int)) pv = some (.lst (vals.map V.int)) := upd_to hlv hv6
    have h67 : upd H6 l (.lst ((row ++ c).map V.int)) p6 = some (.lst (c.map V.int)) := upd_to h6l h6
    have hl7 : upd H6 l (.lst ((row ++ c).map V.int)) l = some (.lst ((row ++ c).map V.int)) := upd_same
    have sx7 : Sx l H4 (upd H6 l (.lst ((row ++ c).map V.int))) := (sx.same s06).trans Sx.put
    have s7 : Same H (upd H6 l (.lst ((row ++ c).map V.int))) := fun b' o' e' => upd_to (ne_of_none e' nl0) (s06 _ _ (s _ _ e'))
    generalize upd H6 l (.lst ((row ++ c).map V.int)) = G7 at *
    fail "ww"
    intro D nD
    refine lc_sameAI (walk_list (xs := vals.map V.int)) (fun j => (((vals.take j).filter fun v => !decide (v ∈ c)).map V.int)) nD (Same.refl _) rfl (fun H s => sq (s _ _ hv7)) (fun j Hj hj pp => ?_) (fun H8 s8 hD => ?_)
    · have hcj := pp.1 _ _ h67
      fail "ww"
      refine ⟨rfl, ?_⟩
      fail "ww"
      refine ⟨p6, _, rfl, .inl (sq hcj), rfl, by rw [List.all_map, List.all_eq_true]; exact fun x _ => rfl, ?_⟩
      rw [inv_ints]
      refine ⟨_, rfl, ?_⟩
      by_cases hm : vals[j] ∈ c
      · rw [decide_eq_true hm]
        refine r_nF ?_
        exact lc_skip pp (Same.refl _) (acc_filtF hj (by simp [hm]))
      · rw [decide_eq_false hm]
        refine r_nT ?_
        fail "ww"
        exact lc_add pp (Same.refl _) nD (acc_filtT hj (by simp [hm])) (filt_len (by omega))
    · rw [List.take_of_length_le (Nat.le_refl _)] at hD
      replace hD : H8 D = some (.lst ((rest vals c).map V.int)) := hD
      have hDl : D ≠ l := (ne_of_none hl7 nD).symm
      refine ⟨some (.int ((k0 : Nat) : Int)), some (.int ((lf / M : Nat) : Int)), some (.ref p6), y10, D, row ++ c, rest vals c, t', lf % M, ?_, sx7.same s8, s7.trans s8, hDl, s8 _ _ hl7, hD, rest_up hvu, by omega, by rw [List.length_append]; omega, by rw [List.length_append]; omega, by omega, by rw [hrl, hM]; exact hmod, ht', by rw [hc]; simp⟩
      rw [hrl, hM]; rfl
  · clear s04 hl4 hv4 hlv
    obtain ⟨y7, y8, y9, y10, pv, row, vals, t, lf, rfl, sx, s, hlv, hl, hv, hvu, hvn, hrn, hrv, hs, hlf, ht, hc⟩ := p'
    rw [List.length_map, List.length_map, List.drop_of_length_le (Nat.le_refl _)] at ht hs
    have et : t = [] := by
      cases lf with
      | zero => exact (Option.some.inj ht).symm
      | succ m => simp [enu] at ht
    subst et
    rw [List.append_nil] at hc
    fail "ww"
    exact q _ l row s nl0 hc hl
def spx_nth_unchanged (K : PySem.W.Frag) (T : Txt K mg) : Sp := fun vs H Q E => ∃ (n k : Int) (b : Addr) (ts : List Addr) (ws : List Pr) (cy : Addr × V), vs = [.int n, .ref b, .int k] ∧ n ≤ 100 ∧ SqL K H b (ts.map V.ref) ∧ Cw H ts ws ∧ (BadRun T n ws cy.1 cy.2 ∨ (1 ≤ n ∧ (∃ cs : List Cmd, Fits n.toNat cs ∧ ws = cs.map toW ∧ (k < 0 ∨ ((mulM (lenM n.toNat cs) n.toNat : Nat) : Int) ≤ k)) ∧ cy.1 = T.InvalidNumber_a ∧ cy.2 = .int k)) ∧ Err H E cy.1 cy.2
theorem okx_nth_unchanged (T : Txt K mg) : FnG P w K mg base (L2N.CX P w) 6 T.nth_unchanged_a T.nth_unchanged_d ["size", "commands", "number"] (spx_nth_unchanged K T) := by
  refine okX T.nth_unchanged_F sc_nth_unchanged (fun vs H Q E h => ?_) (fun cdv A ou t H vs Q E hG hr h => ?_)
  · obtain ⟨_, _, _, _, _, _, rfl, _⟩ := h; rfl
  have nd := sc_nth_unchanged.nd
  obtain ⟨n, k, b, ts, ws, ⟨c, y⟩, rfl, hn, hS, hC, bd, q⟩ := h
  refine ⟨_, (pss_cons (sset 3 nd (pe_callX ((ok_count_unchanged T).lift.or (okx_count_unchanged T)) hG (hr.mono (by decide)) (by rfl) T.count_unchanged_g T.count_unchanged_F.kp T.count_unchanged_b (L2N.takes_of rfl rfl rfl rfl) (pa_cons (pv 0) (pa_cons (pv 1) pa_nil))))
      (pss_cons (ps_if (PW.pt (pw_or (pt_cmpR op_lt (pv 2) pe_int (nomark _)) (pw_or1 (pt_cmpR op_ge (pv 2) (pv 3) (nomark _)))))
        (pss_one (ps_raiseV rfl (L2N.takes_of rfl rfl rfl rfl) T.InvalidNumber_E (ini_InvalidNumber T) (hr.mono (by decide)) T.InvalidNumber_i_b (by rfl) (pa_cons (pv 2) pa_nil)))
        pss_nil)
      (pss_cons (sset 4 nd (pe_lst pa_nil))
      (pss_cons (sset 5 nd (pe_listRg rfl (by rfl) T.m_list (prg_2 (by rfl) T.m_range pe_int (pe_op op_add (pv 0) pe_int))))
      (pss_cons (sset 6 nd (pv 2))
      (pss_cons (ps_for (passes_of rfl) rfl (pi_listK K (pe_callG (ok_block_lengths T) hG (hr.mono (by decide)) (by rfl) T.block_lengths_g T.block_lengths_F.kp T.block_lengths_b .nil pass0 (pa_cons (pv 0) (pa_cons (pv 1) pa_nil)))) (gset 7 nd)
        (pss_cons (saug 3 nd (pe_callBfun cr_comb (by rfl) T.g_comb (pa_cons (pe_callB (lenK K) (by rfl) T.m_len PySem.boot_len (pa_cons (pv 5) pa_nil)) (pa_cons (pv 7) pa_nil))) ip_fdivW)
      (pss_cons (ps_asg (pe_callB call_divmodW (by rfl) T.m_divmod (by decide +kernel) (pa_cons (pv 6) (pa_cons (pv 3) pa_nil))) (pg_tupK K 2 rfl (pgs_cons (gset 8 nd) (pgs_cons (gset 6 nd) pgs_nil))))
      (pss_cons (sset 9 nd (pe_callG (ok_nth_choice T) hG (hr.mono (by decide)) (by rfl) T.nth_choice_g T.nth_choice_F.kp T.nth_choice_b .nil pass0 (pa_cons (pv 5) (pa_cons (pv 7) (pa_cons (pv 8) pa_nil)))))
      (pss_cons (ps_expr (pe_bmK K PySem.F.plainAttrs_list PySem.F.slot_list_extend PySem.F.type_list_extend mt_extend (pv 4) (pa_cons (pv 9) pa_nil)))
      (pss_one (ps_setLc (i := 5) (hy := rfl) (hyl := rfl) (hsw := sw_true rfl rfl rfl (by decide +kernel)) (own := [("value", 10)]) (hc := rfl) (hN := nd) (hi := (pi_listK K (pv 5))) (ok := blkOk_by (by rfl)) (hg := fun _ _ _ _ _ => (gset 10 nd)) (ht := (fun _ _ _ _ _ => pts_one (pt_cmpR (notInK K) (pv 10) (pv 9) (by rfl)))) (he := fun _ _ _ _ _ => (pv 10)))))))))
      (pss_one (ps_ret (pv 4))))))))), ?_⟩
  fail "ww"
  rcases bd with bd | ⟨h1, ⟨cs, hf, ew, hk⟩, e1, e2⟩
  · exact .inr ⟨n, b, ts, ws, (c, y), rfl, by omega, hS, hC, bd, q⟩
  · obtain rfl : c = _ := e1
    obtain rfl : y = _ := e2
    obtain ⟨r, rfl⟩ := Int.eq_ofNat_of_zero_le (show 0 ≤ n by omega)
    rw [Int.toNat_natCast] at hf hk
    refine .inl ⟨r, b, ts, cs, rfl, by omega, by omega, hS, (ew ▸ hC).toCm, hf, fun H1 s1 => ?_⟩
    fail "ww"
    refine r_dec (fun g => ?_) (fun g => ?_)
    · fail "ww"
      exact fun d hd => q _ d s1 hd
    · fail "ww"
      refine r_dec (fun g2 => ?_) (fun g2 => by omega)
      fail "ww"
      exact fun d hd => q _ d s1 hd
def sp_law_told (K : PySem.W.Frag) : Sp := fun vs H Q _ => ∃ (door : Nat) (n sp : Int) (b a : Addr) (ts : List Addr) (ws : List Pr) (ns : List Int), vs = [.int door, .int n, .ref b, .int sp, .ref a] ∧ door ≤ 4 ∧ n ≤ 100 ∧ SqL K H b (ts.map V.ref) ∧ Cw H ts ws ∧ H a = some (.lst (ns.map V.int)) ∧ (door = 4 → 1 ≤ ns.length ∧ ns.length ≤ 100) ∧
  ∀ (H' : Hp) (p : Addr), Same H H' → H p = none → H' p = some (.lst (lsT (dTl door n ws sp ns))) → Q (.ref p) H'
theorem ok_law_told (T : Txt K mg) : FnG P w K mg base CX0 7 T.law_told_a T.law_told_d ["door", "wide", "steps_here", "spot", "line_here"] (sp_law_told K) := by
  refine okG T.law_told_F sc_law_told (fun vs H Q E h => ?_) (fun cdv A ou t H vs Q E hG hr h => ?_)
  · obtain ⟨_, _, _, _, _, _, _, _, rfl, _⟩ := h; rfl
  have nd := sc_law_told.nd
  obtain ⟨door, n, sp, b, a, ts, ws, ns, rfl, hd, hn, hB, hC, hA, hlen, k⟩ := h
  refine ⟨_, (pss_cons (sset 5 nd pe_non)
      (pss_hold (i := 6) rfl rfl nd rfl rfl ⟨rfl, by decide, .inl T.SortError_g⟩ takesN0 (fun W pn xe tk po => (pss_one (ps_if (pt_cmpR op_eq (pv 0) pe_int (nomark _))
        (pss_one (ps_expr (pe_callX ((ok_rounds T).lift.or (okx_rounds T)) hG (hr.mono (by decide)) (by rfl) T.rounds_g T.rounds_F.kp T.rounds_b tk (pa_cons (pv 1) (pa_cons (pv 2) pa_nil)))))
        (pss_one (ps_if (pt_cmpR op_eq (pv 0) pe_int (nomark _))
        (pss_one (ps_expr (pe_callX ((ok_blocks T).lift.or (okx_blocks T)) hG (hr.mono (by decide)) (by rfl) T.blocks_g T.blocks_F.kp T.blocks_b tk (pa_cons (pv 1) (pa_cons (pv 2) pa_nil)))))
        (pss_one (ps_if (pt_cmpR op_eq (pv 0) pe_int (nomark _))
        (pss_one (ps_expr (pe_callX ((ok_count_unchanged T).lift.or (okx_count_unchanged T)) hG (hr.mono (by decide)) (by rfl) T.count_unchanged_g T.count_unchanged_F.kp T.count_unchanged_b tk (pa_cons (pv 1) (pa_cons (pv 2) pa_nil)))))
        (pss_one (ps_if (pt_cmpR op_eq (pv 0) pe_int (nomark _))
        (pss_one (ps_expr (pe_callX ((ok_nth_unchanged T).lift.or (okx_nth_unchanged T)) hG (hr.mono (by decide)) (by rfl) T.nth_unchanged_g T.nth_unchanged_F.kp T.nth_unchanged_b tk (pa_cons (pv 1) (pa_cons (pv 2) (pa_cons (pv 3) pa_nil))))))
        (pss_one (ps_expr (pe_callX ((ok_unchanged_number T).lift.or (okx_unchanged_number T)) hG (hr.mono (by decide)) (by rfl) T.unchanged_number_g T.unchanged_number_F.kp T.unchanged_number_b tk (pa_cons (pv 2) (pa_cons (pv 4) pa_nil))))))))))))))
        (fun a oe cls d pn hz hf => (pss_one (sset 5 nd (pv 6))))
        (pss_one (ps_ret (pe_ifExp (pt_cmpR op_isN (pv 5) pe_non (nomark _)) (pe_lst (pa_cons pe_str (pa_cons pe_non pa_nil))) (pe_lst (pa_cons pe_never (pa_cons pe_never pa_nil))))))
        (fun a oe cls d hz hf => (pss_one (ps_ret (pe_ifExp (pt_cmpR op_isN (pv 5) pe_non (nomark _)) (pe_lst (pa_cons pe_str (pa_cons pe_non pa_nil))) (pe_lst (pa_cons (pe_callEH (okE_law_kind T) hz hf hG (hr.mono (by decide)) (by rfl) T.law_kind_g T.law_kind_F.kp T.law_kind_b (pa_cons (pv 5) pa_nil)) (pa_cons (pe_xfH hr hz hf (pv 5)) pa_nil))))))))), ?_⟩
  have fin : ∀ (c : Addr) (j : Nat) (i : Int), PySem.W.exmOne K (.ref c) (.ref T.SortError_a) = some true → Kd7 K T c j → dTl door n ws sp ns = some (wordsC.getD j "", i) → Err H (fun cls d H' => wHold K (Value.ref T.SortError_a) 6 (fun a cls d => tAsg (tVar 6) (gName 5)) (fun a cls d => tRet (tIf (tTest (tOp (fun x y H Q => y = V.non ∧ Q (V.bl (decide (x = V.non))) H) (tVar 5) (tC V.non))) (tLst (tCons (tC (V.str "none")) (tCons (tC V.non) tNil))) (tLst (tCons (tCallE (spe_law_kind K T a cls d) (tCons (tVar 5) tNil)) (tCons (tXfA K a cls d "value" (tVar 5)) tNil))))) (fun _ _ _ _ => False) { nx := fun _ H' => Q V.non H', rt := Q } cls d [some (.int door), some (.int n), some (.ref b), some (.int sp), some (.ref a), some .non, none] H') c (.int i) := fun c j i te kd e H' d s hd' => by
    refine ⟨true, te, fun _ x hx => ?_, fun z => by cases z⟩
    fail "ww"
    refine ⟨rfl, ?_⟩
    rw [decide_eq_false (by intro z; cases z)]
    fail "ww"
    refine ⟨c, d, j, .int i, rfl, rfl, rfl, upd_same, kd, fun H2 s2 => ?_⟩
    fail "ww"
    refine ⟨rfl, c, d, _, .int i, rfl, rfl, kd.xf, kd.no, s2 _ _ upd_same, rfl, ?_⟩
    fail "ww"
    refine new_ fun p H3 n3 s3 h3 => ?_
    have s0 := (s.trans (same_new hd')).trans s2
    refine k _ p (s0.trans s3) (s0.free n3) ?_
    rw [e]
    exact h3
  have good : dTl door n ws sp ns = none → ∀ H', Same H H' → New (fun x H1 => Q x H1) H' (.lst [.str "none", .non]) := fun e H' s => new_ fun p H1 n1 s1 h1 => by
    refine k _ p (s.trans s1) (s.free n1) ?_
    rw [e]; exact h1
  -- what a size and a script are wrong with
  have cas : (∀ e, dR n ws = some e → dTl door n ws sp ns = some e) → (∃ c y, BadRun T n ws c y ∧ Err H (fun cls d H' => wHold K (Value.ref T.SortError_a) 6 (fun a cls d => tAsg (tVar 6) (gName 5)) (fun a cls d => tRet (tIf (tTest (tOp (fun x y H Q => y = V.non ∧ Q (V.bl (decide (x = V.non))) H) (tVar 5) (tC V.non))) (tLst (tCons (tC (V.str "none")) (tCons (tC V.non) tNil))) (tLst (tCons (tCallE (spe_law_kind K T a cls d) (tCons (tVar 5) tNil)) (tCons (tXfA K a cls d "value" (tVar 5)) tNil))))) (fun _ _ _ _ => False) { nx := fun _ H' => Q V.non H', rt := Q } cls d [some (.int door), some (.int n), some (.ref b), some (.int sp), some (.ref a), some .non, none] H') c y) ∨ (1 ≤ n ∧ dR n ws = none ∧ eW n ws = none) := fun up => by
    by_cases hm : n < 1
    · exact .inl ⟨_, _, .inl ⟨hm, rfl, rfl⟩, fin _ 0 _ T.InvalidSize_E.te (kd7_size T) (up _ (by unfold dR; rw [if_pos hm]; rfl))⟩
    · rcases first_cases (wrW n ws) ws.length with ⟨i, e, _⟩ | ⟨e, _⟩
      · have e : eW n ws = some i := e
        exact .inl ⟨_, _, .inr ⟨by omega, i, e, rfl, rfl⟩, fin _ 1 _ T.InvalidCommand_E.te (kd7_command T) (up _ (by unfold dR; rw [if_neg hm, e]; rfl))⟩
      · have e : eW n ws = none := e
        exact .inr ⟨by omega, by unfold dR; rw [if_neg hm, e], e⟩
  fail "ww"
  refine r_dec (fun g0 => ?_) (fun g0 => ?_)
  · fail "ww"
    have hd3 : door < 3 := by omega
    have ed : dTl door n ws sp ns = dR n ws := by unfold dTl; rw [if_pos hd3]
    rcases cas (fun e h => by rw [ed, h]) with ⟨c, y, bd, er⟩ | ⟨h1, e1, e2⟩
    · exact .inr ⟨n, b, ts, ws, (c, y), rfl, by omega, hB, hC, bd, er⟩
    · obtain ⟨r, rfl⟩ := Int.eq_ofNat_of_zero_le (show 0 ≤ n by omega)
      obtain ⟨cs, hf, ew⟩ := fits_cmds (n := r) (eW_fits e2)
      refine .inl ⟨r, b, ts, cs, rfl, by omega, by omega, hB, (ew ▸ hC).toCm, hf, fun H1 k1 s1 _ _ _ => ?_⟩
      fail "ww"
      refine ⟨rfl, ?_⟩
      rw [decide_eq_true rfl]
      fail "ww"
      exact good (by rw [ed, e1]) _ s1
  fail "ww"
  refine r_dec (fun g1 => ?_) (fun g1 => ?_)
  · fail "ww"
    have hd3 : door < 3 := by omega
    have ed : dTl door n ws sp ns = dR n ws := by unfold dTl; rw [if_pos hd3]
    rcases cas (fun e h => by rw [ed, h]) with ⟨c, y, bd, er⟩ | ⟨h1, e1, e2⟩
    · exact .inr ⟨n, b, ts, ws, (c, y), rfl, by omega, hB, hC, bd, er⟩
    · obtain ⟨r, rfl⟩ := Int.eq_ofNat_of_zero_le (show 0 ≤ n by omega)
      obtain ⟨cs, hf, ew⟩ := fits_cmds (n := r) (eW_fits e2)
      refine .inl ⟨r, b, ts, cs, rfl, by omega, by omega, hB, (ew ▸ hC).toCm, hf, fun H1 p us s1 _ _ _ => ?_⟩
      fail "ww"
      refine ⟨rfl, ?_⟩
      rw [decide_eq_true rfl]
      fail "ww"
      exact good (by rw [ed, e1]) _ s1
  fail "ww"
  refine r_dec (fun g2 => ?_) (fun g2 => ?_)
  · fail "ww"
    have hd3 : door < 3 := by omega
    have ed : dTl door n ws sp ns = dR n ws := by unfold dTl; rw [if_pos hd3]
    rcases cas (fun e h => by rw [ed, h]) with ⟨c, y, bd, er⟩ | ⟨h1, e1, e2⟩
    · exact .inr ⟨n, b, ts, ws, (c, y), rfl, by omega, hB, hC, bd, er⟩
    · obtain ⟨r, rfl⟩ := Int.eq_ofNat_of_zero_le (show 0 ≤ n by omega)
      obtain ⟨cs, hf, ew⟩ := fits_cmds (n := r) (eW_fits e2)
      refine .inl ⟨r, b, ts, cs, rfl, by omega, by omega, hB, (ew ▸ hC).toCm, hf, fun H1 s1 => ?_⟩
      fail "ww"
      refine ⟨rfl, ?_⟩
      rw [decide_eq_true rfl]
      fail "ww"
      exact good (by rw [ed, e1]) _ s1
  fail "ww"
  refine r_dec (fun g3 => ?_) (fun g3 => ?_)
  · fail "ww"
    have hd3 : door = 3 := by omega
    subst hd3
    have ed : dTl 3 n ws sp ns = orO (dR n ws) (dNum n ws sp) := by unfold dTl; rw [if_neg (by decide), if_pos rfl]
    rcases cas (fun e h => by rw [ed, h]; rfl) with ⟨c, y, bd, er⟩ | ⟨h1, e1, e2⟩
    · exact .inr ⟨n, sp, b, ts, ws, (c, y), rfl, hn, hB, hC, .inl bd, er⟩
    · obtain ⟨r, rfl⟩ := Int.eq_ofNat_of_zero_le (show 0 ≤ n by omega)
      obtain ⟨cs, hf, ew⟩ := fits_cmds (n := r) (eW_fits e2)
      have ef : ws.map fromW = cs := by rw [ew, from_to]
      by_cases hk : sp < 0 ∨ ((mulM (lenM r cs) r : Nat) : Int) ≤ sp
      · have dn : dNum r ws sp = some (("number" : Str), sp) := by unfold dNum; rw [Int.toNat_natCast, ef, if_pos hk]
        exact .inr ⟨r, sp, b, ts, ws, (T.InvalidNumber_a, .int sp), rfl, hn, hB, hC, .inr ⟨h1, ⟨cs, by rw [Int.toNat_natCast]; exact hf, ew, by rw [Int.toNat_natCast]; exact hk⟩, rfl, rfl⟩, fin _ 3 _ T.InvalidNumber_E.te (kd7_number T) (by rw [ed, e1, dn]; rfl)⟩
      · have dn : dNum r ws sp = none := by unfold dNum; rw [Int.toNat_natCast, ef, if_neg hk]
        obtain ⟨kk, rfl⟩ := Int.eq_ofNat_of_zero_le (show 0 ≤ sp by omega)
        refine .inl ⟨r, b, kk, ts, cs, rfl, by omega, by omega, hB, (ew ▸ hC).toCm, hf, by omega, fun H1 p l s1 _ _ _ => ?_⟩
        fail "ww"
        refine ⟨rfl, ?_⟩
        rw [decide_eq_true rfl]
        fail "ww"
        exact good (by rw [ed, e1, dn]; rfl) _ s1
  · fail "ww"
    have hd4 : door = 4 := by omega
    subst hd4
    have ed : dTl 4 n ws sp ns = dGB ws ns := by unfold dTl; rw [if_neg (by decide), if_neg (by decide)]
    obtain ⟨hl1, hl2⟩ := hlen rfl
    rcases first_cases (wrR ns) ns.length with ⟨i, e, _⟩ | ⟨e, _⟩
    · have e : eR ns = some i := e
      exact .inr ⟨b, a, ns, ts, ws, (_, _), rfl, hl1, by omega, hA, hB, hC, .inl ⟨i, e, rfl, rfl⟩, fin _ 2 _ T.InvalidRow_E.te (kd7_row T) (by rw [ed]; unfold dGB; rw [e]; rfl)⟩
    · have e : eR ns = none := e
      rcases first_cases (wrW ns.length ws) ws.length with ⟨i, e2, _⟩ | ⟨e2, _⟩
      · have e2 : eW ns.length ws = some i := e2
        exact .inr ⟨b, a, ns, ts, ws, (_, _), rfl, hl1, by omega, hA, hB, hC, .inr ⟨e, i, e2, rfl, rfl⟩, fin _ 1 _ T.InvalidCommand_E.te (kd7_command T) (by rw [ed]; unfold dGB; rw [e, e2]; rfl)⟩
      · have e2 : eW ns.length ws = none := e2
        obtain ⟨cs, hf, ew⟩ := fits_cmds (n := ns.length) (eW_fits e2)
        have gd : dTl 4 n ws sp ns = none := by rw [ed]; unfold dGB; rw [e, e2]
        refine .inl ⟨b, a, ns.length, ns, ts, cs, rfl, hl1, by omega, hB, (ew ▸ hC).toCm, hf, hA, arr_perm (eR_arr e), fun H1 s1 => ⟨fun _ => ?_, fun _ => ?_⟩⟩
        · fail "ww"
          refine ⟨rfl, ?_⟩
          rw [decide_eq_true rfl]
          fail "ww"
          exact good gd _ s1
        · fail "ww"
          refine ⟨rfl, ?_⟩
          rw [decide_eq_true rfl]
          fail "ww"
          exact good gd _ s1
def sp_law_right (K : PySem.W.Frag) : Sp := fun vs H Q _ => ∃ (r : Addr) (m : Nat), vs = [.ref r] ∧ Pol H r m ∧ m < 2 ^ 40 ∧
  ∀ (H' : Hp), Sx r H H' → Pol H' r (m + 2000) → Q (.bl true) H'
theorem ok_law_right (T : Txt K mg) : FnG P w K mg base CX0 8 T.law_right_a T.law_right_d ["pool"] (sp_law_right K) := by
  refine okG T.law_right_F sc_law_right (fun vs H Q E h => ?_) (fun cdv A ou t H vs Q E hG hr h => ?_)
  · obtain ⟨_, _, rfl, _⟩ := h; rfl
  have nd := sc_law_right.nd
  obtain ⟨r, m, rfl, hR, hm, k⟩ := h
  refine ⟨_, (pss_cons (sset 1 nd (pe_op op_add pe_int (pe_callG (ok_law_draw T) hG (hr.mono (by decide)) (by rfl) T.law_draw_g T.law_draw_F.kp T.law_draw_b .nil pass0 (pa_cons (pv 0) (pa_cons (pe_ix (ix_listK K) (pe_lst (pa_cons pe_int (pa_cons pe_int (pa_cons pe_int pa_nil)))) (pe_callG (ok_law_draw T) hG (hr.mono (by decide)) (by rfl) T.law_draw_g T.law_draw_F.kp T.law_draw_b .nil pass0 (pa_cons (pv 0) (pa_cons pe_int pa_nil))) (fun _ _ => rfl)) pa_nil)))))
      (pss_cons (ps_asg (pe_tup (pa_cons (pe_callG (ok_law_steps T) hG (hr.mono (by decide)) (by rfl) T.law_steps_g T.law_steps_F.kp T.law_steps_b .nil pass0 (pa_cons (pv 0) (pa_cons (pv 1) (pa_cons (pe_ix (ix_listK K) (pe_lst (pa_cons pe_int (pa_cons pe_int pa_nil))) (pe_callG (ok_law_draw T) hG (hr.mono (by decide)) (by rfl) T.law_draw_g T.law_draw_F.kp T.law_draw_b .nil pass0 (pa_cons (pv 0) (pa_cons pe_int pa_nil))) (fun _ _ => rfl)) pa_nil)))) (pa_cons (pe_lst pa_nil) (pa_cons pe_int pa_nil)))) (pg_tupK K 3 rfl (pgs_cons (gset 2 nd) (pgs_cons (gset 3 nd) (pgs_cons (gset 4 nd) pgs_nil)))))
      (pss_cons (ps_for PassesOwn.never rfl (pi_listK K (pe_callG (ok_law_blocks T) hG (hr.mono (by decide)) (by rfl) T.law_blocks_g T.law_blocks_F.kp T.law_blocks_b .nil pass0 (pa_cons (pv 1) (pa_cons (pv 2) pa_nil)))) (pg_tupK K 2 rfl (pgs_cons (gset 5 nd) (pgs_cons (gset 6 nd) pgs_nil)))
        (pss_one (ps_for PassesOwn.never rfl (pi_range2 (by rfl) T.m_range (pa_cons (pv 5) (pa_cons (pe_op op_add (pv 6) pe_int) pa_nil))) (gset 7 nd)
        (pss_one (sset 4 nd (pe_op op_fdivW (pe_op op_mulW (pv 4) (pv 7)) (pe_op op_add (pe_op op_sub (pv 7) (pv 5)) pe_int)))))))
      (C8.pss_cut (sset 8 nd (pe_ifExp (pt_cmpR op_lt (pv 4) (pe_op op_mulW pe_int (pe_op op_powW pe_int pe_int)) (nomark _)) (pe_lst (pa_cons (pv 4) (pa_cons (pe_op op_add (pv 4) (pe_callG (ok_law_draw T) hG (hr.mono (by decide)) (by rfl) T.law_draw_g T.law_draw_F.kp T.law_draw_b .nil pass0 (pa_cons (pv 0) (pa_cons (pe_op op_powW pe_int pe_int) pa_nil)))) pa_nil))) (pe_lst (pa_cons (pe_un un_neg pe_int) (pa_cons (pe_un un_neg pe_int) pa_nil)))))
      (pss_cons (sset 9 nd (pe_ix (ix_listK K) (pe_op op_cat (pe_lst (pa_cons (pe_callG (ok_law_draw T) hG (hr.mono (by decide)) (by rfl) T.law_draw_g T.law_draw_F.kp T.law_draw_b .nil pass0 (pa_cons (pv 0) (pa_cons (pe_callB (call_min2 rfl) (by rfl) T.m_min (by decide +kernel) (pa_cons (pv 4) (pa_cons (pe_op op_powW pe_int pe_int) pa_nil))) pa_nil))) (pa_cons (pe_un un_neg pe_int) pa_nil))) (pv 8)) (pe_callG (ok_law_draw T) hG (hr.mono (by decide)) (by rfl) T.law_draw_g T.law_draw_F.kp T.law_draw_b .nil pass0 (pa_cons (pv 0) (pa_cons pe_int pa_nil))) (fun _ _ => rfl)))
      (C8.pss_cut (ps_par3 (i := 10) (j := 11) (l := 12) (by rfl) nd rfl rfl rfl (by decide) (by decide) (by decide) rfl rfl rfl (pa_cons (pe_op op_rep (pe_lst (pa_cons (pe_lst (pa_cons pe_str (pa_cons (pv 9) pa_nil))) pa_nil)) (pe_callTy call_int1 (by rfl) T.m_int (by decide +kernel) (pa_cons (pe_not (pe_chain op_le op_lt pe_int (pv 9) (pv 4))) pa_nil))) (pa_cons (pe_lst pa_nil) (pa_cons (pe_lst pa_nil) pa_nil))) (by rfl))
      (pss_cons (sset 13 nd (pe_callG (ok_law_line T) hG (hr.mono (by decide)) (by rfl) T.law_line_g T.law_line_F.kp T.law_line_b .nil pass0 (pa_cons (pv 0) (pa_cons (pv 1) pa_nil))))
      (C8.pss_cut (ps_if (pt_cmpR op_eq (pe_callG (ok_law_draw T) hG (hr.mono (by decide)) (by rfl) T.law_draw_g T.law_draw_F.kp T.law_draw_b .nil pass0 (pa_cons (pv 0) (pa_cons pe_int pa_nil))) pe_int (nomark _))
        (pss_cons (ps_asg (pe_callG (ok_law_bad_line T) hG (hr.mono (by decide)) (by rfl) T.law_bad_line_g T.law_bad_line_F.kp T.law_bad_line_b .nil pass0 (pa_cons (pv 0) (pa_cons (pv 13) pa_nil))) (pg_unlK K 2 rfl (pgs_cons (gset 13 nd) (pgs_cons (gset 14 nd) pgs_nil))))
      (pss_one (sset 12 nd (pe_op op_rep (pe_lst (pa_cons (pe_lst (pa_cons pe_str (pa_cons (pv 14) pa_nil))) pa_nil)) (pe_callTy call_int1 (by rfl) T.m_int (by decide +kernel) (pa_cons (pe_cmpR op_notN (pv 14) pe_non (nomark _)) pa_nil))))))
        pss_nil)
      (C8.pss_cut (ps_if (pt_cmpR op_eq (pe_callG (ok_law_draw T) hG (hr.mono (by decide)) (by rfl) T.law_draw_g T.law_draw_F.kp T.law_draw_b .nil pass0 (pa_cons (pv 0) (pa_cons pe_int pa_nil))) pe_int (nomark _))
        (pss_cons (ps_asg (pe_callG (ok_law_bad_steps T) hG (hr.mono (by decide)) (by rfl) T.law_bad_steps_g T.law_bad_steps_F.kp T.law_bad_steps_b .nil pass0 (pa_cons (pv 0) (pa_cons (pv 1) (pa_cons (pv 2) pa_nil)))) (pg_unlK K 2 rfl (pgs_cons (gset 2 nd) (pgs_cons (gset 14 nd) pgs_nil))))
      (pss_one (sset 3 nd (pe_lst (pa_cons (pe_lst (pa_cons pe_str (pa_cons (pv 14) pa_nil))) pa_nil)))))
        pss_nil)
      (C8.pss_cut (ps_if (pt_cmpR op_eq (pe_callG (ok_law_draw T) hG (hr.mono (by decide)) (by rfl) T.law_draw_g T.law_draw_F.kp T.law_draw_b .nil pass0 (pa_cons (pv 0) (pa_cons pe_int pa_nil))) pe_int (nomark _))
        (pss_cons (sset 1 nd (pe_op op_sub pe_int (pe_ix (ix_listK K) (pe_lst (pa_cons pe_int (pa_cons pe_int (pa_cons (pe_callG (ok_law_draw T) hG (hr.mono (by decide)) (by rfl) T.law_draw_g T.law_draw_F.kp T.law_draw_b .nil pass0 (pa_cons (pv 0) (pa_cons (pe_op op_powW pe_int pe_int) pa_nil))) pa_nil)))) (pe_callG (ok_law_draw T) hG (hr.mono (by decide)) (by rfl) T.law_draw_g T.law_draw_F.kp T.law_draw_b .nil pass0 (pa_cons (pv 0) (pa_cons pe_int pa_nil))) (fun _ _ => rfl))))
      (pss_one (sset 11 nd (pe_lst (pa_cons (pe_lst (pa_cons pe_str (pa_cons (pv 1) pa_nil))) pa_nil)))))
        pss_nil)
      (pss_cons (sset 15 nd (pe_op op_cat (pe_op op_rep (pe_lst (pa_cons (pe_ix (ix_listK K) (pe_op op_cat (pe_op op_cat (pv 11) (pv 3)) (pe_lst (pa_cons (pe_lst (pa_cons pe_str (pa_cons pe_non pa_nil))) pa_nil))) pe_int (fun _ _ => rfl)) pa_nil)) pe_int) (pe_lst (pa_cons (pe_ix (ix_listK K) (pe_op op_cat (pe_op op_cat (pe_op op_cat (pv 11) (pv 3)) (pv 10)) (pe_lst (pa_cons (pe_lst (pa_cons pe_str (pa_cons pe_non pa_nil))) pa_nil))) pe_int (fun _ _ => rfl)) pa_nil))))
      (pss_cons (ps_expr (pe_bmK K PySem.F.plainAttrs_list PySem.F.slot_list_append PySem.F.type_list_append mt_append (pv 15) (pa_cons (pe_ix (ix_listK K) (pe_op op_cat (pe_op op_cat (pv 12) (pv 3)) (pe_lst (pa_cons (pe_lst (pa_cons pe_str (pa_cons pe_non pa_nil))) pa_nil))) pe_int (fun _ _ => rfl)) pa_nil)))
      (pss_cons (sset 16 nd (pe_callB (reprK K hG hr.units) (by rfl) T.m_repr (by decide +kernel) (pa_cons (pe_lst (pa_cons (pv 2) (pa_cons (pv 13) pa_nil))) pa_nil)))
      (pss_cons (ps_if (pt_cmpR (neDK K hr.units) (pe_lc (own := [("door", 22)]) (hc := rfl) (hN := nd) (hi := (pi_range1 (by rfl) T.m_range (pa_cons pe_int pa_nil))) (ok := blkOk_by (by rfl)) (hg := fun _ _ _ _ _ => (gset 22 nd)) (ht := (fun _ _ _ _ _ => pts_nil)) (he := fun _ _ _ _ _ => (pe_callG (ok_law_told T) hG (hr.mono (by decide)) (by rfl) T.law_told_g T.law_told_F.kp T.law_told_b .nil pass0 (pa_cons (pv 22) (pa_cons (pv 1) (pa_cons (pv 2) (pa_cons (pv 9) (pa_cons (pv 13) pa_nil)))))))) (pv 15) (nomark _))
        (pss_one (ps_ret pe_bl))
        pss_nil)
      (pss_cons (ps_setLc (i := 17) (hy := rfl) (hyl := rfl) (hsw := sw_true rfl rfl rfl (by decide +kernel)) (own := [("turn", 19)]) (hc := rfl) (hN := nd) (hi := (pi_range1 (by rfl) T.m_range (pa_cons pe_int pa_nil))) (ok := blkOk_by (by rfl)) (hg := fun _ _ _ _ _ => (gset 19 nd)) (ht := (fun _ _ _ _ _ => pts_nil)) (he := fun _ _ _ _ _ => (pe_ix (ix_listK K) (pe_lst (pa_cons (pe_callG (ok_law_draw T) hG (hr.mono (by decide)) (by rfl) T.law_draw_g T.law_draw_F.kp T.law_draw_b .nil pass0 (pa_cons (pv 0) (pa_cons pe_int pa_nil))) (pa_cons pe_int (pa_cons (pe_un un_neg pe_int) (pa_cons (pe_op op_sub pe_int (pe_callG (ok_law_draw T) hG (hr.mono (by decide)) (by rfl) T.law_draw_g T.law_draw_F.kp T.law_draw_b .nil pass0 (pa_cons (pv 0) (pa_cons (pe_op op_powW pe_int pe_int) pa_nil)))) pa_nil))))) (pe_callG (ok_law_draw T) hG (hr.mono (by decide)) (by rfl) T.law_draw_g T.law_draw_F.kp T.law_draw_b .nil pass0 (pa_cons (pv 0) (pa_cons pe_int pa_nil))) (fun _ _ => rfl))))
      (pss_cons (ps_setLc (i := 14) (hy := rfl) (hyl := rfl) (hsw := sw_true rfl rfl rfl (by decide +kernel)) (own := [("value", 20), ("least", 21)]) (hc := rfl) (hN := nd) (hi := (pi_zipK K (by rfl) T.m_zip (pa_cons (pv 17) (pa_cons (pe_lst (pa_cons pe_int (pa_cons pe_int (pa_cons pe_int pa_nil)))) pa_nil)))) (ok := blkOk_by (by rfl)) (hg := fun _ _ _ _ _ => (pg_tupK K 2 rfl (pgs_cons (gset 20 nd) (pgs_cons (gset 21 nd) pgs_nil)))) (ht := (fun _ _ _ _ _ => pts_one (pt_cmpR op_lt (pv 20) (pv 21) (nomark _)))) (he := fun _ _ _ _ _ => (pv 20)))
      (pss_cons (sset 18 nd (pe_ifExp (pt_cmpR (neDK K hr.units) (pv 14) (pe_lst pa_nil) (nomark _)) (pe_lst (pa_cons pe_str (pa_cons (pe_ix (ix_listK K) (pv 14) pe_int (fun _ _ => rfl)) pa_nil))) (pe_lst (pa_cons pe_str (pa_cons pe_non pa_nil)))))
      (pss_one (ps_ret (pe_and (pe_cmpR (eqDK K hr.units) (pe_callG (ok_law_turns_told T) hG (hr.mono (by decide)) (by rfl) T.law_turns_told_g T.law_turns_told_F.kp T.law_turns_told_b .nil pass0 (pa_cons (pe_ix (ix_listK K) (pv 17) pe_int (fun _ _ => rfl)) (pa_cons (pe_ix (ix_listK K) (pv 17) pe_int (fun _ _ => rfl)) (pa_cons (pe_ix (ix_listK K) (pv 17) pe_int (fun _ _ => rfl)) pa_nil)))) (pv 18) (nomark _)) (pe_one (pe_cmpR op_eq (pe_callB (reprK K hG hr.units) (by rfl) T.m_repr (by decide +kernel) (pa_cons (pe_lst (pa_cons (pv 2) (pa_cons (pv 13) pa_nil))) pa_nil)) (pv 16) (nomark _))))))))))))))))))))))), ?_⟩
  fail "ww"
  refine new_ fun l0 H1 n0 s0 h0 => ?_
  have hl0 := hR.ne n0
  fail "ww"
  refine ⟨r, 3, _, rfl, hR.same s0, by omega, by decide, by decide, fun H2 d0 d00 d01 s2 hR2 => ?_⟩
  obtain ⟨top, hat, ht1, ht2⟩ : ∃ top : Int, atI [V.int 6, V.int 20, V.int 60] d0 = some (.int top) ∧ 1 ≤ top ∧ top ≤ 60 := by
    have : d0 = 0 ∨ d0 = 1 ∨ d0 = 2 := by omega
    rcases this with e | e | e <;> subst e
    · exact ⟨6, rfl, by decide, by decide⟩
    · exact ⟨20, rfl, by decide, by decide⟩
    · exact ⟨60, rfl, by decide, by decide⟩
  refine r_ixL (sq (s2 _ _ hl0 h0)) hat ?_
  have sx2 : Sx r H H2 := (Sx.refl.same s0).trans s2
  clear hat s2 s0 n0 h0 hl0 d00 d01
  fail "ww"
  refine ⟨r, top, _, rfl, hR2, by omega, by omega, by omega, fun H3 d1 d10 d11 s3 hR3 => ?_⟩
  obtain ⟨e1, rfl⟩ := Int.eq_ofNat_of_zero_le d10
  fail "ww"
  rw [show (1 : Int) + (e1 : Int) = ((1 + e1 : Nat) : Int) by omega]
  obtain ⟨n, hn⟩ : ∃ n, n = 1 + e1 := ⟨_, rfl⟩
  rw [← hn]
  have hn1 : 1 ≤ n := by omega
  have hn2 : n ≤ 60 := by omega
  have sx3 := sx2.trans s3
  clear s3 hR2 hR sx2 hn d10 d11
  fail "ww"
  refine new_ fun l1 H4 n4 s4 h4 => ?_
  have hl1 := hR3.ne n4
  fail "ww"
  refine ⟨r, 2, _, rfl, hR3.same s4, by omega, by decide, by decide, fun H5 d2 d20 d21 s5 hR5 => ?_⟩
  obtain ⟨most, hat, hmo⟩ : ∃ most : Nat, atI [V.int 12, V.int 198] d2 = some (.int (most : Int)) ∧ most ≤ 198 := by
    have : d2 = 0 ∨ d2 = 1 := by omega
    rcases this with e | e <;> subst e
    · exact ⟨12, rfl, by decide⟩
    · exact ⟨198, rfl, by decide⟩
  refine r_ixL (sq (s5 _ _ hl1 h4)) hat ?_
  have sx5 := (sx3.same s4).trans s5
  clear hat s5 s4 n4 h4 hl1 d20 d21 sx3 hR3
  fail "ww"
  refine ⟨r, n, most, _, rfl, hR5, hn1, by omega, by omega, by omega, fun H6 S ts cs s6 nS hR6 hS hC hF hcl => ?_⟩
  have hSr := hR5.ne nS
  have sx6 := sx5.trans s6
  clear s6 nS hR5 sx5
  fail "ww"
  refine new_ fun f0 H7 nf s7 hf0 => ?_
  fail "ww"
  refine new_ fun t0 H8 nt s8 ht0 => ?_
  refine r_gtup (sqT ht0) rfl ?_
  have s78 := s7.trans s8
  have hS8 := s78 _ _ hS
  have hC8 := hC.same s78
  have hR8 := hR6.same s78
  have sx8 := sx6.same s78
  have hf8 := s8 _ _ hf0
  have hf0r := hR6.ne nf
  clear s7 s8 s78 ht0 nt hS hC hR6 sx6 hf0 nf
  fail "ww"
  refine ⟨n, S, ts, cs, rfl, hn1, by omega, sq hS8, hC8, hF, by omega, fun H9 pb us s9 nb hb hU => ?_⟩
  fail "ww"
  have hS9 := s9 _ _ hS8
  have hC9 := hC8.same s9
  have hR9 := hR8.same s9
  have sx9 := sx8.same s9
  have hf9 := s9 _ _ hf8
  clear s9 hS8 hC8 hR8 sx8 hf8 nb
  have hbo := blkM_ok hF hn1
  have hble := (tile_le hbo.1).2
  have hbl := blk_len hF hn1
  have haw : ∀ i, accB 1 ((blkM n cs).take i) ≤ 2 ^ 3600 := fun i => by
    have h1 := acc_le (n := n) (bs := (blkM n cs).take i) (w := 1) (b := 0) (fun c hc => by have := hble c (List.mem_of_mem_take hc); omega) (Nat.le_refl _)
    refine Nat.le_trans h1 (Nat.pow_le_pow_right (by decide) ?_)
    rw [Nat.zero_add, List.length_take]
    exact Nat.mul_le_mul hn2 (show min i (blkM n cs).length ≤ 60 by omega)
  refine forA (walk_list (xs := us.map V.ref)) (fun i σ' H' => ∃ y5 y6 y7, σ' = [some (.ref r), some (.int (n : Int)), some (.ref S), some (.ref f0), some (.int ((accB 1 ((blkM n cs).take i) : Nat) : Int)), y5, y6, y7, none, none, none, none, none, none, none, none, none, none, none, none, none, none, none] ∧ H' = H9)
    ⟨none, none, none, rfl, rfl⟩ (fun i σ' G _ p' => ?_) (fun i σ' G hi p' => ?_) (fun σ' G p' => ?_)
  · obtain ⟨_, _, _, _, rfl⟩ := p'; exact sq hb
  · obtain ⟨y5, y6, y7, rfl, rfl⟩ := p'
    have hi' : i < (blkM n cs).length := by rw [← hU.len]; simpa using hi
    obtain ⟨t0, et, ht⟩ := hU.idx hi'
    have e1 : (us.map V.ref)[i] = .ref t0 := by
      have : (us.map V.ref)[i]? = some (.ref t0) := by rw [List.getElem?_map, et]; rfl
      rw [List.getElem?_eq_getElem hi] at this
      exact Option.some.inj this
    rw [e1, acc_take hi']
    have hc := hble _ (List.getElem_mem hi')
    have hW := haw i
    generalize accB 1 ((blkM n cs).take i) = W at hW ⊢
    generalize (blkM n cs)[i] = c at ht hc ⊢
    refine r_gtup (sqT ht) rfl ?_
    fail "ww"
    refine ⟨⟨by omega, by omega, by omega, by omega⟩, ?_⟩
    refine forF walk_range (fun t σ' H' => ∃ y7, σ' = [some (.ref r), some (.int (n : Int)), some (.ref S), some (.ref f0), some (.int ((W * cmb (c.1 - 1 + t) t : Nat) : Int)), some (.int (c.1 : Int)), some (.int (c.2 : Int)), y7, none, none, none, none, none, none, none, none, none, none, none, none, none, none, none] ∧ H' = G)
      ⟨y7, by rw [cmb_zero, Nat.mul_one]; rfl, rfl⟩ (fun _ _ _ _ _ => trivial) (fun t σ' H' htt p => ?_) (fun σ' H' p => ?_)
    · obtain ⟨y7, rfl, rfl⟩ := p
      fail "ww"
      have ht60 : c.1 + t ≤ 60 := by omega
      have hb1 : W * cmb (c.1 - 1 + t) t ≤ 2 ^ 3660 := Nat.le_trans (Nat.mul_le_mul hW (Nat.le_trans (cmb_le _ _) (Nat.pow_le_pow_right (by decide) (show c.1 - 1 + t ≤ 60 by omega)))) (Nat.le_of_eq (Nat.pow_add 2 3600 60).symm)
      have up := cmb_up (c.1 - 1) t
      rw [show c.1 - 1 + t + 1 = c.1 + t by omega] at up
      have e2 : W * cmb (c.1 - 1 + t) t * (c.1 + t) = W * cmb (c.1 - 1 + (t + 1)) (t + 1) * (t + 1) := by rw [Nat.mul_assoc, up, Nat.mul_assoc]
      have e3 : ((W * cmb (c.1 - 1 + t) t : Nat) : Int) * ((c.1 : Int) + (t : Int)) = ((W * cmb (c.1 - 1 + (t + 1)) (t + 1) * (t + 1) : Nat) : Int) := by rw [← e2, Int.natCast_mul (W * cmb (c.1 - 1 + t) t), Int.natCast_add]
      have hb2 : W * cmb (c.1 - 1 + (t + 1)) (t + 1) * (t + 1) ≤ 2 ^ 3666 := by rw [← e2]; exact Nat.le_trans (Nat.mul_le_mul hb1 (show c.1 + t ≤ 2 ^ 6 by omega)) (Nat.le_of_eq (Nat.pow_add 2 3660 6).symm)
      refine ⟨_, _, rfl, rfl, wide_mul (a := 3661) (b := 8) (nat_bound hb1) (by omega) (by decide) (by decide) (by decide), ?_⟩
      dsimp only
      rw [e3]
      fail "ww"
      have e4 : (c.1 : Int) + (t : Int) - (c.1 : Int) + 1 = ((t + 1 : Nat) : Int) := by omega
      rw [e4]
      refine ⟨_, _, rfl, rfl, wide_div (b := 8) (by omega) (by omega) (by decide) (by decide), ?_⟩
      dsimp only
      rw [← Int.natCast_ediv, Nat.mul_div_cancel _ (Nat.succ_pos t)]
      exact ⟨_, rfl, rfl⟩
    · obtain ⟨y7, rfl, rfl⟩ := p
      exact ⟨_, _, _, by rw [show Int.toNat ((c.2 : Int) + 1 - (c.1 : Int)) = c.2 - c.1 + 1 by omega, show c.1 - 1 + (c.2 - c.1 + 1) = c.2 by omega], rfl⟩
  obtain ⟨y5, y6, y7, rfl, rfl⟩ := p'
  rw [List.length_map, hU.len, List.take_of_length_le (Nat.le_refl _), acc_mul hF hn1]
  obtain ⟨M, hM⟩ : ∃ M, M = mulM (lenM n cs) n := ⟨_, rfl⟩
  rw [← hM]
  have hM1 : 1 ≤ M := by rw [hM]; exact mul_pos' _ (lenM_sum hF hn1)
  have hM7 : M ≤ 2 ^ 700 := by rw [hM]; exact mulM_700 (Nat.le_of_eq (lenM_sum hF hn1)) (by omega)
  clear haw hbl hble hbo hb hU
  fail "ww"
  refine r_cut (fun σ' H' => ∃ (be : Addr) (x y : Int), σ' = [some (.ref r), some (.int (n : Int)), some (.ref S), some (.ref f0), some (.int (M : Int)), y5, y6, y7, some (.ref be), none, none, none, none, none, none, none, none, none, none, none, none, none, none] ∧ Sx r G H' ∧ Pol H' r (m + 801) ∧ H' be = some (.lst [.int x, .int y]) ∧ be ≠ r) ?_ (fun σ' H' p => ?_)
  · fail "ww"
    refine r_big fun big => ?_
    fail "ww"
    refine r_dec (fun g => ?_) (fun g => ?_)
    · fail "ww"
      refine ⟨r, 10 ^ 29, _, rfl, hR9, by omega, by decide, by decide, fun H10 far f0 f1 s10 hR10 => ?_⟩
      fail "ww"
      refine new_ fun be H11 n11 s11 h11 => ?_
      exact ⟨be, _, _, rfl, s10.same s11, (hR10.same s11).le (by omega), h11, hR10.ne n11⟩
    · fail "ww"
      refine new_ fun be H11 n11 s11 h11 => ?_
      exact ⟨be, _, _, rfl, Sx.refl.same s11, (hR9.same s11).le (by omega), h11, hR9.ne n11⟩
  · obtain ⟨be, bx, bY, rfl, s10, hR10, hbe, hber⟩ := p
    have hS10 := s10 _ _ hSr hS9
    have hC10 := cm_sx s10 hR9 hC9
    have hf10 := s10 _ _ hf0r hf9
    have sx10 := sx9.trans s10
    clear s10 hR9 hC9 hf9 sx9 hS9
    fail "ww"
    obtain ⟨lim, hlim, hlim1, hlim2⟩ : ∃ lim : Int, (if (10 : Int) ^ Int.toNat 30 < (M : Int) then (10 : Int) ^ Int.toNat 30 else (M : Int)) = lim ∧ 0 < lim ∧ lim ≤ (10 : Int) ^ Int.toNat 30 := by
      have p30 : (0 : Int) < (10 : Int) ^ Int.toNat 30 := by decide
      split
      · exact ⟨_, rfl, p30, Int.le_refl _⟩
      · exact ⟨_, rfl, by omega, by omega⟩
    rw [hlim]
    refine ⟨r, lim, _, rfl, hR10, by omega, hlim1, Int.lt_of_le_of_lt hlim2 (by decide), fun H11 d0 d00 d01 s11 hR11 => ?_⟩
    have hS11 := s11 _ _ hSr hS10
    have hC11 := cm_sx s11 hR10 hC10
    have hf11 := s11 _ _ hf0r hf10
    have hbe11 := s11 _ _ hber hbe
    have sx11 := sx10.trans s11
    clear s11 hR10 hC10 hf10 sx10 hS10 hbe d00 d01 hlim hlim1 hlim2
    fail "ww"
    refine new_ fun q1 H12 n12 s12 h12 => ?_
    fail "ww"
    refine n_cat h12 (s12 _ _ hbe11) (size_le (by simp)) (new_ fun q2 H13 n13 s13 h13 => ?_)
    fail "ww"
    have s1213 := s12.trans s13
    have hq2r := (hR11.same s12).ne n13
    refine ⟨r, 4, _, rfl, hR11.same s1213, by omega, by decide, by decide, fun H14 d1 d10 d11 s14 hR14 => ?_⟩
    obtain ⟨sp, hat⟩ : ∃ sp : Int, atI ([V.int d0, V.int (-1)] ++ [V.int bx, V.int bY]) d1 = some (.int sp) := by
      have : d1 = 0 ∨ d1 = 1 ∨ d1 = 2 ∨ d1 = 3 := by omega
      rcases this with e | e | e | e <;> subst e <;> exact ⟨_, rfl⟩
    refine r_ixL (sq (s14 _ _ hq2r h13)) hat ?_
    have hS14 := s14 _ _ hSr (s1213 _ _ hS11)
    have hC14 := cm_sx s14 (hR11.same s1213) (hC11.same s1213)
    have hf14 := s14 _ _ hf0r (s1213 _ _ hf11)
    have hbe14 := s14 _ _ hber (s1213 _ _ hbe11)
    have sx14 := (sx11.same s1213).trans s14
    clear s12 s13 s1213 s14 n12 n13 h12 h13 hq2r hat hR11 hS11 hC11 hf11 hbe11 sx11 d10 d11
    fail "ww"
    refine r_cut (fun σ' H' => ∃ (la ea fa : Addr), σ' = [some (.ref r), some (.int (n : Int)), some (.ref S), some (.ref f0), some (.int (M : Int)), y5, y6, y7, some (.ref be), some (.int sp), some (.ref la), some (.ref ea), some (.ref fa), none, none, none, none, none, none, none, none, none, none] ∧ Same H14 H' ∧ Hl r H' la (numO sp M) ∧ Hl r H' ea none ∧ Hl r H' fa none) ?_ (fun σ' H15 p => ?_)
    · refine r_par3 ?_
      fail "ww"
      refine new_ fun a1 H15 n15 s15 h15 => ?_
      fail "ww"
      refine new_ fun a2 H16 n16 s16 h16 => ?_
      fail "ww"
      have ha1 := hR14.ne n15
      have h15' := s16 _ _ h15
      have fin : ∀ c : Bool, c = decide (0 ≤ sp ∧ sp < (M : Int)) → ∀ Q' : VK, (∀ H17 la, Same H16 H17 → Hl r H17 la (numO sp M) → Q' (.ref la) H17) → rRep (.ref a2) (.int (if (!c) = true then 1 else 0)) H16 Q' := fun c e Q' hq => by
        have hR16 := (hR14.same s15).same s16
        cases c with
        | true =>
          have e' : numO sp M = none := by unfold numO; rw [if_pos (of_decide_eq_true e.symm)]
          refine n_rep (n := 0) h16 (by decide) (by simp) (new_ fun la H17 n17 s17 h17 => hq _ _ s17 ?_)
          rw [e']; exact .nil h17 (hR16.ne n17)
        | false =>
          have e' : numO sp M = some (("number" : Str), sp) := by unfold numO; rw [if_neg (of_decide_eq_false e.symm)]
          refine n_rep (n := 1) h16 (by decide) (by simp) (new_ fun la H17 n17 s17 h17 => hq _ _ s17 ?_)
          rw [e']; exact .one h17 (s17 _ _ h15') (hR16.ne n17) ha1
      have close : ∀ H17 la, Same H16 H17 → Hl r H17 la (numO sp M) → ∀ (ea : Addr) H18, H17 ea = none → Same H17 H18 → H18 ea = some (.lst []) → ∀ (fa : Addr) H19, H18 fa = none → Same H18 H19 → H19 fa = some (.lst []) → Same H14 H19 ∧ Hl r H19 la (numO sp M) ∧ Hl r H19 ea none ∧ Hl r H19 fa none := fun H17 la s17 hl ea H18 n18 s18 h18 fa H19 n19 s19 h19 => by
        have hR16 := (hR14.same s15).same s16
        exact ⟨s15.trans (s16.trans (s17.trans (s18.trans s19))), (hl.same s18).same s19, .nil (s19 _ _ h18) ((hR16.same s17).ne n18), .nil h19 (((hR16.same s17).same s18).ne n19)⟩
      refine r_dec (fun g => ?_) (fun g => ?_)
      · fail "ww"
        refine fin _ (by rw [Bool.eq_iff_iff, decide_eq_true_iff, decide_eq_true_iff]; exact ⟨fun h => ⟨g, h⟩, fun h => h.2⟩) _ (fun H17 la s17 hl => ?_)
        fail "ww"
        refine new_ fun ea H18 n18 s18 h18 => ?_
        fail "ww"
        refine new_ fun fa H19 n19 s19 h19 => ?_
        fail "ww"
        refine ⟨_, _, _, rfl, ?_⟩
        exact ⟨_, _, _, rfl, close _ _ s17 hl _ _ n18 s18 h18 _ _ n19 s19 h19⟩
      · fail "ww"
        refine fin false (by rw [eq_comm, decide_eq_false_iff_not]; exact fun h => g h.1) _ (fun H17 la s17 hl => ?_)
        fail "ww"
        refine new_ fun ea H18 n18 s18 h18 => ?_
        fail "ww"
        refine new_ fun fa H19 n19 s19 h19 => ?_
        fail "ww"
        refine ⟨_, _, _, rfl, ?_⟩
        exact ⟨_, _, _, rfl, close _ _ s17 hl _ _ n18 s18 h18 _ _ n19 s19 h19⟩
    obtain ⟨la, ea, fa, rfl, s15, hla, hea, hfa⟩ := p
    have hS15 := s15 _ _ hS14
    have hC15 := hC14.same s15
    have hf15 : Hl r H15 f0 none := .nil (s15 _ _ hf14) hf0r
    have hR15 := hR14.same s15
    have sx15 := sx14.same s15
    clear s15 hS14 hC14 hf14 hR14 sx14 hbe14
    fail "ww"
    refine ⟨r, n, _, rfl, hR15, by omega, by omega, fun H16 pl l s16 n16 hR16 hl hlp => ?_⟩
    have hS16 := s16 _ _ hSr hS15
    have hC16 := cm_sx s16 hR15 hC15
    have hf16 := hf15.sx s16
    have hla16 := hla.sx s16
    have hea16 := hea.sx s16
    have hfa16 := hfa.sx s16
    have sx16 := sx15.trans s16
    have hplr := hR15.ne n16
    have hll : l.length = n := by rw [hlp.length_eq]; simp [ascN]
    have hlnt : ∀ x ∈ l, Nt x := fun x hx => by
      obtain ⟨k, hk, rfl⟩ := List.mem_map.mp (hlp.mem_iff.mp hx)
      have := List.mem_range.mp hk
      unfold Nt
      exact Nat.le_trans (show (1 + (k : Int)).natAbs ≤ 100 by omega) (by decide)
    clear s16 n16 hS15 hC15 hf15 hla hea hfa sx15 hR15
    fail "ww"
    refine r_cut (fun σ' H' => ∃ (fb lp : Addr) (v14 : Option V) (ns : List Int), σ' = [some (.ref r), some (.int (n : Int)), some (.ref S), some (.ref f0), some (.int (M : Int)), y5, y6, y7, some (.ref be), some (.int sp), some (.ref la), some (.ref ea), some (.ref fb), some (.ref lp), v14, none, none, none, none, none, none, none, none] ∧ Sx r H16 H' ∧ Pol H' r (m + 900) ∧ Hl r H' fb (rowO ns) ∧ H' lp = some (.lst (ns.map V.int)) ∧ lp ≠ r ∧ ns.length = n ∧ (∀ x ∈ ns, Nt x)) ?_ (fun σ' H17 p => ?_)
    · fail "ww"
      refine ⟨r, 2, _, rfl, hR16, by omega, by decide, by decide, fun H17 d d0 d1 s17 hR17 => ?_⟩
      fail "ww"
      refine r_dec (fun g => ?_) (fun g => ?_)
      · fail "ww"
        refine ⟨r, pl, _, l, rfl, hR17, by omega, s17 _ _ hplr hl, by omega, by omega, hlnt, fun H18 q f ms s18 nq nf hR18 hq hf hml hmn => ?_⟩
        refine r_gunl (sq hq) rfl ?_
        have hfr := hR17.ne nf
        fail "ww"
        refine new_ fun a1 H19 n19 s19 h19 => ?_
        fail "ww"
        refine new_ fun a2 H20 n20 s20 h20 => ?_
        fail "ww"
        refine ⟨rfl, ?_⟩
        have ha1 := hR18.ne n19
        have h19' := s20 _ _ h19
        have hR20 := (hR18.same s19).same s20
        have sx18 := s17.trans s18
        cases e : eR ms with
        | none =>
          rw [show decide (optV none = V.non) = true from decide_eq_true rfl]
          fail "ww"
          refine n_rep (n := 0) h20 (by decide) (by simp) (new_ fun fb H21 n21 s21 h21 => ?_)
          refine ⟨fb, f, _, ms, rfl, ((sx18.same s19).same s20).same s21, (hR20.same s21).le (by omega), ?_, (s19.trans (s20.trans s21)) _ _ hf, hfr, by omega, hmn⟩
          rw [show rowO ms = none by unfold rowO; rw [e]]
          exact .nil h21 (hR20.ne n21)
        | some i =>
          rw [e] at h19'
          rw [show decide (optV (some i) = V.non) = false from decide_eq_false (by intro z; cases z)]
          fail "ww"
          refine n_rep (n := 1) h20 (by decide) (by simp) (new_ fun fb H21 n21 s21 h21 => ?_)
          refine ⟨fb, f, _, ms, rfl, ((sx18.same s19).same s20).same s21, (hR20.same s21).le (by omega), ?_, (s19.trans (s20.trans s21)) _ _ hf, hfr, by omega, hmn⟩
          rw [show rowO ms = some (("row" : Str), (i : Int)) by unfold rowO; rw [e]]
          exact .one h21 (s21 _ _ h19') (hR20.ne n21) ha1
      · fail "ww"
        refine ⟨fa, pl, _, l, rfl, s17, hR17.le (by omega), ?_, s17 _ _ hplr hl, hplr, hll, hlnt⟩
        rw [show rowO l = none by unfold rowO; rw [arr_eR (arr_asc hlp)]]
        exact hfa16.sx s17
    · obtain ⟨fb, lp, v14, ns, rfl, s17, hR17, hfb, hlp17, hlpr, hnl, hnt⟩ := p
      have hS17 := s17 _ _ hSr hS16
      have hC17 := cm_sx s17 hR16 hC16
      have hf17 := hf16.sx s17
      have hla17 := hla16.sx s17
      have hea17 := hea16.sx s17
      have sx17 := sx16.trans s17
      clear s17 hS16 hC16 hf16 hla16 hea16 hfa16 sx16 hR16 hl hlp hplr hll hlnt
      fail "ww"
      refine r_cut (fun σ' H' => ∃ (S2 f2 : Addr) (v14 : Option V) (ts : List Addr) (ws : List Pr), σ' = [some (.ref r), some (.int (n : Int)), some (.ref S2), some (.ref f2), some (.int (M : Int)), y5, y6, y7, some (.ref be), some (.int sp), some (.ref la), some (.ref ea), some (.ref fb), some (.ref lp), v14, none, none, none, none, none, none, none, none] ∧ Sx r H17 H' ∧ Pol H' r (m + 910) ∧ Hl r H' f2 (dC' n ws) ∧ H' S2 = some (.lst (ts.map V.ref)) ∧ S2 ≠ r ∧ Cw H' ts ws ∧ ws.length ≤ 200 ∧ (∀ c ∈ ws, NtC c) ∧ (eW n ws = none → ws = cs.map toW)) ?_ (fun σ' H18 p => ?_)
      · fail "ww"
        refine ⟨r, 3, _, rfl, hR17, by omega, by decide, by decide, fun H18 d d0 d1 s18 hR18 => ?_⟩
        fail "ww"
        refine r_dec (fun g => ?_) (fun g => ?_)
        · fail "ww"
          refine ⟨r, S, n, _, (ts, cs), rfl, hR18, by omega, hn1, by omega, s18 _ _ hSr hS17, hSr, cm_sx s18 hR17 hC17, hF, by show cs.length ≤ 1000; omega, fun H19 q f us ws i s19 nq nf hR19 hq hf hC hw hl hnt => ?_⟩
          have hl' : ws.length ≤ cs.length + 2 := hl
          have hfr := hR18.ne nf
          refine r_gunl (sq hq) rfl ?_
          fail "ww"
          refine new_ fun a1 H20 n20 s20 h20 => ?_
          fail "ww"
          refine new_ fun a2 H21 n21 s21 h21 => ?_
          fail "ww"
          refine ⟨f, a2, _, us, ws, rfl, ((s18.trans s19).same s20).same s21, ((hR19.same s20).same s21).le (by omega), ?_, (s20.trans s21) _ _ hf, hfr, (hC.same s20).same s21, by omega, hnt, fun z => by rw [hw] at z; cases z⟩
          rw [show dC' n ws = some (("command" : Str), (i : Int)) by unfold dC'; rw [hw]]
          exact .one h21 (s21 _ _ h20) ((hR19.same s20).ne n21) (hR19.ne n20)
        · fail "ww"
          refine ⟨S, f0, _, ts, cs.map toW, rfl, s18, hR18.le (by omega), ?_, s18 _ _ hSr hS17, hSr, (cm_sx s18 hR17 hC17).toCw, by rw [List.length_map]; omega, ntC_toW hF (by omega), fun _ => rfl⟩
          rw [dC'_fit hF]
          exact hf17.sx s18
      obtain ⟨S2, f2, w14, us, ws, rfl, s18, hR18, hf18, hS18, hS2r, hC18, hwl, hwn, hwe⟩ := p
      have hla18 := hla17.sx s18
      have hea18 := hea17.sx s18
      have hfb18 := hfb.sx s18
      have hlp18 := s18 _ _ hlpr hlp17
      have sx18 := sx17.trans s18
      clear s18 hS17 hC17 hf17 hla17 hea17 hfb hlp17 sx17 hR17
      fail "ww"
      refine r_cut (fun σ' H' => ∃ (z : Int) (e2 : Addr), σ' = [some (.ref r), some (.int z), some (.ref S2), some (.ref f2), some (.int (M : Int)), y5, y6, y7, some (.ref be), some (.int sp), some (.ref la), some (.ref e2), some (.ref fb), some (.ref lp), w14, none, none, none, none, none, none, none, none] ∧ Sx r H18 H' ∧ Pol H' r (m + 920) ∧ Hl r H' e2 (szO z) ∧ (z = (n : Int) ∨ z < 1)) ?_ (fun σ' H19 p => ?_)
      · fail "ww"
        refine ⟨r, 4, _, rfl, hR18, by omega, by decide, by decide, fun H11 d e1 e2 s11 hR11 => ?_⟩
        fail "ww"
        refine r_dec (fun hz => ?_) (fun hz => ?_)
        · fail "ww"
          refine ⟨r, 10 ^ 29, _, rfl, hR11, by omega, by decide, by decide, fun H12 far f0 f1 s12 hR12 => ?_⟩
          fail "ww"
          refine new_ fun l1 H13 n13 s13 h13 => ?_
          fail "ww"
          have hl1 := hR12.ne n13
          refine ⟨r, 3, _, rfl, hR12.same s13, by omega, by decide, by decide, fun H14 g g0 g1 s14 hR14 => ?_⟩
          obtain ⟨x, hat, hx⟩ : ∃ x : Int, atI [V.int 0, V.int 1, V.int far] g = some (.int x) ∧ 0 ≤ x := by
            have : g = 0 ∨ g = 1 ∨ g = 2 := by omega
            rcases this with e | e | e <;> subst e
            · exact ⟨0, rfl, by decide⟩
            · exact ⟨1, rfl, by decide⟩
            · exact ⟨far, rfl, f0⟩
          refine r_ixL (sq (s14 _ _ hl1 h13)) hat ?_
          fail "ww"
          refine new_ fun q1 H15 n15 s15 h15 => ?_
          fail "ww"
          refine new_ fun q2 H16 n16 s16 h16 => ?_
          fail "ww"
          refine ⟨((((s11.trans s12).same s13).trans s14).same s15).same s16, ((hR14.same s15).same s16).le (by omega), ?_, .inr (by omega)⟩
          rw [show szO (0 - x) = some (("size" : Str), 0 - x) by unfold szO; rw [if_pos (by omega)]]
          exact .one h16 (s16 _ _ h15) ((hR14.same s15).ne n16) (hR14.ne n15)
        · fail "ww"
          refine ⟨s11, hR11.le (by omega), ?_, .inl rfl⟩
          rw [show szO (n : Int) = none by unfold szO; rw [if_neg (by omega)]]
          exact hea18.sx s11
      obtain ⟨z, e2, rfl, s19, hR19, he19, hz⟩ := p
      have hla19 := hla18.sx s19
      have hf19 := hf18.sx s19
      have hfb19 := hfb18.sx s19
      have hlp19 := s19 _ _ hlpr hlp18
      have hS19 := s19 _ _ hS2r hS18
      have hC19 := hC18.keep hR18.is.choose_spec s19
      have sx19 := sx18.trans s19
      clear s19 hla18 hea18 hf18 hfb18 hlp18 hS18 hC18 sx18 hR18
      obtain ⟨le, hle, hleo, hlel, _, _⟩ := he19
      obtain ⟨lf, hlf, hlfo, hlfl, _, _⟩ := hf19
      obtain ⟨ll, hll, hllo, hlll, _, _⟩ := hla19
      obtain ⟨lw, hlw, hlwo, hlwl, _, _⟩ := hfb19
      fail "ww"
      refine n_cat hle hlf (by rw [List.length_map, List.length_map]; exact size_le (by omega)) (new_ fun k1 H20 n20 s20 h20 => ?_)
      rw [← List.map_append] at h20
      fail "ww"
      refine new_ fun q1 H21 n21 s21 h21 => ?_
      fail "ww"
      refine new_ fun q2 H22 n22 s22 h22 => ?_
      refine n_cat (s22 _ _ (s21 _ _ h20)) h22 (by rw [List.length_map, List.length_append]; exact size_le (by simp only [List.length_singleton]; omega)) (new_ fun k2 H23 n23 s23 h23 => ?_)
      fail "ww"
      have u23 := s20.trans (s21.trans (s22.trans s23))
      obtain ⟨x0, hat0, hx0⟩ := ((hleo.app hlfo).same u23).first (s23 _ _ (s22 _ _ h21))
      rw [told_or hn1 hz] at hx0
      refine r_ixL (sq h23) hat0 ?_
      clear h20 h21 h22 h23 n20 n21 n22 n23 s20 s21 s22 s23 hat0
      fail "ww"
      refine new_ fun k3 H24 n24 s24 h24 => ?_
      fail "ww"
      refine n_rep (n := 3) h24 (by decide) (show 1 * 3 ≤ 16777216 by decide) (new_ fun D1 H25 n25 s25 h25 => ?_)
      have u25 := u23.trans (s24.trans s25)
      have hx0' := s25 _ _ (s24 _ _ hx0)
      clear h24 n24 s24 u23 hx0 n25 s25
      fail "ww"
      refine n_cat (u25 _ _ hle) (u25 _ _ hlf) (by rw [List.length_map, List.length_map]; exact size_le (by omega)) (new_ fun k4 H26 n26 s26 h26 => ?_)
      rw [← List.map_append] at h26
      fail "ww"
      refine n_cat h26 (s26 _ _ (u25 _ _ hll)) (by rw [List.length_map, List.length_map, List.length_append]; exact size_le (by omega)) (new_ fun k5 H27 n27 s27 h27 => ?_)
      rw [← List.map_append] at h27
      fail "ww"
      refine new_ fun q3 H28 n28 s28 h28 => ?_
      fail "ww"
      refine new_ fun q4 H29 n29 s29 h29 => ?_
      refine n_cat (s29 _ _ (s28 _ _ h27)) h29 (by rw [List.length_map, List.length_append, List.length_append]; exact size_le (by simp only [List.length_singleton]; omega)) (new_ fun k6 H30 n30 s30 h30 => ?_)
      fail "ww"
      have v30 := s26.trans (s27.trans (s28.trans (s29.trans s30)))
      have u30 := u25.trans v30
      obtain ⟨x3, hat3, hx3⟩ := (((hleo.app hlfo).app hllo).same u30).first (s30 _ _ (s29 _ _ h28))
      rw [told_or hn1 hz] at hx3
      refine r_ixL (sq h30) hat3 ?_
      have hD1 := v30 _ _ h25
      have hx0'' := v30 _ _ hx0'
      clear h25 h26 h27 h28 h29 h30 n26 n27 n28 n29 n30 s26 s27 s28 s29 s30 v30 hat3 u25 hx0'
      fail "ww"
      refine new_ fun k7 H31 n31 s31 h31 => ?_
      refine n_cat (s31 _ _ hD1) h31 (size_le (by simp)) (new_ fun D2 H32 n32 s32 h32 => ?_)
      have u31 := u30.trans s31
      have u32 := u31.trans s32
      have hx0 := s32 _ _ (s31 _ _ hx0'')
      have hx3' := s32 _ _ (s31 _ _ hx3)
      have hx0D : x0 ≠ D2 := ne_of_none (s31 _ _ hx0'') n32
      have hx3D : x3 ≠ D2 := ne_of_none (s31 _ _ hx3) n32
      have nD19 : H19 D2 = none := u31.free n32
      clear hD1 h31 n31 n32 s31 u30 u31 s32 hx0'' hx3
      fail "ww"
      refine n_cat (u32 _ _ hlw) (u32 _ _ hlf) (by rw [List.length_map, List.length_map]; exact size_le (by omega)) (new_ fun k8 H33 n33 s33 h33 => ?_)
      rw [← List.map_append] at h33
      fail "ww"
      refine new_ fun q5 H34 n34 s34 h34 => ?_
      fail "ww"
      refine new_ fun q6 H35 n35 s35 h35 => ?_
      refine n_cat (s35 _ _ (s34 _ _ h33)) h35 (by rw [List.length_map, List.length_append]; exact size_le (by simp only [List.length_singleton]; omega)) (new_ fun k9 H36 n36 s36 h36 => ?_)
      fail "ww"
      have v36 := s33.trans (s34.trans (s35.trans s36))
      have u36 := u32.trans v36
      obtain ⟨x4, hat4, hx4⟩ := ((hlwo.app hlfo).same u36).first (s36 _ _ (s35 _ _ h34))
      refine r_ixL (sq h36) hat4 ?_
      have h32' : H36 D2 = some (.lst [.ref x0, .ref x0, .ref x0, .ref x3]) := v36 _ _ h32
      have hx4D : x4 ≠ D2 := ne_of hx4 h32' (by cases (orO (rowO ns) (dC' n ws)) with
        | none => intro z; cases z
        | some e => obtain ⟨nm, i⟩ := e; intro z; cases z)
      rw [dTl_4 (z := z) (sp := sp) hnl] at hx4
      rw [hM, dTl_3 (ns := ns) hz hwe] at hx3'
      fail "ww"
      refine r_append h32' (size_lt (by simp)) ?_
      have uA : Same H19 (upd H36 D2 (.lst ([.ref x0, .ref x0, .ref x0, .ref x3] ++ [.ref x4]))) := same_old u36 nD19
      have hDA : (upd H36 D2 (.lst ([.ref x0, .ref x0, .ref x0, .ref x3] ++ [.ref x4]))) D2 = some (.lst (([x0, x0, x0, x3, x4] : List Addr).map V.ref)) := upd_same
      have hx0A := upd_to (o := .lst ([.ref x0, .ref x0, .ref x0, .ref x3] ++ [.ref x4])) hx0D (v36 _ _ hx0)
      have hx3A := upd_to (o := .lst ([.ref x0, .ref x0, .ref x0, .ref x3] ++ [.ref x4])) hx3D (v36 _ _ hx3')
      have hx4A := upd_to (o := .lst ([.ref x0, .ref x0, .ref x0, .ref x3] ++ [.ref x4])) hx4D hx4
      generalize upd H36 D2 (.lst ([.ref x0, .ref x0, .ref x0, .ref x3] ++ [.ref x4])) = HA at uA hDA hx0A hx3A hx4A ⊢
      clear h32' h32 v36 u36 u32 h33 h34 h35 h36 n33 n34 n35 n36 s33 s34 s35 s36 hat4 hx4 hx3' hx0 hx0D hx3D hx4D nD19 hleo hlfo hllo hlwo hle hlf hll hlw hlel hlfl hlll hlwl
      have hSA := uA _ _ hS19
      have hCA := hC19.same uA
      have hlA := uA _ _ hlp19
      have sxA := sx19.same uA
      have hRA := hR19.same uA
      clear uA hS19 hC19 hlp19 sx19 hR19
      have shown : ∀ (p : Addr) (Hx : Hp), Hx p = some (.lst [.ref S2, .ref lp]) → Hx S2 = some (.lst (us.map V.ref)) → Cw Hx us ws → Hx lp = some (.lst (ns.map V.int)) → ∀ Q' : VK, Q' (.str (PyData.list [.list (ws.map dP), dI ns]).shown) Hx → rReprD K [.ref p] Hx Q' := fun p Hx h1 h2 h3 h4 Q' hq => by
        refine r_repr (d := .list [.list (ws.map dP), dI ns]) (.lst (sq h1) (.cons (dp_cw (sq h2) h3) (.cons (dp_lst (sq h4)) .nil))) ?_ (b := 2 * ((ws.length * 73 + 2 + ns.length * 34 + 2) + 2) + 2) ?_ (by omega) hq
        · have e1 := depth_cw ws
          show max (PyData.depthAll (ws.map dP) + 1) (max (PyData.depthAll (ns.map PyData.int) + 1) 0) + 1 ≤ 60
          rw [depth_ints]; omega
        · refine Sh.list (ds := [.list (ws.map dP), dI ns]) fun d hd => ?_
          rcases List.mem_cons.mp hd with e | e
          · rw [e]; exact (sh_cw hwn).mono (by omega)
          · rw [List.mem_singleton.mp e]; exact (sh_nts hnt).mono (by omega)
      fail "ww"
      refine new_ fun kl H37 n37 s37 h37 => ?_
      fail "ww"
      refine shown kl H37 h37 (s37 _ _ hSA) (hCA.same s37) (s37 _ _ hlA) _ ?_
      have hS := s37 _ _ hSA
      have hC := hCA.same s37
      have hL := s37 _ _ hlA
      have sx := sxA.same s37
      have hR := hRA.same s37
      have hD2 := s37 _ _ hDA
      have hx0 := s37 _ _ hx0A
      have hx3 := s37 _ _ hx3A
      have hx4 := s37 _ _ hx4A
      clear h37 n37 s37 hSA hCA hlA sxA hRA hDA hx0A hx3A hx4A
      generalize (PyData.list [.list (ws.map dP), dI ns]).shown = saved at *
      fail "ww"
      refine ⟨by decide, by decide, fun D nD => ?_⟩
      refine lc_it walk_range (fun i Hh => ∃ ds : List Addr, ds.length = i ∧ Hh D = some (.lst (ds.map V.ref)) ∧ Same H37 Hh ∧ ∀ (j : Nat) (t : Addr), ds[j]? = some t → t ≠ D ∧ Hh t = some (.lst (lsT (dTl j z ws sp ns)))) ?_ (fun _ _ _ _ => trivial) (fun i y Hh0 Hh hi p zz => ?_) (fun Hh p => ?_)
      · exact ⟨[], rfl, upd_same, same_new nD, fun j t e => by simp at e⟩
      · obtain ⟨rfl, rfl⟩ := zz
        obtain ⟨ds, hdl, hD, sD, hds⟩ := p
        have hi5 : i < 5 := hi
        fail "ww"
        refine ⟨rfl, ?_⟩
        fail "ww"
        simp only [Int.zero_add]
        refine ⟨i, z, sp, S2, lp, us, ws, ns, rfl, by omega, by omega, sq (sD _ _ hS), hC.same sD, sD _ _ hL, fun _ => by omega, fun G' t sG nt ht => ?_⟩
        have hDG := sG _ _ hD
        have htD : t ≠ D := (ne_of_none hD nt).symm
        refine ⟨_, hDG, by rw [List.length_map]; exact size_lt (by omega), ?_⟩
        rw [show ds.map V.ref ++ [V.ref t] = (ds ++ [t]).map V.ref by rw [List.map_append]; rfl]
        refine ⟨ds ++ [t], by rw [List.length_append, hdl]; rfl, upd_same, same_old (sD.trans sG) nD, fun j u e => ?_⟩
        by_cases q : j < ds.length
        · rw [List.getElem?_append_left q] at e
          obtain ⟨h1, h2⟩ := hds j u e
          exact ⟨h1, upd_to h1 (sG _ _ h2)⟩
        · rw [List.getElem?_append_right (by omega)] at e
          have ej : j - ds.length = 0 := by
            cases zz : j - ds.length with
            | zero => rfl
            | succ k => rw [zz] at e; simp at e
          rw [ej] at e
          cases e
          obtain rfl : j = i := by omega
          exact ⟨htD, upd_to htD ht⟩
      · obtain ⟨ds, hdl, hD, sD, hds⟩ := p
        rw [show Int.toNat 5 = 5 from rfl] at hdl
        fail "ww"
        have okS : ∀ d ∈ (List.range 5).map (fun j => dLs (dTl j z ws sp ns)), d.canLay0 = true ∧ d.depth ≤ 1 := fun d hd => by
          obtain ⟨j, _, rfl⟩ := List.mem_map.mp hd
          exact dLs_lay dTl_ok
        have dpD : Dp K Hh (.ref D) (.list ((List.range 5).map (fun j => dLs (dTl j z ws sp ns)))) := .lst (sq hD) (dpAll_of (by rw [List.length_map, List.length_map, List.length_range, hdl]) fun j v d e1 e2 => by
          rw [List.getElem?_map] at e1 e2
          cases g : ds[j]? with
          | none => rw [g] at e1; cases e1
          | some t =>
            rw [g] at e1; cases e1
            cases g2 : (List.range 5)[j]? with
            | none => rw [g2] at e2; cases e2
            | some jj =>
              rw [g2] at e2; cases e2
              obtain ⟨_, ee⟩ := List.getElem?_eq_some_iff.mp g2
              rw [List.getElem_range] at ee
              subst ee
              exact dLs_dp (hds _ t g).2)
        have dpE : Dp K Hh (.ref D2) (.list ((List.range 5).map (fun j => dLs (dTl j z ws sp ns)))) := by
          refine .lst (sq (sD _ _ hD2)) ?_
          show DpAll K Hh [.ref x0, .ref x0, .ref x0, .ref x3, .ref x4] [dLs (dTl 0 z ws sp ns), dLs (dTl 1 z ws sp ns), dLs (dTl 2 z ws sp ns), dLs (dTl 3 z ws sp ns), dLs (dTl 4 z ws sp ns)]
          rw [← dTl_0 (show 0 < 3 by decide), ← dTl_0 (show 1 < 3 by decide), ← dTl_0 (show 2 < 3 by decide)]
          exact .cons (dLs_dp (sD _ _ hx0)) (.cons (dLs_dp (sD _ _ hx0)) (.cons (dLs_dp (sD _ _ hx0)) (.cons (dLs_dp (sD _ _ hx3)) (.cons (dLs_dp (sD _ _ hx4)) .nil))))
        refine ⟨_, _, dpD, dpE, shaped_all okS, shaped_all okS, ?_⟩
        rw [SeqAt.eqv_refl _ (SeqAt.canLay_of_shaped (shaped_all okS))]
        fail "ww"
        have hS' := sD _ _ hS
        have hC' := hC.same sD
        have hL' := sD _ _ hL
        have sx' := sx.same sD
        have hR' := hR.same sD
        clear dpD dpE okS hds hD sD hS hC hL sx hR hD2 hx0 hx3 hx4 hdl nD
        refine ⟨by decide, by decide, fun E nE => ?_⟩
        have hEr := hR'.ne nE
        refine lc_it walk_range (fun i Hx => ∃ xs : List Int, xs.length = i ∧ Hx E = some (.lst (xs.map V.int)) ∧ Sx r Hh Hx ∧ Pol Hx r (m + 930 + 4 * i) ∧ ∀ x ∈ xs, x ≤ 2 ^ 30) ⟨[], rfl, upd_same, Sx.refl.old nE, (hR'.other hEr).le (by omega), fun x hx => by cases hx⟩ (fun _ _ _ _ => trivial) (fun i y Hx0 Hx hi p zz => ?_) (fun Hx p => ?_)
        · obtain ⟨rfl, rfl⟩ := zz
          obtain ⟨xs, hxl, hE, sxE, hRx, hxb⟩ := p
          have hi3 : i < 3 := hi
          fail "ww"
          refine ⟨rfl, ?_⟩
          fail "ww"
          refine ⟨r, 9, _, rfl, hRx, by omega, by decide, by decide, fun G1 d9 e0 e1 t1 hR1 => ?_⟩
          fail "ww"
          refine ⟨r, 10 ^ 29, _, rfl, hR1, by omega, by decide, by decide, fun G2 far f0 f1 t2 hR2 => ?_⟩
          fail "ww"
          refine new_ fun q1 G3 n3 t3 g3 => ?_
          have hq1 := hR2.ne n3
          fail "ww"
          refine ⟨r, 4, _, rfl, hR2.same t3, by omega, by decide, by decide, fun G4 d4 e2 e3 t4 hR4 => ?_⟩
          obtain ⟨x, hat, hx⟩ : ∃ x : Int, atI [V.int d9, V.int 0, V.int (-1), V.int (0 - far)] d4 = some (.int x) ∧ x ≤ 2 ^ 30 := by
            have : d4 = 0 ∨ d4 = 1 ∨ d4 = 2 ∨ d4 = 3 := by omega
            rcases this with e | e | e | e <;> subst e
            · exact ⟨d9, rfl, by omega⟩
            · exact ⟨0, rfl, by decide⟩
            · exact ⟨-1, rfl, by decide⟩
            · exact ⟨0 - far, rfl, by omega⟩
          refine r_ixL (sq (t4 _ _ hq1 g3)) hat ?_
          have tt := ((t1.trans t2).same t3).trans t4
          fail "ww"
          refine ⟨_, tt _ _ hEr hE, by rw [List.length_map]; exact size_lt (by omega), xs ++ [x], by rw [List.length_append, hxl]; rfl, by rw [upd_same, List.map_append]; rfl, (sxE.trans tt).old nE, (hR4.other hEr).le (by omega), fun y hy => ?_⟩
          rcases List.mem_append.mp hy with h | h
          · exact hxb y h
          · rw [List.mem_singleton.mp h]; exact hx
        · obtain ⟨xs, hxl, hE, sxE, hRx, hxb⟩ := p
          rw [show Int.toNat 3 = 3 from rfl] at hxl hRx
          obtain ⟨a, b, c, rfl⟩ : ∃ a b c, xs = [a, b, c] := by
            match xs, hxl with
            | [x, y, z], _ => exact ⟨x, y, z, rfl⟩
          have ha := hxb a List.mem_cons_self
          have hb := hxb b (List.mem_cons_of_mem _ List.mem_cons_self)
          have hc := hxb c (List.mem_cons_of_mem _ (List.mem_cons_of_mem _ List.mem_cons_self))
          have hSx := sxE _ _ hS2r hS'
          have hCx := hC'.keep hR'.is.choose_spec sxE
          have hLx := sxE _ _ hlpr hL'
          have sxx := sx'.trans sxE
          clear sxE hS' hC' hL' sx' hR' hxb
          fail "ww"
          refine new_ fun l3 G1 n1 t1 g1 => ?_
          fail "ww"
          intro D5 n5
          refine lc_same (walk_zip (n := 3) (xs := ([a, b, c] : List Int).map V.int) (ys := ([0, 1, 0] : List Int).map V.int) rfl) (fun j => (wrT [a, b, c] j).map V.int) n5 (Same.refl _) rfl (fun Hx sx => ⟨sx.seq (sq (t1 _ _ hE)), sx.seq (sq g1)⟩) (fun j x HB HC hj pA y => ?_) (fun H5 s5 hD5 => ?_)
          · obtain ⟨T1, x1, y1, rfl, nT1, rfl, e1, e2⟩ := y
            have hj3 : j < 3 := hj
            have hjx : j < ([a, b, c] : List Int).length := hj
            have hjy : j < ([0, 1, 0] : List Int).length := hj
            replace e1 : (([a, b, c] : List Int).map V.int)[j]? = some x1 := e1
            replace e2 : (([0, 1, 0] : List Int).map V.int)[j]? = some y1 := e2
            rw [List.getElem?_map, List.getElem?_eq_getElem hjx] at e1
            rw [List.getElem?_map, List.getElem?_eq_getElem hjy] at e2
            cases e1
            cases e2
            have w1 := wrT_succ [a, b, c] j
            rw [List.getD_eq_getElem?_getD, List.getD_eq_getElem?_getD, List.getElem?_eq_getElem hjx, List.getElem?_eq_getElem hjy] at w1
            simp only [Option.getD_some] at w1
            have wl := wrT_len [a, b, c] j
            fail "ww"
            refine ⟨rfl, ?_⟩
            fail "ww"
            refine r_dec (fun g => ?_) (fun g => ?_)
            · fail "ww"
              exact lc_add pA (same_new nT1) n5 (by rw [w1, if_pos g, List.map_append]; rfl) (by rw [List.length_map]; exact size_lt (by omega))
            · exact lc_skip pA (same_new nT1) (by rw [w1, if_neg g, List.append_nil])
          · have t5 := t1.trans s5
            have hE5 := t5 _ _ hE
            have hS5 := t5 _ _ hSx
            have hC5 := hCx.same t5
            have hL5 := t5 _ _ hLx
            have sx5 := sxx.same t5
            have hR5 := hRx.same t5
            clear hE hSx hCx hLx sxx hRx t1 s5 t5 n1 g1 n5
            fail "ww"
            refine new_ fun e0 G6 n6 t6 g6 => ?_
            refine r_neL (sq (t6 _ _ hD5)) (ms := []) (sq g6) ?_
            rcases wrT_3 a b c with ⟨i, rest, e1, e2⟩ | ⟨e1, e2⟩
            · rw [e2] at hD5
              rw [e2, decide_eq_false (by intro z; cases z)]
              fail "ww"
              refine r_ixL (sq (t6 _ _ hD5)) (at_of (j := 0) rfl rfl) ?_
              fail "ww"
              refine new_ fun q G7 n7 t7 g7' => ?_
              have g7 : G7 q = some (.lst (lsT (dTu a b c))) := by rw [e1]; exact g7'
              have okT : SeqAt.shaped (dLs (dTu a b c)) = true := shaped_one dTu_ok
              have t67 := t6.trans t7
              fail "ww"
              refine r_ixL (sq (t67 _ _ hE5)) (show atI _ (0 : Int) = some (V.int a) from rfl) ?_
              fail "ww"
              try refine r_ixL (sq (t67 _ _ hE5)) (show atI _ (1 : Int) = some (V.int b) from rfl) ?_
              fail "ww"
              try refine r_ixL (sq (t67 _ _ hE5)) (show atI _ (2 : Int) = some (V.int c) from rfl) ?_
              fail "ww"
              refine ⟨a, b, c, rfl, ha, hb, hc, fun G8 p8 t8 n8 g8 => ?_⟩
              fail "ww"
              refine ⟨_, _, dLs_dp g8, dLs_dp (t8 _ _ g7), okT, okT, ?_⟩
              rw [SeqAt.eqv_refl _ (SeqAt.canLay_of_shaped okT)]
              fail "ww"
              refine new_ fun kl G9 n9 t9 g9 => ?_
              have t59 := t67.trans (t8.trans t9)
              fail "ww"
              refine shown kl G9 g9 (t59 _ _ hS5) (hC5.same t59) (t59 _ _ hL5) _ ?_
              fail "ww"
              rw [decide_eq_true rfl]
              exact k _ (sx5.same t59) ((hR5.same t59).le (by omega))
            · rw [e2, decide_eq_true rfl]
              fail "ww"
              refine new_ fun q G7 n7 t7 g7' => ?_
              have g7 : G7 q = some (.lst (lsT (dTu a b c))) := by rw [e1]; exact g7'
              have okT : SeqAt.shaped (dLs (dTu a b c)) = true := shaped_one dTu_ok
              have t67 := t6.trans t7
              fail "ww"
              refine r_ixL (sq (t67 _ _ hE5)) (show atI _ (0 : Int) = some (V.int a) from rfl) ?_
              fail "ww"
              try refine r_ixL (sq (t67 _ _ hE5)) (show atI _ (1 : Int) = some (V.int b) from rfl) ?_
              fail "ww"
              try refine r_ixL (sq (t67 _ _ hE5)) (show atI _ (2 : Int) = some (V.int c) from rfl) ?_
              fail "ww"
              refine ⟨a, b, c, rfl, ha, hb, hc, fun G8 p8 t8 n8 g8 => ?_⟩
              fail "ww"
              refine ⟨_, _, dLs_dp g8, dLs_dp (t8 _ _ g7), okT, okT, ?_⟩
              rw [SeqAt.eqv_refl _ (SeqAt.canLay_of_shaped okT)]
              fail "ww"
              refine new_ fun kl G9 n9 t9 g9 => ?_
              have t59 := t67.trans (t8.trans t9)
              fail "ww"
              refine shown kl G9 g9 (t59 _ _ hS5) (hC5.same t59) (t59 _ _ hL5) _ ?_
              fail "ww"
              rw [decide_eq_true rfl]
              exact k _ (sx5.same t59) ((hR5.same t59).le (by omega))
def sp_law (K : PySem.W.Frag) : Sp := fun vs H Q _ => ∃ (a : Addr) (ns : List Int), vs = [.ref a] ∧ SqL K H a (ns.map V.int) ∧ ns.length ≤ 63 ∧ ∀ H', Q (.bl true) H'
theorem ok_law (T : Txt K mg) : FnG P w K mg base CX0 9 T.law_a T.law_d ["script"] (sp_law K) := by
  refine okG T.law_F sc_law (fun vs H Q E h => ?_) (fun cdv A ou t H vs Q E hG hr h => ?_)
  · obtain ⟨_, _, rfl, _⟩ := h; rfl
  have nd := sc_law.nd
  obtain ⟨a, ns, rfl, hS, hlen, q'⟩ := h
  refine ⟨_, (pss_cons (ps_for PassesOwn.never rfl (pi_range1 (by rfl) T.m_range (pa_cons (pe_callB (call_max2 rfl) (by rfl) T.m_max (by decide +kernel) (pa_cons pe_int (pa_cons (pe_callB (call_min2 rfl) (by rfl) T.m_min (by decide +kernel) (pa_cons pe_int (pa_cons (pe_callB (lenK K) (by rfl) T.m_len PySem.boot_len (pa_cons (pv 0) pa_nil)) pa_nil))) pa_nil))) pa_nil)) (gset 1 nd)
        (pss_cons (sset 2 nd (pe_callG (ok_law_pool T) hG (hr.mono (by decide)) (by rfl) T.law_pool_g T.law_pool_F.kp T.law_pool_b .nil pass0 (pa_cons (pv 0) (pa_cons (pv 1) pa_nil))))
      (pss_one (ps_for PassesOwn.never rfl (pi_range1 (by rfl) T.m_range (pa_cons pe_int pa_nil)) (gset 3 nd)
        (pss_one (ps_if (pt_not (pt_val (pe_callG (ok_law_right T) hG (hr.mono (by decide)) (by rfl) T.law_right_g T.law_right_F.kp T.law_right_b .nil pass0 (pa_cons (pv 2) pa_nil))))
        (pss_one (ps_ret pe_bl))
        pss_nil))))))
      (pss_cons (sset 4 nd (pe_lst (pa_cons (pe_callG (ok_law_told T) hG (hr.mono (by decide)) (by rfl) T.law_told_g T.law_told_F.kp T.law_told_b .nil pass0 (pa_cons pe_int (pa_cons pe_int (pa_cons (pe_lst pa_nil) (pa_cons (pe_un un_neg pe_int) (pa_cons (pe_lst pa_nil) pa_nil)))))) (pa_cons (pe_callG (ok_law_told T) hG (hr.mono (by decide)) (by rfl) T.law_told_g T.law_told_F.kp T.law_told_b .nil pass0 (pa_cons pe_int (pa_cons pe_int (pa_cons (pe_lst (pa_cons (pe_tup (pa_cons pe_int (pa_cons pe_int pa_nil))) pa_nil)) (pa_cons (pe_un un_neg pe_int) (pa_cons (pe_lst pa_nil) pa_nil)))))) (pa_cons (pe_callG (ok_law_told T) hG (hr.mono (by decide)) (by rfl) T.law_told_g T.law_told_F.kp T.law_told_b .nil pass0 (pa_cons pe_int (pa_cons pe_int (pa_cons (pe_lst pa_nil) (pa_cons (pe_un un_neg pe_int) (pa_cons (pe_lst pa_nil) pa_nil)))))) pa_nil)))))
      (pss_cons (ps_if (pt_cmpR (neDK K hr.units) (pv 4) (pe_lst (pa_cons (pe_lst (pa_cons pe_str (pa_cons pe_int pa_nil))) (pa_cons (pe_lst (pa_cons pe_str (pa_cons pe_int pa_nil))) (pa_cons (pe_lst (pa_cons pe_str (pa_cons (pe_un un_neg pe_int) pa_nil))) pa_nil)))) (nomark _))
        (pss_one (ps_ret pe_bl))
        pss_nil)
      (pss_one (ps_ret (pe_and (pe_cmpR (eqDK K hr.units) (pe_callG (ok_law_turns_told T) hG (hr.mono (by decide)) (by rfl) T.law_turns_told_g T.law_turns_told_F.kp T.law_turns_told_b .nil pass0 (pa_cons pe_int (pa_cons pe_int (pa_cons (pe_un un_neg pe_int) pa_nil)))) (pe_lst (pa_cons pe_str (pa_cons pe_int pa_nil))) (nomark _)) (pe_one (pe_cmpR (eqDK K hr.units) (pe_callG (ok_law_told T) hG (hr.mono (by decide)) (by rfl) T.law_told_g T.law_told_F.kp T.law_told_b .nil pass0 (pa_cons pe_int (pa_cons pe_int (pa_cons (pe_lst (pa_cons (pe_tup (pa_cons pe_int (pa_cons pe_int pa_nil))) pa_nil)) (pa_cons pe_int (pa_cons (pe_lst (pa_cons pe_int (pa_cons pe_int pa_nil))) pa_nil)))))) (pe_lst (pa_cons pe_str (pa_cons pe_int pa_nil))) (nomark _))))))))), ?_⟩
  fail "ww"
  rw [List.length_map]
  obtain ⟨N, hN, hN2⟩ : ∃ N : Nat, (if (if ((ns.length : Nat) : Int) < 8 then ((ns.length : Nat) : Int) else 8) > 1 then (if ((ns.length : Nat) : Int) < 8 then ((ns.length : Nat) : Int) else 8) else 1) = (N : Int) ∧ N ≤ 8 := by
    refine ⟨(if (if ((ns.length : Nat) : Int) < 8 then ((ns.length : Nat) : Int) else 8) > 1 then (if ((ns.length : Nat) : Int) < 8 then ((ns.length : Nat) : Int) else 8) else 1).toNat, ?_, ?_⟩ <;> split <;> split <;> omega
  rw [hN]
  refine ⟨by omega, by omega, ?_⟩
  refine forF walk_range (fun i σ' H' => ∃ (y1 y2 y3 : Option V) (_u : Unit), σ' = [some (.ref a), y1, y2, y3, none] ∧ Same H H')
    ⟨none, none, none, (), rfl, Same.refl _⟩ (fun _ _ _ _ _ => trivial) (fun i σ' H' hi p => ?_) (fun σ' H' p => ?_)
  · obtain ⟨y1, y2, y3, _, rfl, s⟩ := p
    fail "ww"
    have hi8 : i < 8 := by omega
    rw [show (0 : Int) + (i : Int) = ((i : Nat) : Int) by omega]
    refine ⟨a, ns, i, rfl, by fail "kp", by omega, fun H1 r s1 nr hR => ?_⟩
    have nr0 : H r = none := by fail "kpz"
    fail "ww"
    refine ⟨by omega, by omega, ?_⟩
    have s01 : Same H H1 := by fail "kp"
    refine forF walk_range (fun j σ' H' => ∃ (y3 : Option V) (_u : Unit), σ' = [some (.ref a), some (.int (i : Int)), some (.ref r), y3, none] ∧ Pol H' r (2000 * j) ∧ Sx r H H')
      ⟨y3, (), rfl, hR, sx_of s01⟩ (fun _ _ _ _ _ => trivial) (fun j σ' H' hj p => ?_) (fun σ' H' p => ?_)
    · obtain ⟨y3, _, rfl, hRj, sj⟩ := p
      have hj6 : j < 6 := hj
      fail "ww"
      refine ⟨r, _, rfl, hRj, by omega, fun H3 s3 hR3 => ?_⟩
      fail "ww"
      exact ⟨_, (), rfl, hR3.le (by omega), sj.trans s3⟩
    · obtain ⟨y3, _, rfl, hRj, sj⟩ := p
      fail "ww"
      refine ⟨_, _, _, (), rfl, fun b o e => ?_⟩
      exact sj b o (ne_of_none e nr0) e
  · obtain ⟨y1, y2, y3, _, rfl, s⟩ := p
    clear s hS
    fail "ww"
    have nil_ : ∀ (Hx : Hp), Cw Hx [] [] := fun _ => ⟨rfl, fun i t e => by simp at e⟩
    refine new_ fun a1 H1 n1 s1 g1 => ?_
    fail "ww"
    refine new_ fun a2 H2 n2 s2 g2 => ?_
    fail "ww"
    refine ⟨3, 0, -1, a1, a2, [], [], [], rfl, by decide, by decide, sq (s2 _ _ g1), nil_ _, g2, (fun z => by cases z), fun H3 q1 s3 m3 h3 => ?_⟩
    have e1 : dTl 3 0 [] (-1) [] = some (("size" : Str), (0 : Int)) := by rfl
    clear g1 g2 n1 n2 s1 s2
    fail "ww"
    refine new_ fun t0 H4 n4 s4 g4 => ?_
    fail "ww"
    refine new_ fun a3 H5 n5 s5 g5 => ?_
    fail "ww"
    refine new_ fun a4 H6 n6 s6 g6 => ?_
    fail "ww"
    refine ⟨3, 2, -1, a3, a4, [t0], [(1, 3)], [], rfl, by decide, by decide, sq (s6 _ _ g5), .one (c := (1, 3)) (s6 _ _ (s5 _ _ g4)), g6, (fun z => by cases z), fun H7 q2 s7 m7 h7 => ?_⟩
    have e2 : dTl 3 2 [(1, 3)] (-1) [] = some (("command" : Str), (0 : Int)) := by rfl
    have h3' := (s4.trans (s5.trans (s6.trans s7))) _ _ h3
    clear g4 g5 g6 n4 n5 n6 s4 s5 s6 h3
    fail "ww"
    refine new_ fun a5 H8 n8 s8 g8 => ?_
    fail "ww"
    refine new_ fun a6 H9 n9 s9 g9 => ?_
    fail "ww"
    refine ⟨3, 2, -1, a5, a6, [], [], [], rfl, by decide, by decide, sq (s9 _ _ g8), nil_ _, g9, (fun z => by cases z), fun H10 q3 s10 m10 h10 => ?_⟩
    have e3 : dTl 3 2 [] (-1) [] = some (("number" : Str), (-1 : Int)) := by rfl
    have h3'' := (s8.trans (s9.trans s10)) _ _ h3'
    have h7' := (s8.trans (s9.trans s10)) _ _ h7
    clear g8 g9 n8 n9 s8 s9 s10 h3' h7
    fail "ww"
    refine new_ fun D H11 n11 s11 g11 => ?_
    fail "ww"
    refine new_ fun b1 H12 n12 s12 g12 => ?_
    fail "ww"
    refine new_ fun b2 H13 n13 s13 g13 => ?_
    fail "ww"
    refine new_ fun b3 H14 n14 s14 g14 => ?_
    fail "ww"
    refine new_ fun E H15 n15 s15 g15 => ?_
    have u := s11.trans (s12.trans (s13.trans (s14.trans s15)))
    have okS : ∀ d ∈ [dLs (dTl 3 0 [] (-1) []), dLs (dTl 3 2 [(1, 3)] (-1) []), dLs (dTl 3 2 [] (-1) [])], d.canLay0 = true ∧ d.depth ≤ 1 := fun d hd => by
      rcases List.mem_cons.mp hd with e | hd
      · rw [e]; exact dLs_lay dTl_ok
      rcases List.mem_cons.mp hd with e | hd
      · rw [e]; exact dLs_lay dTl_ok
      · rw [List.mem_singleton.mp hd]; exact dLs_lay dTl_ok
    refine ⟨.list [dLs (dTl 3 0 [] (-1) []), dLs (dTl 3 2 [(1, 3)] (-1) []), dLs (dTl 3 2 [] (-1) [])], .list [dLs (dTl 3 0 [] (-1) []), dLs (dTl 3 2 [(1, 3)] (-1) []), dLs (dTl 3 2 [] (-1) [])], ?_, ?_, shaped_all okS, shaped_all okS, ?_⟩
    · exact .lst (sq ((s12.trans (s13.trans (s14.trans s15))) _ _ g11)) (.cons (dLs_dp (u _ _ h3'')) (.cons (dLs_dp (u _ _ h7')) (.cons (dLs_dp (u _ _ h10)) .nil)))
    · refine .lst (sq g15) (.cons (dLs_dp ?_) (.cons (dLs_dp ?_) (.cons (dLs_dp ?_) .nil)))
      · rw [e1]; exact (s13.trans (s14.trans s15)) _ _ g12
      · rw [e2]; exact (s14.trans s15) _ _ g13
      · rw [e3]; exact s15 _ _ g14
    rw [SeqAt.eqv_refl _ (SeqAt.canLay_of_shaped (shaped_all okS))]
    clear okS u g11 g12 g13 g14 g15 h3'' h7' h10 n11 n12 n13 n14 n15 s11 s12 s13 s14 s15
    fail "ww"
    refine ⟨0, 0, -1, rfl, by decide, by decide, by decide, fun H16 q4 s16 m16 h16 => ?_⟩
    have e4 : dTu 0 0 (-1) = some (("number" : Str), (0 : Int)) := by rfl
    fail "ww"
    refine new_ fun b4 H17 n17 s17 g17 => ?_
    refine ⟨_, _, dLs_dp (s17 _ _ h16), dLs_dp (o := dTu 0 0 (-1)) (by rw [e4]; exact g17), shaped_one dTu_ok, shaped_one dTu_ok, ?_⟩
    rw [SeqAt.eqv_refl _ (SeqAt.canLay_of_shaped (shaped_one dTu_ok))]
    clear h16 g17 n17 s17
    fail "ww"
    refine new_ fun t1 H18 n18 s18 g18 => ?_
    fail "ww"
    refine new_ fun a7 H19 n19 s19 g19 => ?_
    fail "ww"
    refine new_ fun a8 H20 n20 s20 g20 => ?_
    fail "ww"
    refine ⟨4, 1, 0, a7, a8, [t1], [(1, 3)], [2, 1], rfl, by decide, by decide, sq (s20 _ _ g19), .one (c := (1, 3)) (s20 _ _ (s19 _ _ g18)), g20, (fun _ => by decide), fun H21 q5 s21 m21 h21 => ?_⟩
    have e5 : dTl 4 1 [(1, 3)] 0 [2, 1] = some (("command" : Str), (0 : Int)) := by rfl
    fail "ww"
    refine new_ fun b5 H22 n22 s22 g22 => ?_
    refine ⟨_, _, dLs_dp (s22 _ _ h21), dLs_dp (o := dTl 4 1 [(1, 3)] 0 [2, 1]) (by rw [e5]; exact g22), shaped_one dTl_ok, shaped_one dTl_ok, ?_⟩
    rw [SeqAt.eqv_refl _ (SeqAt.canLay_of_shaped (shaped_one dTl_ok))]
    fail "ww"
    exact q' _
end
theorem all_mk {w : World} {K : PySem.W.Frag} {h : Heap} {mg : Str → Option Value} {l : PySem.W.OpenLaw} {fa f_sort_stretches f_descending_row f_linked_blocks f_nth_choice f_choice_number f_law_pool f_law_draw f_law_blocks f_law_kind f_block_lengths f_law_steps f_law_line f_law_bad_steps f_law_bad_line f_check_size f_check_script f_check_arrangement f_turns f_check_sized_script f_unchanged_number f_law_turns_told f_run f_blocks f_count_unchanged f_rounds f_nth_unchanged f_law_told f_law_right f_law : Addr} (X : K.In h) (G : h.Ns mainGlobals mg) (hfa : mg "law" = some (.ref fa))
    {od0 an0 od1 an1 od2 an2 od3 an3 od4 an4 od5 an5 od6 an6 od7 an7 od8 an8 od9 an9 od10 an10 od11 an11 od12 an12 od13 an13 od14 an14 od15 an15 od16 an16 od17 an17 od18 an18 od19 an19 od20 an20 od21 an21 od22 an22 od23 an23 od24 an24 od25 an25 od26 an26 od27 an27 od28 an28 : Option Addr} {sl0 sl1 sl2 sl3 sl4 sl5 sl6 sl7 sl8 sl9 sl10 sl11 sl12 sl13 sl14 sl15 sl16 sl17 sl18 sl19 sl20 sl21 sl22 sl23 sl24 sl25 sl26 sl27 sl28 : Array (Option Value)} {oc0 kV0 dc0 pm0 cd0 ct0 oc1 kV1 dc1 pm1 cd1 ct1 oc2 kV2 dc2 pm2 cd2 ct2 oc3 kV3 dc3 pm3 cd3 ct3 oc4 kV4 dc4 pm4 cd4 ct4 oc5 kV5 dc5 pm5 cd5 ct5 oc6 kV6 dc6 pm6 cd6 ct6 oc7 kV7 dc7 pm7 cd7 ct7 oc8 kV8 dc8 pm8 cd8 ct8 oc9 kV9 dc9 pm9 cd9 ct9 oc10 kV10 dc10 pm10 cd10 ct10 oc11 kV11 dc11 pm11 cd11 ct11 oc12 kV12 dc12 pm12 cd12 ct12 oc13 kV13 dc13 pm13 cd13 ct13 oc14 kV14 dc14 pm14 cd14 ct14 oc15 kV15 dc15 pm15 cd15 ct15 oc16 kV16 dc16 pm16 cd16 ct16 oc17 kV17 dc17 pm17 cd17 ct17 oc18 kV18 dc18 pm18 cd18 ct18 oc19 kV19 dc19 pm19 cd19 ct19 oc20 kV20 dc20 pm20 cd20 ct20 oc21 kV21 dc21 pm21 cd21 ct21 oc22 kV22 dc22 pm22 cd22 ct22 oc23 kV23 dc23 pm23 cd23 ct23 oc24 kV24 dc24 pm24 cd24 ct24 oc25 kV25 dc25 pm25 cd25 ct25 oc26 kV26 dc26 pm26 cd26 ct26 oc27 kV27 dc27 pm27 cd27 ct27 oc28 kV28 dc28 pm28 cd28 ct28 : Value}
    (a0 : PySem.W.nsIn K mainGlobals "sort_stretches" = some (some (.ref f_sort_stretches)))
    (l0 : K.lookup f_sort_stretches = some ⟨oc0, od0, .func (PySem.W.fnOf "sort_stretches" "sort_stretches" (defArgs s_sort_stretches) (defBody s_sort_stretches) (defScope s_sort_stretches) .none kV0 dc0 pm0 an0 cd0 ct0), sl0⟩) (c0 : PySem.W.codeIn K cd0 "sort_stretches" = true) (k0 : PySem.W.keepIn K (.ref f_sort_stretches) = true)
    (a1 : PySem.W.nsIn K mainGlobals "descending_row" = some (some (.ref f_descending_row)))
    (l1 : K.lookup f_descending_row = some ⟨oc1, od1, .func (PySem.W.fnOf "descending_row" "descending_row" (defArgs s_descending_row) (defBody s_descending_row) (defScope s_descending_row) .none kV1 dc1 pm1 an1 cd1 ct1), sl1⟩) (c1 : PySem.W.codeIn K cd1 "descending_row" = true) (k1 : PySem.W.keepIn K (.ref f_descending_row) = true)
    (a2 : PySem.W.nsIn K mainGlobals "linked_blocks" = some (some (.ref f_linked_blocks)))
    (l2 : K.lookup f_linked_blocks = some ⟨oc2, od2, .func (PySem.W.fnOf "linked_blocks" "linked_blocks" (defArgs s_linked_blocks) (defBody s_linked_blocks) (defScope s_linked_blocks) .none kV2 dc2 pm2 an2 cd2 ct2), sl2⟩) (c2 : PySem.W.codeIn K cd2 "linked_blocks" = true) (k2 : PySem.W.keepIn K (.ref f_linked_blocks) = true)
    (a3 : PySem.W.nsIn K mainGlobals "nth_choice" = some (some (.ref f_nth_choice)))
    (l3 : K.lookup f_nth_choice = some ⟨oc3, od3, .func (PySem.W.fnOf "nth_choice" "nth_choice" (defArgs s_nth_choice) (defBody s_nth_choice) (defScope s_nth_choice) .none kV3 dc3 pm3 an3 cd3 ct3), sl3⟩) (c3 : PySem.W.codeIn K cd3 "nth_choice" = true) (k3 : PySem.W.keepIn K (.ref f_nth_choice) = true)
    (a4 : PySem.W.nsIn K mainGlobals "choice_number" = some (some (.ref f_choice_number)))
    (l4 : K.lookup f_choice_number = some ⟨oc4, od4, .func (PySem.W.fnOf "choice_number" "choice_number" (defArgs s_choice_number) (defBody s_choice_number) (defScope s_choice_number) .none kV4 dc4 pm4 an4 cd4 ct4), sl4⟩) (c4 : PySem.W.codeIn K cd4 "choice_number" = true) (k4 : PySem.W.keepIn K (.ref f_choice_number) = true)
    (a5 : PySem.W.nsIn K mainGlobals "_law_pool" = some (some (.ref f_law_pool)))
    (l5 : K.lookup f_law_pool = some ⟨oc5, od5, .func (PySem.W.fnOf "_law_pool" "_law_pool" (defArgs s_law_pool) (defBody s_law_pool) (defScope s_law_pool) .none kV5 dc5 pm5 an5 cd5 ct5), sl5⟩) (c5 : PySem.W.codeIn K cd5 "_law_pool" = true) (k5 : PySem.W.keepIn K (.ref f_law_pool) = true)
    (a6 : PySem.W.nsIn K mainGlobals "_law_draw" = some (some (.ref f_law_draw)))
    (l6 : K.lookup f_law_draw = some ⟨oc6, od6, .func (PySem.W.fnOf "_law_draw" "_law_draw" (defArgs s_law_draw) (defBody s_law_draw) (defScope s_law_draw) .none kV6 dc6 pm6 an6 cd6 ct6), sl6⟩) (c6 : PySem.W.codeIn K cd6 "_law_draw" = true) (k6 : PySem.W.keepIn K (.ref f_law_draw) = true)
    (a7 : PySem.W.nsIn K mainGlobals "_law_blocks" = some (some (.ref f_law_blocks)))
    (l7 : K.lookup f_law_blocks = some ⟨oc7, od7, .func (PySem.W.fnOf "_law_blocks" "_law_blocks" (defArgs s_law_blocks) (defBody s_law_blocks) (defScope s_law_blocks) .none kV7 dc7 pm7 an7 cd7 ct7), sl7⟩) (c7 : PySem.W.codeIn K cd7 "_law_blocks" = true) (k7 : PySem.W.keepIn K (.ref f_law_blocks) = true)
    (a8 : PySem.W.nsIn K mainGlobals "_law_kind" = some (some (.ref f_law_kind)))
    (l8 : K.lookup f_law_kind = some ⟨oc8, od8, .func (PySem.W.fnOf "_law_kind" "_law_kind" (defArgs s_law_kind) (defBody s_law_kind) (defScope s_law_kind) .none kV8 dc8 pm8 an8 cd8 ct8), sl8⟩) (c8 : PySem.W.codeIn K cd8 "_law_kind" = true) (k8 : PySem.W.keepIn K (.ref f_law_kind) = true)
    (a9 : PySem.W.nsIn K mainGlobals "block_lengths" = some (some (.ref f_block_lengths)))
    (l9 : K.lookup f_block_lengths = some ⟨oc9, od9, .func (PySem.W.fnOf "block_lengths" "block_lengths" (defArgs s_block_lengths) (defBody s_block_lengths) (defScope s_block_lengths) .none kV9 dc9 pm9 an9 cd9 ct9), sl9⟩) (c9 : PySem.W.codeIn K cd9 "block_lengths" = true) (k9 : PySem.W.keepIn K (.ref f_block_lengths) = true)
    (a10 : PySem.W.nsIn K mainGlobals "_law_steps" = some (some (.ref f_law_steps)))
    (l10 : K.lookup f_law_steps = some ⟨oc10, od10, .func (PySem.W.fnOf "_law_steps" "_law_steps" (defArgs s_law_steps) (defBody s_law_steps) (defScope s_law_steps) .none kV10 dc10 pm10 an10 cd10 ct10), sl10⟩) (c10 : PySem.W.codeIn K cd10 "_law_steps" = true) (k10 : PySem.W.keepIn K (.ref f_law_steps) = true)
    (a11 : PySem.W.nsIn K mainGlobals "_law_line" = some (some (.ref f_law_line)))
    (l11 : K.lookup f_law_line = some ⟨oc11, od11, .func (PySem.W.fnOf "_law_line" "_law_line" (defArgs s_law_line) (defBody s_law_line) (defScope s_law_line) .none kV11 dc11 pm11 an11 cd11 ct11), sl11⟩) (c11 : PySem.W.codeIn K cd11 "_law_line" = true) (k11 : PySem.W.keepIn K (.ref f_law_line) = true)
    (a12 : PySem.W.nsIn K mainGlobals "_law_bad_steps" = some (some (.ref f_law_bad_steps)))
    (l12 : K.lookup f_law_bad_steps = some ⟨oc12, od12, .func (PySem.W.fnOf "_law_bad_steps" "_law_bad_steps" (defArgs s_law_bad_steps) (defBody s_law_bad_steps) (defScope s_law_bad_steps) .none kV12 dc12 pm12 an12 cd12 ct12), sl12⟩) (c12 : PySem.W.codeIn K cd12 "_law_bad_steps" = true) (k12 : PySem.W.keepIn K (.ref f_law_bad_steps) = true)
    (a13 : PySem.W.nsIn K mainGlobals "_law_bad_line" = some (some (.ref f_law_bad_line)))
    (l13 : K.lookup f_law_bad_line = some ⟨oc13, od13, .func (PySem.W.fnOf "_law_bad_line" "_law_bad_line" (defArgs s_law_bad_line) (defBody s_law_bad_line) (defScope s_law_bad_line) .none kV13 dc13 pm13 an13 cd13 ct13), sl13⟩) (c13 : PySem.W.codeIn K cd13 "_law_bad_line" = true) (k13 : PySem.W.keepIn K (.ref f_law_bad_line) = true)
    (a14 : PySem.W.nsIn K mainGlobals "check_size" = some (some (.ref f_check_size)))
    (l14 : K.lookup f_check_size = some ⟨oc14, od14, .func (PySem.W.fnOf "check_size" "check_size" (defArgs s_check_size) (defBody s_check_size) (defScope s_check_size) .none kV14 dc14 pm14 an14 cd14 ct14), sl14⟩) (c14 : PySem.W.codeIn K cd14 "check_size" = true) (k14 : PySem.W.keepIn K (.ref f_check_size) = true)
    (a15 : PySem.W.nsIn K mainGlobals "check_script" = some (some (.ref f_check_script)))
    (l15 : K.lookup f_check_script = some ⟨oc15, od15, .func (PySem.W.fnOf "check_script" "check_script" (defArgs s_check_script) (defBody s_check_script) (defScope s_check_script) .none kV15 dc15 pm15 an15 cd15 ct15), sl15⟩) (c15 : PySem.W.codeIn K cd15 "check_script" = true) (k15 : PySem.W.keepIn K (.ref f_check_script) = true)
    (a16 : PySem.W.nsIn K mainGlobals "check_arrangement" = some (some (.ref f_check_arrangement)))
    (l16 : K.lookup f_check_arrangement = some ⟨oc16, od16, .func (PySem.W.fnOf "check_arrangement" "check_arrangement" (defArgs s_check_arrangement) (defBody s_check_arrangement) (defScope s_check_arrangement) .none kV16 dc16 pm16 an16 cd16 ct16), sl16⟩) (c16 : PySem.W.codeIn K cd16 "check_arrangement" = true) (k16 : PySem.W.keepIn K (.ref f_check_arrangement) = true)
    (a17 : PySem.W.nsIn K mainGlobals "turns" = some (some (.ref f_turns)))
    (l17 : K.lookup f_turns = some ⟨oc17, od17, .func (PySem.W.fnOf "turns" "turns" (defArgs s_turns) (defBody s_turns) (defScope s_turns) .none kV17 dc17 pm17 an17 cd17 ct17), sl17⟩) (c17 : PySem.W.codeIn K cd17 "turns" = true) (k17 : PySem.W.keepIn K (.ref f_turns) = true)
    (a18 : PySem.W.nsIn K mainGlobals "check_sized_script" = some (some (.ref f_check_sized_script)))
    (l18 : K.lookup f_check_sized_script = some ⟨oc18, od18, .func (PySem.W.fnOf "check_sized_script" "check_sized_script" (defArgs s_check_sized_script) (defBody s_check_sized_script) (defScope s_check_sized_script) .none kV18 dc18 pm18 an18 cd18 ct18), sl18⟩) (c18 : PySem.W.codeIn K cd18 "check_sized_script" = true) (k18 : PySem.W.keepIn K (.ref f_check_sized_script) = true)
    (a19 : PySem.W.nsIn K mainGlobals "unchanged_number" = some (some (.ref f_unchanged_number)))
    (l19 : K.lookup f_unchanged_number = some ⟨oc19, od19, .func (PySem.W.fnOf "unchanged_number" "unchanged_number" (defArgs s_unchanged_number) (defBody s_unchanged_number) (defScope s_unchanged_number) .none kV19 dc19 pm19 an19 cd19 ct19), sl19⟩) (c19 : PySem.W.codeIn K cd19 "unchanged_number" = true) (k19 : PySem.W.keepIn K (.ref f_unchanged_number) = true)
    (a20 : PySem.W.nsIn K mainGlobals "_law_turns_told" = some (some (.ref f_law_turns_told)))
    (l20 : K.lookup f_law_turns_told = some ⟨oc20, od20, .func (PySem.W.fnOf "_law_turns_told" "_law_turns_told" (defArgs s_law_turns_told) (defBody s_law_turns_told) (defScope s_law_turns_told) .none kV20 dc20 pm20 an20 cd20 ct20), sl20⟩) (c20 : PySem.W.codeIn K cd20 "_law_turns_told" = true) (k20 : PySem.W.keepIn K (.ref f_law_turns_told) = true)
    (a21 : PySem.W.nsIn K mainGlobals "run" = some (some (.ref f_run)))
    (l21 : K.lookup f_run = some ⟨oc21, od21, .func (PySem.W.fnOf "run" "run" (defArgs s_run) (defBody s_run) (defScope s_run) .none kV21 dc21 pm21 an21 cd21 ct21), sl21⟩) (c21 : PySem.W.codeIn K cd21 "run" = true) (k21 : PySem.W.keepIn K (.ref f_run) = true)
    (a22 : PySem.W.nsIn K mainGlobals "blocks" = some (some (.ref f_blocks)))
    (l22 : K.lookup f_blocks = some ⟨oc22, od22, .func (PySem.W.fnOf "blocks" "blocks" (defArgs s_blocks) (defBody s_blocks) (defScope s_blocks) .none kV22 dc22 pm22 an22 cd22 ct22), sl22⟩) (c22 : PySem.W.codeIn K cd22 "blocks" = true) (k22 : PySem.W.keepIn K (.ref f_blocks) = true)
    (a23 : PySem.W.nsIn K mainGlobals "count_unchanged" = some (some (.ref f_count_unchanged)))
    (l23 : K.lookup f_count_unchanged = some ⟨oc23, od23, .func (PySem.W.fnOf "count_unchanged" "count_unchanged" (defArgs s_count_unchanged) (defBody s_count_unchanged) (defScope s_count_unchanged) .none kV23 dc23 pm23 an23 cd23 ct23), sl23⟩) (c23 : PySem.W.codeIn K cd23 "count_unchanged" = true) (k23 : PySem.W.keepIn K (.ref f_count_unchanged) = true)
    (a24 : PySem.W.nsIn K mainGlobals "rounds" = some (some (.ref f_rounds)))
    (l24 : K.lookup f_rounds = some ⟨oc24, od24, .func (PySem.W.fnOf "rounds" "rounds" (defArgs s_rounds) (defBody s_rounds) (defScope s_rounds) .none kV24 dc24 pm24 an24 cd24 ct24), sl24⟩) (c24 : PySem.W.codeIn K cd24 "rounds" = true) (k24 : PySem.W.keepIn K (.ref f_rounds) = true)
    (a25 : PySem.W.nsIn K mainGlobals "nth_unchanged" = some (some (.ref f_nth_unchanged)))
    (l25 : K.lookup f_nth_unchanged = some ⟨oc25, od25, .func (PySem.W.fnOf "nth_unchanged" "nth_unchanged" (defArgs s_nth_unchanged) (defBody s_nth_unchanged) (defScope s_nth_unchanged) .none kV25 dc25 pm25 an25 cd25 ct25), sl25⟩) (c25 : PySem.W.codeIn K cd25 "nth_unchanged" = true) (k25 : PySem.W.keepIn K (.ref f_nth_unchanged) = true)
    (a26 : PySem.W.nsIn K mainGlobals "_law_told" = some (some (.ref f_law_told)))
    (l26 : K.lookup f_law_told = some ⟨oc26, od26, .func (PySem.W.fnOf "_law_told" "_law_told" (defArgs s_law_told) (defBody s_law_told) (defScope s_law_told) .none kV26 dc26 pm26 an26 cd26 ct26), sl26⟩) (c26 : PySem.W.codeIn K cd26 "_law_told" = true) (k26 : PySem.W.keepIn K (.ref f_law_told) = true)
    (a27 : PySem.W.nsIn K mainGlobals "_law_right" = some (some (.ref f_law_right)))
    (l27 : K.lookup f_law_right = some ⟨oc27, od27, .func (PySem.W.fnOf "_law_right" "_law_right" (defArgs s_law_right) (defBody s_law_right) (defScope s_law_right) .none kV27 dc27 pm27 an27 cd27 ct27), sl27⟩) (c27 : PySem.W.codeIn K cd27 "_law_right" = true) (k27 : PySem.W.keepIn K (.ref f_law_right) = true)
    (a28 : PySem.W.nsIn K mainGlobals "law" = some (some (.ref f_law)))
    (l28 : K.lookup f_law = some ⟨oc28, od28, .func (PySem.W.fnOf "law" "law" (defArgs s_law) (defBody s_law) (defScope s_law) .none kV28 dc28 pm28 an28 cd28 ct28), sl28⟩) (c28 : PySem.W.codeIn K cd28 "law" = true) (k28 : PySem.W.keepIn K (.ref f_law) = true)
    {C_InvalidCommand C_InvalidNumber C_InvalidRow C_InvalidSize C_NothingToUndo C_SortError C_UnequalSizes C_Unreadable : Addr} {CSE : Addr}
    {ci_InvalidCommand ci_InvalidNumber ci_InvalidRow ci_InvalidSize : Addr} {nm_InvalidCommand qn_InvalidCommand nm_InvalidNumber qn_InvalidNumber nm_InvalidRow qn_InvalidRow nm_InvalidSize qn_InvalidSize : Str} {N_InvalidCommand N_InvalidNumber N_InvalidRow N_InvalidSize : Addr} {bs_InvalidCommand sub_InvalidCommand bs_InvalidNumber sub_InvalidNumber bs_InvalidRow sub_InvalidRow bs_InvalidSize sub_InvalidSize : List Value} {sn_InvalidCommand sn_InvalidNumber sn_InvalidRow sn_InvalidSize : List Str} {ab_InvalidCommand ab_InvalidNumber ab_InvalidRow ab_InvalidSize : Bool} {col_InvalidCommand col_InvalidNumber col_InvalidRow col_InvalidSize : Option Bool} {dd_InvalidCommand odi_InvalidCommand ani_InvalidCommand dd_InvalidNumber odi_InvalidNumber ani_InvalidNumber dd_InvalidRow odi_InvalidRow ani_InvalidRow dd_InvalidSize odi_InvalidSize ani_InvalidSize : Option Addr} {m0_InvalidCommand m1_InvalidCommand m2_InvalidCommand m3_InvalidCommand m5_InvalidCommand m0_InvalidNumber m1_InvalidNumber m2_InvalidNumber m3_InvalidNumber m5_InvalidNumber m0_InvalidRow m1_InvalidRow m2_InvalidRow m3_InvalidRow m5_InvalidRow m0_InvalidSize m1_InvalidSize m2_InvalidSize m3_InvalidSize m5_InvalidSize : Option Value}
    {sli_InvalidCommand sli_InvalidNumber sli_InvalidRow sli_InvalidSize : Array (Option Value)} {oci_InvalidCommand kVi_InvalidCommand dci_InvalidCommand pmi_InvalidCommand cdi_InvalidCommand cti_InvalidCommand oci_InvalidNumber kVi_InvalidNumber dci_InvalidNumber pmi_InvalidNumber cdi_InvalidNumber cti_InvalidNumber oci_InvalidRow kVi_InvalidRow dci_InvalidRow pmi_InvalidRow cdi_InvalidRow cti_InvalidRow oci_InvalidSize kVi_InvalidSize dci_InvalidSize pmi_InvalidSize cdi_InvalidSize cti_InvalidSize : Value}
    (aC_InvalidCommand : PySem.W.nsIn K mainGlobals "InvalidCommand" = some (some (.ref C_InvalidCommand)))
    (aC_InvalidNumber : PySem.W.nsIn K mainGlobals "InvalidNumber" = some (some (.ref C_InvalidNumber)))
    (aC_InvalidRow : PySem.W.nsIn K mainGlobals "InvalidRow" = some (some (.ref C_InvalidRow)))
    (aC_InvalidSize : PySem.W.nsIn K mainGlobals "InvalidSize" = some (some (.ref C_InvalidSize)))
    (aC_NothingToUndo : PySem.W.nsIn K mainGlobals "NothingToUndo" = some (some (.ref C_NothingToUndo)))
    (aC_SortError : PySem.W.nsIn K mainGlobals "SortError" = some (some (.ref C_SortError)))
    (aC_UnequalSizes : PySem.W.nsIn K mainGlobals "UnequalSizes" = some (some (.ref C_UnequalSizes)))
    (aC_Unreadable : PySem.W.nsIn K mainGlobals "Unreadable" = some (some (.ref C_Unreadable)))
    (eS : PySem.W.subIn K (.ref C_SortError) (.type "BaseException") = some true)
    (hS : PySem.W.hasDictIn K C_SortError = true)
    (tS : PySem.W.typeIn K (.ref C_SortError) = some (.type "type"))
    (nX : PySem.W.specialIn K (.builtin "object.__class__") "__get__" = some (some (.builtin "getset_descriptor.__get__")))
    (uX : PySem.W.takesIn K (.builtin "object.__class__") = some true)
    (aX_InvalidCommand : PySem.W.findIn K (.ref C_InvalidCommand) "__class__" = some (some (.builtin "object.__class__")))
    (mX_InvalidCommand : PySem.W.mroIn K C_InvalidCommand (.type "object") = some true)
    (is_InvalidCommand_InvalidCommand : PySem.W.kitOne K (.ref C_InvalidCommand) (.ref C_InvalidCommand) = some true)
    (is_InvalidCommand_InvalidNumber : PySem.W.kitOne K (.ref C_InvalidCommand) (.ref C_InvalidNumber) = some false)
    (is_InvalidCommand_InvalidRow : PySem.W.kitOne K (.ref C_InvalidCommand) (.ref C_InvalidRow) = some false)
    (is_InvalidCommand_InvalidSize : PySem.W.kitOne K (.ref C_InvalidCommand) (.ref C_InvalidSize) = some false)
    (is_InvalidCommand_NothingToUndo : PySem.W.kitOne K (.ref C_InvalidCommand) (.ref C_NothingToUndo) = some false)
    (is_InvalidCommand_SortError : PySem.W.kitOne K (.ref C_InvalidCommand) (.ref C_SortError) = some true)
    (is_InvalidCommand_UnequalSizes : PySem.W.kitOne K (.ref C_InvalidCommand) (.ref C_UnequalSizes) = some false)
    (is_InvalidCommand_Unreadable : PySem.W.kitOne K (.ref C_InvalidCommand) (.ref C_Unreadable) = some false)
    (is_InvalidCommand_ValueError : PySem.W.kitOne K (.ref C_InvalidCommand) (.type "ValueError") = some true)
    (aX_InvalidNumber : PySem.W.findIn K (.ref C_InvalidNumber) "__class__" = some (some (.builtin "object.__class__")))
    (mX_InvalidNumber : PySem.W.mroIn K C_InvalidNumber (.type "object") = some true)
    (is_InvalidNumber_InvalidCommand : PySem.W.kitOne K (.ref C_InvalidNumber) (.ref C_InvalidCommand) = some false)
    (is_InvalidNumber_InvalidNumber : PySem.W.kitOne K (.ref C_InvalidNumber) (.ref C_InvalidNumber) = some true)
    (is_InvalidNumber_InvalidRow : PySem.W.kitOne K (.ref C_InvalidNumber) (.ref C_InvalidRow) = some false)
    (is_InvalidNumber_InvalidSize : PySem.W.kitOne K (.ref C_InvalidNumber) (.ref C_InvalidSize) = some false)
    (is_InvalidNumber_NothingToUndo : PySem.W.kitOne K (.ref C_InvalidNumber) (.ref C_NothingToUndo) = some false)
    (is_InvalidNumber_SortError : PySem.W.kitOne K (.ref C_InvalidNumber) (.ref C_SortError) = some true)
    (is_InvalidNumber_UnequalSizes : PySem.W.kitOne K (.ref C_InvalidNumber) (.ref C_UnequalSizes) = some false)
    (is_InvalidNumber_Unreadable : PySem.W.kitOne K (.ref C_InvalidNumber) (.ref C_Unreadable) = some false)
    (is_InvalidNumber_ValueError : PySem.W.kitOne K (.ref C_InvalidNumber) (.type "ValueError") = some true)
    (aX_InvalidRow : PySem.W.findIn K (.ref C_InvalidRow) "__class__" = some (some (.builtin "object.__class__")))
    (mX_InvalidRow : PySem.W.mroIn K C_InvalidRow (.type "object") = some true)
    (is_InvalidRow_InvalidCommand : PySem.W.kitOne K (.ref C_InvalidRow) (.ref C_InvalidCommand) = some false)
    (is_InvalidRow_InvalidNumber : PySem.W.kitOne K (.ref C_InvalidRow) (.ref C_InvalidNumber) = some false)
    (is_InvalidRow_InvalidRow : PySem.W.kitOne K (.ref C_InvalidRow) (.ref C_InvalidRow) = some true)
    (is_InvalidRow_InvalidSize : PySem.W.kitOne K (.ref C_InvalidRow) (.ref C_InvalidSize) = some false)
    (is_InvalidRow_NothingToUndo : PySem.W.kitOne K (.ref C_InvalidRow) (.ref C_NothingToUndo) = some false)
    (is_InvalidRow_SortError : PySem.W.kitOne K (.ref C_InvalidRow) (.ref C_SortError) = some true)
    (is_InvalidRow_UnequalSizes : PySem.W.kitOne K (.ref C_InvalidRow) (.ref C_UnequalSizes) = some false)
    (is_InvalidRow_Unreadable : PySem.W.kitOne K (.ref C_InvalidRow) (.ref C_Unreadable) = some false)
    (is_InvalidRow_ValueError : PySem.W.kitOne K (.ref C_InvalidRow) (.type "ValueError") = some true)
    (aX_InvalidSize : PySem.W.findIn K (.ref C_InvalidSize) "__class__" = some (some (.builtin "object.__class__")))
    (mX_InvalidSize : PySem.W.mroIn K C_InvalidSize (.type "object") = some true)
    (is_InvalidSize_InvalidCommand : PySem.W.kitOne K (.ref C_InvalidSize) (.ref C_InvalidCommand) = some false)
    (is_InvalidSize_InvalidNumber : PySem.W.kitOne K (.ref C_InvalidSize) (.ref C_InvalidNumber) = some false)
    (is_InvalidSize_InvalidRow : PySem.W.kitOne K (.ref C_InvalidSize) (.ref C_InvalidRow) = some false)
    (is_InvalidSize_InvalidSize : PySem.W.kitOne K (.ref C_InvalidSize) (.ref C_InvalidSize) = some true)
    (is_InvalidSize_NothingToUndo : PySem.W.kitOne K (.ref C_InvalidSize) (.ref C_NothingToUndo) = some false)
    (is_InvalidSize_SortError : PySem.W.kitOne K (.ref C_InvalidSize) (.ref C_SortError) = some true)
    (is_InvalidSize_UnequalSizes : PySem.W.kitOne K (.ref C_InvalidSize) (.ref C_UnequalSizes) = some false)
    (is_InvalidSize_Unreadable : PySem.W.kitOne K (.ref C_InvalidSize) (.ref C_Unreadable) = some false)
    (is_InvalidSize_ValueError : PySem.W.kitOne K (.ref C_InvalidSize) (.type "ValueError") = some true)
    (xL_InvalidCommand : K.lookup C_InvalidCommand = some (excClassObj nm_InvalidCommand qn_InvalidCommand C_InvalidCommand N_InvalidCommand bs_InvalidCommand [.ref CSE, .type "ValueError", .type "Exception", .type "BaseException", .type "object"] true sn_InvalidCommand sub_InvalidCommand ab_InvalidCommand col_InvalidCommand dd_InvalidCommand m0_InvalidCommand m1_InvalidCommand m2_InvalidCommand m3_InvalidCommand m5_InvalidCommand "ValueError.__new__"))
    (sa_InvalidCommand : PySem.W.findIn K (.ref C_InvalidCommand) "__setattr__" = some (some (.builtin "object.__setattr__")))
    (ga_InvalidCommand : PySem.W.findIn K (.ref C_InvalidCommand) "__getattribute__" = some (some (.builtin "BaseException.__getattribute__")))
    (gg_InvalidCommand : PySem.W.findIn K (.ref C_InvalidCommand) "__getattr__" = some none)
    (nb_InvalidCommand : PySem.W.findIn K (.ref C_InvalidCommand) "value" = some none)
    (iC_InvalidCommand : PySem.W.findIn K (.ref C_InvalidCommand) "__init__" = some (some (.ref ci_InvalidCommand)))
    (tI_InvalidCommand : PySem.W.typeIn K (.ref ci_InvalidCommand) = some (.type "function"))
    (lI_InvalidCommand : K.lookup ci_InvalidCommand = some ⟨oci_InvalidCommand, odi_InvalidCommand, .func (PySem.W.fnOf "__init__" "InvalidCommand.__init__" (defArgs s_InvalidCommand_i) (defBody s_InvalidCommand_i) (defScope s_InvalidCommand_i) .none kVi_InvalidCommand dci_InvalidCommand pmi_InvalidCommand ani_InvalidCommand cdi_InvalidCommand cti_InvalidCommand), sli_InvalidCommand⟩)
    (cI_InvalidCommand : PySem.W.codeIn K cdi_InvalidCommand "InvalidCommand.__init__" = true)
    (kI_InvalidCommand : PySem.W.keepIn K (.ref ci_InvalidCommand) = true)
    (kC_InvalidCommand : PySem.W.keepIn K (.ref C_InvalidCommand) = true)
    (eC_InvalidCommand : PySem.W.subIn K (.ref C_InvalidCommand) (.type "BaseException") = some true)
    (tC_InvalidCommand : PySem.W.typeIn K (.ref C_InvalidCommand) = some (.type "type"))
    (hC_InvalidCommand : PySem.W.hasDictIn K C_InvalidCommand = true)
    (sC_InvalidCommand : PySem.W.subIn K (.ref C_InvalidCommand) (.ref C_SortError) = some true)
    (xL_InvalidNumber : K.lookup C_InvalidNumber = some (excClassObj nm_InvalidNumber qn_InvalidNumber C_InvalidNumber N_InvalidNumber bs_InvalidNumber [.ref CSE, .type "ValueError", .type "Exception", .type "BaseException", .type "object"] true sn_InvalidNumber sub_InvalidNumber ab_InvalidNumber col_InvalidNumber dd_InvalidNumber m0_InvalidNumber m1_InvalidNumber m2_InvalidNumber m3_InvalidNumber m5_InvalidNumber "ValueError.__new__"))
    (sa_InvalidNumber : PySem.W.findIn K (.ref C_InvalidNumber) "__setattr__" = some (some (.builtin "object.__setattr__")))
    (ga_InvalidNumber : PySem.W.findIn K (.ref C_InvalidNumber) "__getattribute__" = some (some (.builtin "BaseException.__getattribute__")))
    (gg_InvalidNumber : PySem.W.findIn K (.ref C_InvalidNumber) "__getattr__" = some none)
    (nb_InvalidNumber : PySem.W.findIn K (.ref C_InvalidNumber) "value" = some none)
    (iC_InvalidNumber : PySem.W.findIn K (.ref C_InvalidNumber) "__init__" = some (some (.ref ci_InvalidNumber)))
    (tI_InvalidNumber : PySem.W.typeIn K (.ref ci_InvalidNumber) = some (.type "function"))
    (lI_InvalidNumber : K.lookup ci_InvalidNumber = some ⟨oci_InvalidNumber, odi_InvalidNumber, .func (PySem.W.fnOf "__init__" "InvalidNumber.__init__" (defArgs s_InvalidNumber_i) (defBody s_InvalidNumber_i) (defScope s_InvalidNumber_i) .none kVi_InvalidNumber dci_InvalidNumber pmi_InvalidNumber ani_InvalidNumber cdi_InvalidNumber cti_InvalidNumber), sli_InvalidNumber⟩)
    (cI_InvalidNumber : PySem.W.codeIn K cdi_InvalidNumber "InvalidNumber.__init__" = true)
    (kI_InvalidNumber : PySem.W.keepIn K (.ref ci_InvalidNumber) = true)
    (kC_InvalidNumber : PySem.W.keepIn K (.ref C_InvalidNumber) = true)
    (eC_InvalidNumber : PySem.W.subIn K (.ref C_InvalidNumber) (.type "BaseException") = some true)
    (tC_InvalidNumber : PySem.W.typeIn K (.ref C_InvalidNumber) = some (.type "type"))
    (hC_InvalidNumber : PySem.W.hasDictIn K C_InvalidNumber = true)
    (sC_InvalidNumber : PySem.W.subIn K (.ref C_InvalidNumber) (.ref C_SortError) = some true)
    (xL_InvalidRow : K.lookup C_InvalidRow = some (excClassObj nm_InvalidRow qn_InvalidRow C_InvalidRow N_InvalidRow bs_InvalidRow [.ref CSE, .type "ValueError", .type "Exception", .type "BaseException", .type "object"] true sn_InvalidRow sub_InvalidRow ab_InvalidRow col_InvalidRow dd_InvalidRow m0_InvalidRow m1_InvalidRow m2_InvalidRow m3_InvalidRow m5_InvalidRow "ValueError.__new__"))
    (sa_InvalidRow : PySem.W.findIn K (.ref C_InvalidRow) "__setattr__" = some (some (.builtin "object.__setattr__")))
    (ga_InvalidRow : PySem.W.findIn K (.ref C_InvalidRow) "__getattribute__" = some (some (.builtin "BaseException.__getattribute__")))
    (gg_InvalidRow : PySem.W.findIn K (.ref C_InvalidRow) "__getattr__" = some none)
    (nb_InvalidRow : PySem.W.findIn K (.ref C_InvalidRow) "value" = some none)
    (iC_InvalidRow : PySem.W.findIn K (.ref C_InvalidRow) "__init__" = some (some (.ref ci_InvalidRow)))
    (tI_InvalidRow : PySem.W.typeIn K (.ref ci_InvalidRow) = some (.type "function"))
    (lI_InvalidRow : K.lookup ci_InvalidRow = some ⟨oci_InvalidRow, odi_InvalidRow, .func (PySem.W.fnOf "__init__" "InvalidRow.__init__" (defArgs s_InvalidRow_i) (defBody s_InvalidRow_i) (defScope s_InvalidRow_i) .none kVi_InvalidRow dci_InvalidRow pmi_InvalidRow ani_InvalidRow cdi_InvalidRow cti_InvalidRow), sli_InvalidRow⟩)
    (cI_InvalidRow : PySem.W.codeIn K cdi_InvalidRow "InvalidRow.__init__" = true)
    (kI_InvalidRow : PySem.W.keepIn K (.ref ci_InvalidRow) = true)
    (kC_InvalidRow : PySem.W.keepIn K (.ref C_InvalidRow) = true)
    (eC_InvalidRow : PySem.W.subIn K (.ref C_InvalidRow) (.type "BaseException") = some true)
    (tC_InvalidRow : PySem.W.typeIn K (.ref C_InvalidRow) = some (.type "type"))
    (hC_InvalidRow : PySem.W.hasDictIn K C_InvalidRow = true)
    (sC_InvalidRow : PySem.W.subIn K (.ref C_InvalidRow) (.ref C_SortError) = some true)
    (xL_InvalidSize : K.lookup C_InvalidSize = some (excClassObj nm_InvalidSize qn_InvalidSize C_InvalidSize N_InvalidSize bs_InvalidSize [.ref CSE, .type "ValueError", .type "Exception", .type "BaseException", .type "object"] true sn_InvalidSize sub_InvalidSize ab_InvalidSize col_InvalidSize dd_InvalidSize m0_InvalidSize m1_InvalidSize m2_InvalidSize m3_InvalidSize m5_InvalidSize "ValueError.__new__"))
    (sa_InvalidSize : PySem.W.findIn K (.ref C_InvalidSize) "__setattr__" = some (some (.builtin "object.__setattr__")))
    (ga_InvalidSize : PySem.W.findIn K (.ref C_InvalidSize) "__getattribute__" = some (some (.builtin "BaseException.__getattribute__")))
    (gg_InvalidSize : PySem.W.findIn K (.ref C_InvalidSize) "__getattr__" = some none)
    (nb_InvalidSize : PySem.W.findIn K (.ref C_InvalidSize) "value" = some none)
    (iC_InvalidSize : PySem.W.findIn K (.ref C_InvalidSize) "__init__" = some (some (.ref ci_InvalidSize)))
    (tI_InvalidSize : PySem.W.typeIn K (.ref ci_InvalidSize) = some (.type "function"))
    (lI_InvalidSize : K.lookup ci_InvalidSize = some ⟨oci_InvalidSize, odi_InvalidSize, .func (PySem.W.fnOf "__init__" "InvalidSize.__init__" (defArgs s_InvalidSize_i) (defBody s_InvalidSize_i) (defScope s_InvalidSize_i) .none kVi_InvalidSize dci_InvalidSize pmi_InvalidSize ani_InvalidSize cdi_InvalidSize cti_InvalidSize), sli_InvalidSize⟩)
    (cI_InvalidSize : PySem.W.codeIn K cdi_InvalidSize "InvalidSize.__init__" = true)
    (kI_InvalidSize : PySem.W.keepIn K (.ref ci_InvalidSize) = true)
    (kC_InvalidSize : PySem.W.keepIn K (.ref C_InvalidSize) = true)
    (eC_InvalidSize : PySem.W.subIn K (.ref C_InvalidSize) (.type "BaseException") = some true)
    (tC_InvalidSize : PySem.W.typeIn K (.ref C_InvalidSize) = some (.type "type"))
    (hC_InvalidSize : PySem.W.hasDictIn K C_InvalidSize = true)
    (sC_InvalidSize : PySem.W.subIn K (.ref C_InvalidSize) (.ref C_SortError) = some true)
    (z_ValueError : PySem.W.nsIn K mainGlobals "ValueError" = some none) (z_abs : PySem.W.nsIn K mainGlobals "abs" = some none) (z_divmod : PySem.W.nsIn K mainGlobals "divmod" = some none) (z_enumerate : PySem.W.nsIn K mainGlobals "enumerate" = some none) (z_int : PySem.W.nsIn K mainGlobals "int" = some none) (z_isinstance : PySem.W.nsIn K mainGlobals "isinstance" = some none) (z_len : PySem.W.nsIn K mainGlobals "len" = some none) (z_list : PySem.W.nsIn K mainGlobals "list" = some none) (z_max : PySem.W.nsIn K mainGlobals "max" = some none) (z_min : PySem.W.nsIn K mainGlobals "min" = some none) (z_range : PySem.W.nsIn K mainGlobals "range" = some none) (z_repr : PySem.W.nsIn K mainGlobals "repr" = some none) (z_set : PySem.W.nsIn K mainGlobals "set" = some none) (z_sorted : PySem.W.nsIn K mainGlobals "sorted" = some none) (z_zip : PySem.W.nsIn K mainGlobals "zip" = some none) (gcomb : PySem.W.nsIn K mainGlobals "comb" = some (some (.builtin "math.comb"))) :
    ∃ fd : FuncData, (∀ (s : Shared) (v : Value), BindsTo s fd ⟨[v], []⟩ [("script", v)]) ∧ ∀ base : Heap, K.In base → base.Ns mainGlobals mg → FnG l.prog w K mg base CX0 9 fa fd ["script"] (sp_law K) := by
  have e := hfa.symm.trans (PySem.W.mg_of X G a28)
  cases e
  have F0 := fun_mk (st := s_sort_stretches) l0 c0 k0
  have b0 := F0.binds (ps := ["row", "commands"]) fun _ _ _ _ _ _ us hl => match us, hl with | [_, _], _ => rfl
  have F1 := fun_mk (st := s_descending_row) l1 c1 k1
  have b1 := F1.binds (ps := ["size"]) fun _ _ _ _ _ _ us hl => match us, hl with | [_], _ => rfl
  have F2 := fun_mk (st := s_linked_blocks) l2 c2 k2
  have b2 := F2.binds (ps := ["size", "commands"]) fun _ _ _ _ _ _ us hl => match us, hl with | [_, _], _ => rfl
  have F3 := fun_mk (st := s_nth_choice) l3 c3 k3
  have b3 := F3.binds (ps := ["values", "length", "number"]) fun _ _ _ _ _ _ us hl => match us, hl with | [_, _, _], _ => rfl
  have F4 := fun_mk (st := s_choice_number) l4 c4 k4
  have b4 := F4.binds (ps := ["values", "chosen"]) fun _ _ _ _ _ _ us hl => match us, hl with | [_, _], _ => rfl
  have F5 := fun_mk (st := s_law_pool) l5 c5 k5
  have b5 := F5.binds (ps := ["script", "at"]) fun _ _ _ _ _ _ us hl => match us, hl with | [_, _], _ => rfl
  have F6 := fun_mk (st := s_law_draw) l6 c6 k6
  have b6 := F6.binds (ps := ["pool", "many"]) fun _ _ _ _ _ _ us hl => match us, hl with | [_, _], _ => rfl
  have F7 := fun_mk (st := s_law_blocks) l7 c7 k7
  have b7 := F7.binds (ps := ["wide", "steps_here"]) fun _ _ _ _ _ _ us hl => match us, hl with | [_, _], _ => rfl
  have F8 := fun_mk (st := s_law_kind) l8 c8 k8
  have b8 := F8.binds (ps := ["caught"]) fun _ _ _ _ _ _ us hl => match us, hl with | [_], _ => rfl
  have F9 := fun_mk (st := s_block_lengths) l9 c9 k9
  have b9 := F9.binds (ps := ["size", "commands"]) fun _ _ _ _ _ _ us hl => match us, hl with | [_, _], _ => rfl
  have F10 := fun_mk (st := s_law_steps) l10 c10 k10
  have b10 := F10.binds (ps := ["pool", "wide", "most"]) fun _ _ _ _ _ _ us hl => match us, hl with | [_, _, _], _ => rfl
  have F11 := fun_mk (st := s_law_line) l11 c11 k11
  have b11 := F11.binds (ps := ["pool", "wide"]) fun _ _ _ _ _ _ us hl => match us, hl with | [_, _], _ => rfl
  have F12 := fun_mk (st := s_law_bad_steps) l12 c12 k12
  have b12 := F12.binds (ps := ["pool", "wide", "steps_here"]) fun _ _ _ _ _ _ us hl => match us, hl with | [_, _, _], _ => rfl
  have F13 := fun_mk (st := s_law_bad_line) l13 c13 k13
  have b13 := F13.binds (ps := ["pool", "line_here"]) fun _ _ _ _ _ _ us hl => match us, hl with | [_, _], _ => rfl
  have F14 := fun_mk (st := s_check_size) l14 c14 k14
  have b14 := F14.binds (ps := ["size"]) fun _ _ _ _ _ _ us hl => match us, hl with | [_], _ => rfl
  have F15 := fun_mk (st := s_check_script) l15 c15 k15
  have b15 := F15.binds (ps := ["size", "commands"]) fun _ _ _ _ _ _ us hl => match us, hl with | [_, _], _ => rfl
  have F16 := fun_mk (st := s_check_arrangement) l16 c16 k16
  have b16 := F16.binds (ps := ["row"]) fun _ _ _ _ _ _ us hl => match us, hl with | [_], _ => rfl
  have F17 := fun_mk (st := s_turns) l17 c17 k17
  have b17 := F17.binds (ps := ["alone", "shared", "other"]) fun _ _ _ _ _ _ us hl => match us, hl with | [_, _, _], _ => rfl
  have F18 := fun_mk (st := s_check_sized_script) l18 c18 k18
  have b18 := F18.binds (ps := ["size", "commands"]) fun _ _ _ _ _ _ us hl => match us, hl with | [_, _], _ => rfl
  have F19 := fun_mk (st := s_unchanged_number) l19 c19 k19
  have b19 := F19.binds (ps := ["commands", "row"]) fun _ _ _ _ _ _ us hl => match us, hl with | [_, _], _ => rfl
  have F20 := fun_mk (st := s_law_turns_told) l20 c20 k20
  have b20 := F20.binds (ps := ["left", "both", "right"]) fun _ _ _ _ _ _ us hl => match us, hl with | [_, _, _], _ => rfl
  have F21 := fun_mk (st := s_run) l21 c21 k21
  have b21 := F21.binds (ps := ["row", "commands"]) fun _ _ _ _ _ _ us hl => match us, hl with | [_, _], _ => rfl
  have F22 := fun_mk (st := s_blocks) l22 c22 k22
  have b22 := F22.binds (ps := ["size", "commands"]) fun _ _ _ _ _ _ us hl => match us, hl with | [_, _], _ => rfl
  have F23 := fun_mk (st := s_count_unchanged) l23 c23 k23
  have b23 := F23.binds (ps := ["size", "commands"]) fun _ _ _ _ _ _ us hl => match us, hl with | [_, _], _ => rfl
  have F24 := fun_mk (st := s_rounds) l24 c24 k24
  have b24 := F24.binds (ps := ["size", "commands"]) fun _ _ _ _ _ _ us hl => match us, hl with | [_, _], _ => rfl
  have F25 := fun_mk (st := s_nth_unchanged) l25 c25 k25
  have b25 := F25.binds (ps := ["size", "commands", "number"]) fun _ _ _ _ _ _ us hl => match us, hl with | [_, _, _], _ => rfl
  have F26 := fun_mk (st := s_law_told) l26 c26 k26
  have b26 := F26.binds (ps := ["door", "wide", "steps_here", "spot", "line_here"]) fun _ _ _ _ _ _ us hl => match us, hl with | [_, _, _, _, _], _ => rfl
  have F27 := fun_mk (st := s_law_right) l27 c27 k27
  have b27 := F27.binds (ps := ["pool"]) fun _ _ _ _ _ _ us hl => match us, hl with | [_], _ => rfl
  have F28 := fun_mk (st := s_law) l28 c28 k28
  have b28 := F28.binds (ps := ["script"]) fun _ _ _ _ _ _ us hl => match us, hl with | [_], _ => rfl
  have FI_InvalidCommand := fun_mk (st := s_InvalidCommand_i) lI_InvalidCommand cI_InvalidCommand kI_InvalidCommand
  have bI_InvalidCommand := FI_InvalidCommand.binds (ps := ["self", "value"]) fun _ _ _ _ _ _ us hl => match us, hl with | [_, _], _ => rfl
  have E_InvalidCommand : ErrC K mg "InvalidCommand" C_SortError C_InvalidCommand ci_InvalidCommand := ⟨PySem.W.mg_of X G aC_InvalidCommand, ⟨⟨_, _, _, _, _, _, _, _, _, _, _, _, _, _, _, xL_InvalidCommand, rfl⟩, sa_InvalidCommand, eC_InvalidCommand, tC_InvalidCommand, kC_InvalidCommand⟩, iC_InvalidCommand, tI_InvalidCommand, ⟨ga_InvalidCommand, gg_InvalidCommand, eC_InvalidCommand, hC_InvalidCommand⟩, nb_InvalidCommand, PySem.W.exm_ref eS hS tS sC_InvalidCommand⟩
  have FI_InvalidNumber := fun_mk (st := s_InvalidNumber_i) lI_InvalidNumber cI_InvalidNumber kI_InvalidNumber
  have bI_InvalidNumber := FI_InvalidNumber.binds (ps := ["self", "value"]) fun _ _ _ _ _ _ us hl => match us, hl with | [_, _], _ => rfl
  have E_InvalidNumber : ErrC K mg "InvalidNumber" C_SortError C_InvalidNumber ci_InvalidNumber := ⟨PySem.W.mg_of X G aC_InvalidNumber, ⟨⟨_, _, _, _, _, _, _, _, _, _, _, _, _, _, _, xL_InvalidNumber, rfl⟩, sa_InvalidNumber, eC_InvalidNumber, tC_InvalidNumber, kC_InvalidNumber⟩, iC_InvalidNumber, tI_InvalidNumber, ⟨ga_InvalidNumber, gg_InvalidNumber, eC_InvalidNumber, hC_InvalidNumber⟩, nb_InvalidNumber, PySem.W.exm_ref eS hS tS sC_InvalidNumber⟩
  have FI_InvalidRow := fun_mk (st := s_InvalidRow_i) lI_InvalidRow cI_InvalidRow kI_InvalidRow
  have bI_InvalidRow := FI_InvalidRow.binds (ps := ["self", "value"]) fun _ _ _ _ _ _ us hl => match us, hl with | [_, _], _ => rfl
  have E_InvalidRow : ErrC K mg "InvalidRow" C_SortError C_InvalidRow ci_InvalidRow := ⟨PySem.W.mg_of X G aC_InvalidRow, ⟨⟨_, _, _, _, _, _, _, _, _, _, _, _, _, _, _, xL_InvalidRow, rfl⟩, sa_InvalidRow, eC_InvalidRow, tC_InvalidRow, kC_InvalidRow⟩, iC_InvalidRow, tI_InvalidRow, ⟨ga_InvalidRow, gg_InvalidRow, eC_InvalidRow, hC_InvalidRow⟩, nb_InvalidRow, PySem.W.exm_ref eS hS tS sC_InvalidRow⟩
  have FI_InvalidSize := fun_mk (st := s_InvalidSize_i) lI_InvalidSize cI_InvalidSize kI_InvalidSize
  have bI_InvalidSize := FI_InvalidSize.binds (ps := ["self", "value"]) fun _ _ _ _ _ _ us hl => match us, hl with | [_, _], _ => rfl
  have E_InvalidSize : ErrC K mg "InvalidSize" C_SortError C_InvalidSize ci_InvalidSize := ⟨PySem.W.mg_of X G aC_InvalidSize, ⟨⟨_, _, _, _, _, _, _, _, _, _, _, _, _, _, _, xL_InvalidSize, rfl⟩, sa_InvalidSize, eC_InvalidSize, tC_InvalidSize, kC_InvalidSize⟩, iC_InvalidSize, tI_InvalidSize, ⟨ga_InvalidSize, gg_InvalidSize, eC_InvalidSize, hC_InvalidSize⟩, nb_InvalidSize, PySem.W.exm_ref eS hS tS sC_InvalidSize⟩
  let T : Txt K mg := { InvalidCommand_a := C_InvalidCommand, InvalidCommand_g := PySem.W.mg_of X G aC_InvalidCommand, InvalidNumber_a := C_InvalidNumber, InvalidNumber_g := PySem.W.mg_of X G aC_InvalidNumber, InvalidRow_a := C_InvalidRow, InvalidRow_g := PySem.W.mg_of X G aC_InvalidRow, InvalidSize_a := C_InvalidSize, InvalidSize_g := PySem.W.mg_of X G aC_InvalidSize, NothingToUndo_a := C_NothingToUndo, NothingToUndo_g := PySem.W.mg_of X G aC_NothingToUndo, SortError_a := C_SortError, SortError_g := PySem.W.mg_of X G aC_SortError, UnequalSizes_a := C_UnequalSizes, UnequalSizes_g := PySem.W.mg_of X G aC_UnequalSizes, Unreadable_a := C_Unreadable, Unreadable_g := PySem.W.mg_of X G aC_Unreadable, InvalidCommand_i_a := ci_InvalidCommand, InvalidCommand_i_d := _, InvalidCommand_i_F := FI_InvalidCommand, InvalidCommand_i_b := bI_InvalidCommand, InvalidCommand_E := E_InvalidCommand, InvalidCommand_X := ⟨ga_InvalidCommand, gg_InvalidCommand, eC_InvalidCommand, hC_InvalidCommand, aX_InvalidCommand, nX, uX, mX_InvalidCommand⟩, InvalidCommand_is_InvalidCommand := is_InvalidCommand_InvalidCommand, InvalidCommand_is_InvalidNumber := is_InvalidCommand_InvalidNumber, InvalidCommand_is_InvalidRow := is_InvalidCommand_InvalidRow, InvalidCommand_is_InvalidSize := is_InvalidCommand_InvalidSize, InvalidCommand_is_NothingToUndo := is_InvalidCommand_NothingToUndo, InvalidCommand_is_SortError := is_InvalidCommand_SortError, InvalidCommand_is_UnequalSizes := is_InvalidCommand_UnequalSizes, InvalidCommand_is_Unreadable := is_InvalidCommand_Unreadable, InvalidCommand_is_ValueError := is_InvalidCommand_ValueError, InvalidNumber_i_a := ci_InvalidNumber, InvalidNumber_i_d := _, InvalidNumber_i_F := FI_InvalidNumber, InvalidNumber_i_b := bI_InvalidNumber, InvalidNumber_E := E_InvalidNumber, InvalidNumber_X := ⟨ga_InvalidNumber, gg_InvalidNumber, eC_InvalidNumber, hC_InvalidNumber, aX_InvalidNumber, nX, uX, mX_InvalidNumber⟩, InvalidNumber_is_InvalidCommand := is_InvalidNumber_InvalidCommand, InvalidNumber_is_InvalidNumber := is_InvalidNumber_InvalidNumber, InvalidNumber_is_InvalidRow := is_InvalidNumber_InvalidRow, InvalidNumber_is_InvalidSize := is_InvalidNumber_InvalidSize, InvalidNumber_is_NothingToUndo := is_InvalidNumber_NothingToUndo, InvalidNumber_is_SortError := is_InvalidNumber_SortError, InvalidNumber_is_UnequalSizes := is_InvalidNumber_UnequalSizes, InvalidNumber_is_Unreadable := is_InvalidNumber_Unreadable, InvalidNumber_is_ValueError := is_InvalidNumber_ValueError, InvalidRow_i_a := ci_InvalidRow, InvalidRow_i_d := _, InvalidRow_i_F := FI_InvalidRow, InvalidRow_i_b := bI_InvalidRow, InvalidRow_E := E_InvalidRow, InvalidRow_X := ⟨ga_InvalidRow, gg_InvalidRow, eC_InvalidRow, hC_InvalidRow, aX_InvalidRow, nX, uX, mX_InvalidRow⟩, InvalidRow_is_InvalidCommand := is_InvalidRow_InvalidCommand, InvalidRow_is_InvalidNumber := is_InvalidRow_InvalidNumber, InvalidRow_is_InvalidRow := is_InvalidRow_InvalidRow, InvalidRow_is_InvalidSize := is_InvalidRow_InvalidSize, InvalidRow_is_NothingToUndo := is_InvalidRow_NothingToUndo, InvalidRow_is_SortError := is_InvalidRow_SortError, InvalidRow_is_UnequalSizes := is_InvalidRow_UnequalSizes, InvalidRow_is_Unreadable := is_InvalidRow_Unreadable, InvalidRow_is_ValueError := is_InvalidRow_ValueError, InvalidSize_i_a := ci_InvalidSize, InvalidSize_i_d := _, InvalidSize_i_F := FI_InvalidSize, InvalidSize_i_b := bI_InvalidSize, InvalidSize_E := E_InvalidSize, InvalidSize_X := ⟨ga_InvalidSize, gg_InvalidSize, eC_InvalidSize, hC_InvalidSize, aX_InvalidSize, nX, uX, mX_InvalidSize⟩, InvalidSize_is_InvalidCommand := is_InvalidSize_InvalidCommand, InvalidSize_is_InvalidNumber := is_InvalidSize_InvalidNumber, InvalidSize_is_InvalidRow := is_InvalidSize_InvalidRow, InvalidSize_is_InvalidSize := is_InvalidSize_InvalidSize, InvalidSize_is_NothingToUndo := is_InvalidSize_NothingToUndo, InvalidSize_is_SortError := is_InvalidSize_SortError, InvalidSize_is_UnequalSizes := is_InvalidSize_UnequalSizes, InvalidSize_is_Unreadable := is_InvalidSize_Unreadable, InvalidSize_is_ValueError := is_InvalidSize_ValueError, sort_stretches_a := f_sort_stretches, sort_stretches_d := _, sort_stretches_F := F0, sort_stretches_b := b0, sort_stretches_g := PySem.W.mg_of X G a0, descending_row_a := f_descending_row, descending_row_d := _, descending_row_F := F1, descending_row_b := b1, descending_row_g := PySem.W.mg_of X G a1, linked_blocks_a := f_linked_blocks, linked_blocks_d := _, linked_blocks_F := F2, linked_blocks_b := b2, linked_blocks_g := PySem.W.mg_of X G a2, nth_choice_a := f_nth_choice, nth_choice_d := _, nth_choice_F := F3, nth_choice_b := b3, nth_choice_g := PySem.W.mg_of X G a3, choice_number_a := f_choice_number, choice_number_d := _, choice_number_F := F4, choice_number_b := b4, choice_number_g := PySem.W.mg_of X G a4, law_pool_a := f_law_pool, law_pool_d := _, law_pool_F := F5, law_pool_b := b5, law_pool_g := PySem.W.mg_of X G a5, law_draw_a := f_law_draw, law_draw_d := _, law_draw_F := F6, law_draw_b := b6, law_draw_g := PySem.W.mg_of X G a6, law_blocks_a := f_law_blocks, law_blocks_d := _, law_blocks_F := F7, law_blocks_b := b7, law_blocks_g := PySem.W.mg_of X G a7, law_kind_a := f_law_kind, law_kind_d := _, law_kind_F := F8, law_kind_b := b8, law_kind_g := PySem.W.mg_of X G a8, block_lengths_a := f_block_lengths, block_lengths_d := _, block_lengths_F := F9, block_lengths_b := b9, block_lengths_g := PySem.W.mg_of X G a9, law_steps_a := f_law_steps, law_steps_d := _, law_steps_F := F10, law_steps_b := b10, law_steps_g := PySem.W.mg_of X G a10, law_line_a := f_law_line, law_line_d := _, law_line_F := F11, law_line_b := b11, law_line_g := PySem.W.mg_of X G a11, law_bad_steps_a := f_law_bad_steps, law_bad_steps_d := _, law_bad_steps_F := F12, law_bad_steps_b := b12, law_bad_steps_g := PySem.W.mg_of X G a12, law_bad_line_a := f_law_bad_line, law_bad_line_d := _, law_bad_line_F := F13, law_bad_line_b := b13, law_bad_line_g := PySem.W.mg_of X G a13, check_size_a := f_check_size, check_size_d := _, check_size_F := F14, check_size_b := b14, check_size_g := PySem.W.mg_of X G a14, check_script_a := f_check_script, check_script_d := _, check_script_F := F15, check_script_b := b15, check_script_g := PySem.W.mg_of X G a15, check_arrangement_a := f_check_arrangement, check_arrangement_d := _, check_arrangement_F := F16, check_arrangement_b := b16, check_arrangement_g := PySem.W.mg_of X G a16, turns_a := f_turns, turns_d := _, turns_F := F17, turns_b := b17, turns_g := PySem.W.mg_of X G a17, check_sized_script_a := f_check_sized_script, check_sized_script_d := _, check_sized_script_F := F18, check_sized_script_b := b18, check_sized_script_g := PySem.W.mg_of X G a18, unchanged_number_a := f_unchanged_number, unchanged_number_d := _, unchanged_number_F := F19, unchanged_number_b := b19, unchanged_number_g := PySem.W.mg_of X G a19, law_turns_told_a := f_law_turns_told, law_turns_told_d := _, law_turns_told_F := F20, law_turns_told_b := b20, law_turns_told_g := PySem.W.mg_of X G a20, run_a := f_run, run_d := _, run_F := F21, run_b := b21, run_g := PySem.W.mg_of X G a21, blocks_a := f_blocks, blocks_d := _, blocks_F := F22, blocks_b := b22, blocks_g := PySem.W.mg_of X G a22, count_unchanged_a := f_count_unchanged, count_unchanged_d := _, count_unchanged_F := F23, count_unchanged_b := b23, count_unchanged_g := PySem.W.mg_of X G a23, rounds_a := f_rounds, rounds_d := _, rounds_F := F24, rounds_b := b24, rounds_g := PySem.W.mg_of X G a24, nth_unchanged_a := f_nth_unchanged, nth_unchanged_d := _, nth_unchanged_F := F25, nth_unchanged_b := b25, nth_unchanged_g := PySem.W.mg_of X G a25, law_told_a := f_law_told, law_told_d := _, law_told_F := F26, law_told_b := b26, law_told_g := PySem.W.mg_of X G a26, law_right_a := f_law_right, law_right_d := _, law_right_F := F27, law_right_b := b27, law_right_g := PySem.W.mg_of X G a27, law_a := fa, law_d := _, law_F := F28, law_b := b28, law_g := PySem.W.mg_of X G a28, m_ValueError := PySem.W.mg_none_of X G z_ValueError, m_abs := PySem.W.mg_none_of X G z_abs, m_divmod := PySem.W.mg_none_of X G z_divmod, m_enumerate := PySem.W.mg_none_of X G z_enumerate, m_int := PySem.W.mg_none_of X G z_int, m_isinstance := PySem.W.mg_none_of X G z_isinstance, m_len := PySem.W.mg_none_of X G z_len, m_list := PySem.W.mg_none_of X G z_list, m_max := PySem.W.mg_none_of X G z_max, m_min := PySem.W.mg_none_of X G z_min, m_range := PySem.W.mg_none_of X G z_range, m_repr := PySem.W.mg_none_of X G z_repr, m_set := PySem.W.mg_none_of X G z_set, m_sorted := PySem.W.mg_none_of X G z_sorted, m_zip := PySem.W.mg_none_of X G z_zip, g_comb := PySem.W.mg_of X G gcomb }
  exact ⟨PySem.W.fnOf "law" "law" (defArgs s_law) (defBody s_law) (defScope s_law) .none kV28 dc28 pm28 an28 cd28 ct28, fun s v => .of_eq rfl, fun base _ _ => ok_law T⟩
end L37
open PySem PySem.W PyProof.Rows
set_option maxHeartbeats 0 in
theorem PySem.Challenge.cw_sortstretches_k37_errors_of_repeating_holds : PySem.Challenge.rw_sortstretches_k37_errors_of_repeating.Holds := by
  w_on; o_law; k_head; (case hw => w_witness2)
  k_fill
  refine Xk.walkG (l := PySem.Challenge.rw_sortstretches_k37_errors_of_repeating) (m := 63) (n := 9) (x := "script") (CX := L2.CX0) (sp := L37.sp_law) rfl (by decide) rfl ⟨rfl, by decide, by decide⟩ (fun w h Y => PySem.W.kIn_of Y) ?F (fun K H a ns hl hO hS => ⟨a, ns, rfl, hS, hl, fun _ => rfl⟩) (fun _ _ _ _ h => h)
  case F =>
    intro w mg fa h KX G hmg
    refine' L37.all_mk KX G hmg ?a0 ?l0 ?c0 ?k0 ?a1 ?l1 ?c1 ?k1 ?a2 ?l2 ?c2 ?k2 ?a3 ?l3 ?c3 ?k3 ?a4 ?l4 ?c4 ?k4 ?a5 ?l5 ?c5 ?k5 ?a6 ?l6 ?c6 ?k6 ?a7 ?l7 ?c7 ?k7 ?a8 ?l8 ?c8 ?k8 ?a9 ?l9 ?c9 ?k9 ?a10 ?l10 ?c10 ?k10 ?a11 ?l11 ?c11 ?k11 ?a12 ?l12 ?c12 ?k12 ?a13 ?l13 ?c13 ?k13 ?a14 ?l14 ?c14 ?k14 ?a15 ?l15 ?c15 ?k15 ?a16 ?l16 ?c16 ?k16 ?a17 ?l17 ?c17 ?k17 ?a18 ?l18 ?c18 ?k18 ?a19 ?l19 ?c19 ?k19 ?a20 ?l20 ?c20 ?k20 ?a21 ?l21 ?c21 ?k21 ?a22 ?l22 ?c22 ?k22 ?a23 ?l23 ?c23 ?k23 ?a24 ?l24 ?c24 ?k24 ?a25 ?l25 ?c25 ?k25 ?a26 ?l26 ?c26 ?k26 ?a27 ?l27 ?c27 ?k27 ?a28 ?l28 ?c28 ?k28 ?aC_InvalidCommand ?aC_InvalidNumber ?aC_InvalidRow ?aC_InvalidSize ?aC_NothingToUndo ?aC_SortError ?aC_UnequalSizes ?aC_Unreadable ?eS ?hS ?tS ?nX ?uX ?aX_InvalidCommand ?mX_InvalidCommand ?is_InvalidCommand_InvalidCommand ?is_InvalidCommand_InvalidNumber ?is_InvalidCommand_InvalidRow ?is_InvalidCommand_InvalidSize ?is_InvalidCommand_NothingToUndo ?is_InvalidCommand_SortError ?is_InvalidCommand_UnequalSizes ?is_InvalidCommand_Unreadable ?is_InvalidCommand_ValueError ?aX_InvalidNumber ?mX_InvalidNumber ?is_InvalidNumber_InvalidCommand ?is_InvalidNumber_InvalidNumber ?is_InvalidNumber_InvalidRow ?is_InvalidNumber_InvalidSize ?is_InvalidNumber_NothingToUndo ?is_InvalidNumber_SortError ?is_InvalidNumber_UnequalSizes ?is_InvalidNumber_Unreadable ?is_InvalidNumber_ValueError ?aX_InvalidRow ?mX_InvalidRow ?is_InvalidRow_InvalidCommand ?is_InvalidRow_InvalidNumber ?is_InvalidRow_InvalidRow ?is_InvalidRow_InvalidSize ?is_InvalidRow_NothingToUndo ?is_InvalidRow_SortError ?is_InvalidRow_UnequalSizes ?is_InvalidRow_Unreadable ?is_InvalidRow_ValueError ?aX_InvalidSize ?mX_InvalidSize ?is_InvalidSize_InvalidCommand ?is_InvalidSize_InvalidNumber ?is_InvalidSize_InvalidRow ?is_InvalidSize_InvalidSize ?is_InvalidSize_NothingToUndo ?is_InvalidSize_SortError ?is_InvalidSize_UnequalSizes ?is_InvalidSize_Unreadable ?is_InvalidSize_ValueError ?xL_InvalidCommand ?sa_InvalidCommand ?ga_InvalidCommand ?gg_InvalidCommand ?nb_InvalidCommand ?iC_InvalidCommand ?tI_InvalidCommand ?lI_InvalidCommand ?cI_InvalidCommand ?kI_InvalidCommand ?kC_InvalidCommand ?eC_InvalidCommand ?tC_InvalidCommand ?hC_InvalidCommand ?sC_InvalidCommand ?xL_InvalidNumber ?sa_InvalidNumber ?ga_InvalidNumber ?gg_InvalidNumber ?nb_InvalidNumber ?iC_InvalidNumber ?tI_InvalidNumber ?lI_InvalidNumber ?cI_InvalidNumber ?kI_InvalidNumber ?kC_InvalidNumber ?eC_InvalidNumber ?tC_InvalidNumber ?hC_InvalidNumber ?sC_InvalidNumber ?xL_InvalidRow ?sa_InvalidRow ?ga_InvalidRow ?gg_InvalidRow ?nb_InvalidRow ?iC_InvalidRow ?tI_InvalidRow ?lI_InvalidRow ?cI_InvalidRow ?kI_InvalidRow ?kC_InvalidRow ?eC_InvalidRow ?tC_InvalidRow ?hC_InvalidRow ?sC_InvalidRow ?xL_InvalidSize ?sa_InvalidSize ?ga_InvalidSize ?gg_InvalidSize ?nb_InvalidSize ?iC_InvalidSize ?tI_InvalidSize ?lI_InvalidSize ?cI_InvalidSize ?kI_InvalidSize ?kC_InvalidSize ?eC_InvalidSize ?tC_InvalidSize ?hC_InvalidSize ?sC_InvalidSize ?z_ValueError ?z_abs ?z_divmod ?z_enumerate ?z_int ?z_isinstance ?z_len ?z_list ?z_max ?z_min ?z_range ?z_repr ?z_set ?z_sorted ?z_zip ?gcomb
    (case aC_InvalidCommand => k_is); (case aC_InvalidNumber => k_is); (case aC_InvalidRow => k_is); (case aC_InvalidSize => k_is); (case aC_NothingToUndo => k_is); (case aC_SortError => k_is); (case aC_UnequalSizes => k_is); (case aC_Unreadable => k_is); (case a0 => k_is); (case l0 => k_is); (case c0 => k_is); (case k0 => k_is); (case a1 => k_is); (case l1 => k_is); (case c1 => k_is); (case k1 => k_is); (case a2 => k_is); (case l2 => k_is); (case c2 => k_is); (case k2 => k_is); (case a3 => k_is); (case l3 => k_is); (case c3 => k_is); (case k3 => k_is); (case a4 => k_is); (case l4 => k_is); (case c4 => k_is); (case k4 => k_is); (case a5 => k_is); (case l5 => k_is); (case c5 => k_is); (case k5 => k_is); (case a6 => k_is); (case l6 => k_is); (case c6 => k_is); (case k6 => k_is); (case a7 => k_is); (case l7 => k_is); (case c7 => k_is); (case k7 => k_is); (case a8 => k_is); (case l8 => k_is); (case c8 => k_is); (case k8 => k_is); (case a9 => k_is); (case l9 => k_is); (case c9 => k_is); (case k9 => k_is); (case a10 => k_is); (case l10 => k_is); (case c10 => k_is); (case k10 => k_is); (case a11 => k_is); (case l11 => k_is); (case c11 => k_is); (case k11 => k_is); (case a12 => k_is); (case l12 => k_is); (case c12 => k_is); (case k12 => k_is); (case a13 => k_is); (case l13 => k_is); (case c13 => k_is); (case k13 => k_is); (case a14 => k_is); (case l14 => k_is); (case c14 => k_is); (case k14 => k_is); (case a15 => k_is); (case l15 => k_is); (case c15 => k_is); (case k15 => k_is); (case a16 => k_is); (case l16 => k_is); (case c16 => k_is); (case k16 => k_is); (case a17 => k_is); (case l17 => k_is); (case c17 => k_is); (case k17 => k_is); (case a18 => k_is); (case l18 => k_is); (case c18 => k_is); (case k18 => k_is); (case a19 => k_is); (case l19 => k_is); (case c19 => k_is); (case k19 => k_is); (case a20 => k_is); (case l20 => k_is); (case c20 => k_is); (case k20 => k_is); (case a21 => k_is); (case l21 => k_is); (case c21 => k_is); (case k21 => k_is); (case a22 => k_is); (case l22 => k_is); (case c22 => k_is); (case k22 => k_is); (case a23 => k_is); (case l23 => k_is); (case c23 => k_is); (case k23 => k_is); (case a24 => k_is); (case l24 => k_is); (case c24 => k_is); (case k24 => k_is); (case a25 => k_is); (case l25 => k_is); (case c25 => k_is); (case k25 => k_is); (case a26 => k_is); (case l26 => k_is); (case c26 => k_is); (case k26 => k_is); (case a27 => k_is); (case l27 => k_is); (case c27 => k_is); (case k27 => k_is); (case a28 => k_is); (case l28 => k_is); (case c28 => k_is); (case k28 => k_is); (case eS => k_is); (case hS => k_is); (case tS => k_is); (case nX => k_is); (case uX => k_is); (case aX_InvalidCommand => k_is); (case mX_InvalidCommand => k_is); (case is_InvalidCommand_InvalidCommand => kit_is); (case is_InvalidCommand_InvalidNumber => kit_is); (case is_InvalidCommand_InvalidRow => kit_is); (case is_InvalidCommand_InvalidSize => kit_is); (case is_InvalidCommand_NothingToUndo => kit_is); (case is_InvalidCommand_SortError => kit_is); (case is_InvalidCommand_UnequalSizes => kit_is); (case is_InvalidCommand_Unreadable => kit_is); (case is_InvalidCommand_ValueError => kit_is); (case aX_InvalidNumber => k_is); (case mX_InvalidNumber => k_is); (case is_InvalidNumber_InvalidCommand => kit_is); (case is_InvalidNumber_InvalidNumber => kit_is); (case is_InvalidNumber_InvalidRow => kit_is); (case is_InvalidNumber_InvalidSize => kit_is); (case is_InvalidNumber_NothingToUndo => kit_is); (case is_InvalidNumber_SortError => kit_is); (case is_InvalidNumber_UnequalSizes => kit_is); (case is_InvalidNumber_Unreadable => kit_is); (case is_InvalidNumber_ValueError => kit_is); (case aX_InvalidRow => k_is); (case mX_InvalidRow => k_is); (case is_InvalidRow_InvalidCommand => kit_is); (case is_InvalidRow_InvalidNumber => kit_is); (case is_InvalidRow_InvalidRow => kit_is); (case is_InvalidRow_InvalidSize => kit_is); (case is_InvalidRow_NothingToUndo => kit_is); (case is_InvalidRow_SortError => kit_is); (case is_InvalidRow_UnequalSizes => kit_is); (case is_InvalidRow_Unreadable => kit_is); (case is_InvalidRow_ValueError => kit_is); (case aX_InvalidSize => k_is); (case mX_InvalidSize => k_is); (case is_InvalidSize_InvalidCommand => kit_is); (case is_InvalidSize_InvalidNumber => kit_is); (case is_InvalidSize_InvalidRow => kit_is); (case is_InvalidSize_InvalidSize => kit_is); (case is_InvalidSize_NothingToUndo => kit_is); (case is_InvalidSize_SortError => kit_is); (case is_InvalidSize_UnequalSizes => kit_is); (case is_InvalidSize_Unreadable => kit_is); (case is_InvalidSize_ValueError => kit_is); (case xL_InvalidCommand => k_is); (case sa_InvalidCommand => k_is); (case ga_InvalidCommand => k_is); (case gg_InvalidCommand => k_is); (case nb_InvalidCommand => k_is); (case iC_InvalidCommand => k_is); (case tI_InvalidCommand => k_is); (case lI_InvalidCommand => k_is); (case cI_InvalidCommand => k_is); (case kI_InvalidCommand => k_is); (case kC_InvalidCommand => k_is); (case eC_InvalidCommand => k_is); (case tC_InvalidCommand => k_is); (case hC_InvalidCommand => k_is); (case sC_InvalidCommand => k_is); (case xL_InvalidNumber => k_is); (case sa_InvalidNumber => k_is); (case ga_InvalidNumber => k_is); (case gg_InvalidNumber => k_is); (case nb_InvalidNumber => k_is); (case iC_InvalidNumber => k_is); (case tI_InvalidNumber => k_is); (case lI_InvalidNumber => k_is); (case cI_InvalidNumber => k_is); (case kI_InvalidNumber => k_is); (case kC_InvalidNumber => k_is); (case eC_InvalidNumber => k_is); (case tC_InvalidNumber => k_is); (case hC_InvalidNumber => k_is); (case sC_InvalidNumber => k_is); (case xL_InvalidRow => k_is); (case sa_InvalidRow => k_is); (case ga_InvalidRow => k_is); (case gg_InvalidRow => k_is); (case nb_InvalidRow => k_is); (case iC_InvalidRow => k_is); (case tI_InvalidRow => k_is); (case lI_InvalidRow => k_is); (case cI_InvalidRow => k_is); (case kI_InvalidRow => k_is); (case kC_InvalidRow => k_is); (case eC_InvalidRow => k_is); (case tC_InvalidRow => k_is); (case hC_InvalidRow => k_is); (case sC_InvalidRow => k_is); (case xL_InvalidSize => k_is); (case sa_InvalidSize => k_is); (case ga_InvalidSize => k_is); (case gg_InvalidSize => k_is); (case nb_InvalidSize => k_is); (case iC_InvalidSize => k_is); (case tI_InvalidSize => k_is); (case lI_InvalidSize => k_is); (case cI_InvalidSize => k_is); (case kI_InvalidSize => k_is); (case kC_InvalidSize => k_is); (case eC_InvalidSize => k_is); (case tC_InvalidSize => k_is); (case hC_InvalidSize => k_is); (case sC_InvalidSize => k_is); (case z_ValueError => k_is); (case z_abs => k_is); (case z_divmod => k_is); (case z_enumerate => k_is); (case z_int => k_is); (case z_isinstance => k_is); (case z_len => k_is); (case z_list => k_is); (case z_max => k_is); (case z_min => k_is); (case z_range => k_is); (case z_repr => k_is); (case z_set => k_is); (case z_sorted => k_is); (case z_zip => k_is); (case gcomb => k_is)
