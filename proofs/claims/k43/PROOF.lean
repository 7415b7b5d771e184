import PyProof.Rows.All
import Wide.All
import OpenK.AllK
import Wide.FinOn
import HandS.Base
import HandS.Call
import HandS.List
import HandS.Ends
import HandS.Wide
import HandS.Iter
import HandS.Conv
import HandS.ForMost
import HandS.ForExc
import HandS.SortInts
import HandS.SortKw
import HandS.SetFor
import HandS.Style
import HandS.Codes
import HandS.Strs
import HandS.Walk
import HandS.IsInst
import HandS.NoneIn
import HandS.Deep
import HandS.More
import HandS.Exc
import HandS.ExcOwn
import HandS.ExcInit
import HandS.ExcField
import HandS.ExcIs
import HandS.WordsExc
import HandS.ExcCtx
import HandS.HotCalls
import HandS.ExcInitHot
import KE.KExcIs
import HandS.Property
import PySem.Challenge.RW_sortstretches_k43_hidden_errors
set_option maxHeartbeats 20000000
set_option Elab.async false
set_option linter.all false
set_option maxRecDepth 100000
namespace Xk
open PySem PySem.Spec PyProof.Rows L2

/-- a def's promise where no list is being written out around the call -/
structure FnG (P : Program) (w : World) (K : PySem.W.Frag) (mg : Str → Option Value) (B : Heap) (CX : CXT) (n : Nat) (g : Addr) (fd : FuncData) (ps : List Str) (sp : Sp) : Prop where
  cnt : ∀ vs H Q E, sp vs H Q E → vs.length = ps.length
  go : ∀ (A : Around) (ou : List Env) (t : Shared) (H : Hp) (ar : Args) (us : List Value) (vs : List V) (Q : VK) (E : XK),
    A.guards = some [] → Room n A → Env0 P w K mg B A ou t H → BindsTo t fd ar (ps.zip us) → Vals vs us → sp vs H Q E →
      codeAny (model P w) A (.call (.ref g) ar) (CR CX ou P w H t Q E) t

theorem FnG.of {P : Program} {w : World} {K : PySem.W.Frag} {mg : Str → Option Value} {B : Heap} {CX : CXT} {n : Nat} {g : Addr} {fd : FuncData} {ps : List Str} {sp : Sp}
    (F : FnOk P w K mg B CX n g fd ps sp) : FnG P w K mg B CX n g fd ps sp :=
  ⟨F.len, fun A ou t H ar us vs Q E _ room env bi rv hs => F.run A ou t H ar us vs Q E room env bi rv hs⟩

section
variable {X : Cx} {CX : CXT} {n : Nat} {g : Addr} {fd : FuncData} {ps ks : List Str} {sp : Sp} {dvs : List V} {ds : List Value} {E : XK} {x : Str} {p pos : Pos} {e : Expr} {es : List Expr} {kws : List Keyword} {t tk : TA}

theorem endG {pins : List (Addr × Obj)} {σ : L2.St} {H : Hp} {s s' : Shared} {Q : VK} {r : Result} (pas : Passes CX X E) (I : Inv X pins σ H s)
    (z : CR CX X.stack X.prog X.w H s Q E r s') :
    (match r with | .ok (.ret u) => EP X pins σ Q u s' | .ok _ => False | .error er => X.xe er s') := by
  match r, z with
  | .error er, z => exact pas pins σ H s er s' I z
  | .ok (.ret u), z => exact I.after z
  | .ok .next, z => exact z.elim
  | .ok .brk, z => exact z.elim
  | .ok .cont, z => exact z.elim

theorem goG {pins : List (Addr × Obj)} {σ : L2.St} {H : Hp} {s : Shared} {Q : VK} {us : List Value} {vs : List V} (F : FnG X.prog X.w X.K X.mg X.base CX n g fd ps sp)
    (hG : X.A.guards = some []) (room : Room n X.A) (bi : Binds X.K fd ps ds) (dv : Vals dvs ds) (pas : Passes CX X E) (I : Inv X pins σ H s) (rv : Vals vs us) (z : sp (vs ++ dvs) H Q E) :
    wpAny (model X.prog X.w) X.A (PySem.call (.ref g) us) (EP X pins σ Q) X.xe s := by
  have rv2 := rv.append dv
  have hlen : (us ++ ds).length = ps.length := rv2.length ▸ F.cnt _ _ _ _ z
  exact wpAny_call (codeAny_mono (F.go X.A X.stack s H ⟨us, []⟩ _ _ Q E hG room I.env0 (bi s us I.kIn hlen) rv2 z) fun r s' y => by
    have := endG pas I y
    revert this
    cases r with
    | error _ => exact id
    | ok fl => cases fl <;> exact id)

theorem pe_callG (F : FnG X.prog X.w X.K X.mg X.base CX n g fd ps sp) (hG : X.A.guards = some []) (room : Room n X.A) (gx : Gl X x) (at' : X.mg x = some (.ref g)) (kp : PySem.W.keepIn X.K (.ref g) = true)
    (bi : Binds X.K fd ps ds) (dv : Vals dvs ds) (pas : Passes CX X E) (ha : PA X (e :: es) t) (hdb : (x == ("__debug__" : Str)) = false := by decide)
    (he : starEach (e :: es) X.env = (false, eval e X.env) :: starEach es X.env := by rfl) (hpl : (backTo pos (starEach es X.env)).any (·.1) = false := by rfl) : PE X (.Call (.Name x p) (e :: es) [] pos) (tCall sp dvs E t) :=
  ⟨fun pins s σ H Q I z => wpAny_Call_Name_kw (ld_glob I gx at'
    (PySem.W.callWith_K (h₀ := X.base) I.ok.mod.kin kp (thn (ha.run pos pins s σ H _ I z) fun us s1 ⟨vs, H1, I1, r, q⟩ => ⟨I1.kIn, goG F hG room bi dv pas I1 r q⟩) he hpl) hdb)⟩

variable {ff : List Value → List Value → List Value} {fV : List V → List V → List V}
theorem goGK {pins : List (Addr × Obj)} {σ : L2.St} {H : Hp} {s : Shared} {Q : VK} {us ws : List Value} {vs zs : List V} (F : FnG X.prog X.w X.K X.mg X.base CX n g fd ps sp)
    (hG : X.A.guards = some []) (room : Room n X.A) (bi : KBinds X.K fd ps ks ff fV) (pas : Passes CX X E) (I : Inv X pins σ H s) (rv : Vals vs us) (rw' : Vals zs ws) (z : sp (fV vs zs) H Q E) :
    wpAny (model X.prog X.w) X.A (PySem.call (.ref g) us (ks.zip ws)) (EP X pins σ Q) X.xe s := by
  have rv2 := bi.rel rv rw'
  have hlen : (ff us ws).length = ps.length := rv2.length ▸ F.cnt _ _ _ _ z
  exact wpAny_call (codeAny_mono (F.go X.A X.stack s H ⟨us, ks.zip ws⟩ _ _ Q E hG room I.env0 (bi.to s us ws I.kIn hlen) rv2 z) fun r s' y => by
    have := endG pas I y
    revert this
    cases r with
    | error _ => exact id
    | ok fl => cases fl <;> exact id)

/-- f(e, .., k = v, ..) -/
theorem pe_callKG (F : FnG X.prog X.w X.K X.mg X.base CX n g fd ps sp) (hG : X.A.guards = some []) (room : Room n X.A) (gx : Gl X x) (at' : X.mg x = some (.ref g)) (kp : PySem.W.keepIn X.K (.ref g) = true)
    (bi : KBinds X.K fd ps ks ff fV) (pas : Passes CX X E) (ha : PA X (e :: es) t) (hkw : PK X kws tk) (hdb : (x == ("__debug__" : Str)) = false := by decide)
    (all' : (backToKw pos (keywordEach kws X.env)).all (·.1.isSome) = true := by rfl) (nms : (backToKw pos (keywordEach kws X.env)).filterMap (·.1) = ks := by rfl)
    (he : starEach (e :: es) X.env = (false, eval e X.env) :: starEach es X.env := by rfl)
    (hpl : ((backTo pos (starEach (e :: es) X.env)).any (·.1) || (backToKw pos (keywordEach kws X.env)).any (·.1.isNone)) = false := by rfl) :
    PE X (.Call (.Name x p) (e :: es) kws pos) (tCallK sp fV E t tk) := by
  subst nms
  exact ⟨fun pins s σ H Q I z => wpAny_Call_Name_kw (ld_glob I gx at'
    (PySem.W.callWith_KW (h₀ := X.base) I.ok.mod.kin kp all' (thn (ha.run pos pins s σ H _ I z) fun us s1 ⟨vs, H1, I1, r, q⟩ =>
      thn (hkw.run pos pins s1 σ H1 _ I1 q) fun ws s2 ⟨zs, H2, I2, rz, q2⟩ => ⟨I2.kIn, goGK F hG room bi pas I2 r rz q2⟩) hpl he) hdb)⟩
/-- f(k = v, ..) -/
theorem pe_callKG0 (F : FnG X.prog X.w X.K X.mg X.base CX n g fd ps sp) (hG : X.A.guards = some []) (room : Room n X.A) (gx : Gl X x) (at' : X.mg x = some (.ref g)) (kp : PySem.W.keepIn X.K (.ref g) = true)
    (bi : KBinds X.K fd ps ks ff fV) (pas : Passes CX X E) (hkw : PK X kws tk) (hdb : (x == ("__debug__" : Str)) = false := by decide)
    (all' : (backToKw pos (keywordEach kws X.env)).all (·.1.isSome) = true := by rfl) (nms : (backToKw pos (keywordEach kws X.env)).filterMap (·.1) = ks := by rfl)
    (hpl : ((backTo pos (starEach [] X.env)).any (·.1) || (backToKw pos (keywordEach kws X.env)).any (·.1.isNone)) = false := by rfl) :
    PE X (.Call (.Name x p) [] kws pos) (tCallK sp fV E tNil tk) := by
  subst nms
  exact ⟨fun pins s σ H Q I z => wpAny_Call_Name_kw (ld_glob I gx at'
    (PySem.W.callWith_KW0 (h₀ := X.base) I.ok.mod.kin kp all' (thn (hkw.run pos pins s σ H _ I z) fun ws s2 ⟨zs, H2, I2, rz, q2⟩ => ⟨I2.kIn, goGK F hG room bi pas I2 .nil rz q2⟩) hpl) hdb)⟩
end

/-- a def of the text by its body, the guards known -/
theorem fnG_of {P : Program} {w : World} {K : PySem.W.Frag} {mg : Str → Option Value} {B : Heap} {CX : CXT} {n : Nat} {g : Addr} {nm qual : Str} {pars : Arguments} {bd : List Stmt} {sc : Scope} {dV kV doc pm cdv ct oc : Value} {an od : Option Addr}
    {osl : Array (Option Value)} {N ps : List Str} {sp : Sp} (lk : K.lookup g = some ⟨oc, od, .func (PySem.W.fnOf nm qual pars bd sc dV kV doc pm an cdv ct), osl⟩) (hcd : PySem.W.codeIn K cdv qual = true) (S : FnScope N ps sc)
    (cnt : ∀ vs H Q E, sp vs H Q E → vs.length = ps.length)
    (body : ∀ (A : Around) (ou : List Env) (t : Shared) (H : Hp) (vs : List V) (Q : VK) (E : XK), A.guards = some [] → Room n (A.deeper (envOfC qual sc t.heap.objs.size g cdv)) → sp vs H Q E →
      ∃ r, PSs (cxOf CX P w K mg B N qual sc g cdv A ou t H E) bd r ∧ r { nx := fun _ H' => Q .non H', rt := Q } (L2.start N vs) H) :
    FnG P w K mg B CX (n + 1) g (PySem.W.fnOf nm qual pars bd sc dV kV doc pm an cdv ct) ps sp where
  cnt := cnt
  go A ou t H ar us vs Q E hG room env bi rv z := by
    have kin := env.mod.kin.keeps fun b o e => (env.bs b o e).1
    have lim := env.mod.nolimit.keeps fun b o e => (env.bs b o e).1
    have kinds : ∀ y ∈ ps.zip us, sc.names.lookup y.1 = some .local ∨ (sc.names.lookup y.1 = some .cell ∧ ((cellsFrom (t.heap.objs.size + 1) sc.names []).lookup y.1).isSome = true) := fun y hy =>
      (S.par y.1 (List.of_mem_zip (a := y.1) (b := y.2) hy).1).imp id fun q => ⟨q, PySem.W.cellsFrom_some _ _ _ (.inl q)⟩
    refine codeAny_call_function room.depth (kin _ _ lk) rfl S.co S.gen rfl (PySem.W.codeRec_of kin hcd) (bi _ _ _ _ (wpAny_newFunctionEnv_cells S.kind kinds fun env' he t1 x => ?_))
    subst he
    obtain ⟨r, hr, hq⟩ := body A ou t H vs Q E hG (room.deeper _) z
    refine ⟨lim.keeps x.toInCall.keep, codeAny_func (wpAny_mono (hr.run [] t1 (L2.start N vs) H _ (inv_start S room.hd env (cnt _ _ _ _ z) rv x) hq) (fun fl t' y => ?_) fun e t' y => y)⟩
    match fl, y with
    | .ret u, ⟨v, σ', H', J, ru, q⟩ => exact ⟨v, H', J.os, J.bare, J.base, J.hok, ru, q⟩
    | .next, ⟨σ', H', J, q⟩ => exact ⟨V.non, H', J.os, J.bare, J.base, J.hok, rfl, q⟩
    | .brk, ⟨_, _, _, q⟩ => exact q.elim
    | .cont, ⟨_, _, _, q⟩ => exact q.elim

/-- the law's call at the claim's caller, over an abstract heap that tracks the script at most -/
theorem lawG0 {P : Program} {w : World} {K : PySem.W.Frag} {mg mb : Str → Option Value} {CX : CXT} {n : Nat} {fa a : Addr} {fd : FuncData} {x : Str} {sp : Sp} {t : Shared} {vs : List Value} {H : Hp}
    (kin : K.In t.heap) (hm : t.heap.Ns mainGlobals mg) (hb : t.heap.Ns builtinsNs mb) (hbb : ∀ y : Str, y ≠ "__name__" → mb y = bootBuiltins y) (lim : t.heap.NoLimit) (gens : t.gens = #[])
    (ha : t.heap.get? a = some { cls := .type "list", data := .seq vs.toArray }) (room : Room n callerA)
    (F : ∀ B : Heap, K.In B → B.Ns mainGlobals mg → FnG P w K mg B CX n fa fd [x] sp) (bi : ∀ (s : Shared) (u : Value), BindsTo s fd ⟨[u], []⟩ [(x, u)])
    (z : sp [.ref a] H (fun v _ => v = .bl true) fun _ _ _ => False) (noX : ∀ H e s', CX [] H t (fun _ _ _ => False) e s' → False)
    (only : Only H) (hok : HOk P w H t.heap) (hA : ∀ b, H b ≠ none → b = a) (hK : H a ≠ none → K.lookup a = none) :
    codeAny (model P w) callerA (.call (.ref fa) ⟨[.ref a], []⟩) (fun r s' => r = .ok (.ret (.bool true)) ∧ OldK t.heap s'.heap ∧ s'.os = t.os ∧ AllBare s'.gens) t := by
  have free : ∀ {b : Addr}, b ≠ a → H b = none := fun {b} hne => Classical.byContradiction fun q => hne (hA b q)
  have low : ∀ {b : Addr} {o : Obj}, t.heap.get? b = some o → H b = none → (hidT t.heap H).get? b = some o := fun e q => hidT_get e q
  have dict : ∀ {b : Addr} {o : Obj} {es : Array DictEntry} {ep : Nat}, t.heap.get? b = some o → o.data = .dict es ep → H b = none := fun {b o es ep} e d => free fun q => by
    subst q
    rw [ha] at e
    cases e
    exact nomatch (show Data.seq vs.toArray _ = Data.dict es ep from d)
  have ns : ∀ {b : Addr} {m : Str → Option Value}, t.heap.Ns b m → (hidT t.heap H).Ns b m := fun ⟨o, es, ep, e, d, r⟩ => ⟨o, es, ep, low e (dict e d), d, r⟩
  have kb : K.In (hidT t.heap H) := fun b o e => low (kin b o e) (by
    by_cases q : b = a
    · subst q
      exact Classical.byContradiction fun y => by rw [hK y] at e; cases e
    · exact free q)
  obtain ⟨mc, l1, l2⟩ := lim
  have env : Env0 P w K mg (hidT t.heap H) callerA [] t H :=
    { frames := rfl, mod := ⟨kb, ns hm, ⟨mb, ns hb, hbb⟩, ⟨mc, ns l1, l2⟩⟩, bs := fun b o e => of_hidT e, bsz := Nat.le_of_eq (hidT_size _ _), funs := trivial,
      frf := fun b q => absurd (show b ∈ ([] : List Addr) from q) (by simp), hok := hok, bare := .of_eq gens }
  refine codeAny_mono ((F _ kb (ns hm)).go callerA [] t H ⟨[.ref a], []⟩ [.ref a] [.ref a] _ _ rfl room env (bi t (.ref a)) (.cons rfl .nil) z) fun r s' y => ?_
  match r, y with
  | .error e, y => exact (noX H e s' y).elim
  | .ok (.ret u), ⟨v, H', os, bare, un, hok', ru, q⟩ =>
    cases (show v = .bl true from q)
    cases (show u = Value.bool true from ru)
    refine ⟨rfl, OldK.of_keep fun b o e => ?_, os, bare⟩
    match hq : H b with
    | none => exact un.keep b o e hq (by intro q; exact absurd (show b ∈ ([] : List Addr) from q) (by simp)) (by simp)
    | some u =>
      rcases only b with q | ⟨ob, xs, q⟩
      · rw [hq] at q; cases q
      · obtain ⟨e1, _⟩ := hok b _ q
        obtain ⟨e2, _⟩ := hok' b _ (un.frzs b ob _ q)
        rw [e] at e1; cases e1
        exact e2

theorem lawG {P : Program} {w : World} {K : PySem.W.Frag} {mg mb : Str → Option Value} {CX : CXT} {n : Nat} {fa a : Addr} {fd : FuncData} {x : Str} {sp : Sp} {t : Shared} {vs : List Value} {ns : List Int}
    (kin : K.In t.heap) (hm : t.heap.Ns mainGlobals mg) (hb : t.heap.Ns builtinsNs mb) (hbb : ∀ y : Str, y ≠ "__name__" → mb y = bootBuiltins y) (lim : t.heap.NoLimit) (gens : t.gens = #[])
    (ha : t.heap.get? a = some { cls := .type "list", data := .seq vs.toArray }) (hi : IntsAre vs ns) (hl : ns.length ≤ sizeLine) (room : Room n callerA)
    (F : ∀ B : Heap, K.In B → B.Ns mainGlobals mg → FnG P w K mg B CX n fa fd [x] sp) (bi : ∀ (s : Shared) (u : Value), BindsTo s fd ⟨[u], []⟩ [(x, u)])
    (z : ∀ H : Hp, Only H → SqL K H a (ns.map V.int) → sp [.ref a] H (fun v _ => v = .bl true) fun _ _ _ => False) (noX : ∀ H e s', CX [] H t (fun _ _ _ => False) e s' → False) :
    codeAny (model P w) callerA (.call (.ref fa) ⟨[.ref a], []⟩) (fun r s' => r = .ok (.ret (.bool true)) ∧ OldK t.heap s'.heap ∧ s'.os = t.os ∧ AllBare s'.gens) t := by
  have rv := vals_ints hi
  match hk : K.lookup a with
  | some o =>
    have e := kin a o hk
    rw [ha] at e
    cases e
    have on : Only fun _ => none := fun _ => .inl rfl
    exact lawG0 kin hm hb hbb lim gens ha room F bi (z _ on (.inr ⟨_, vs.toArray, _, hk, rfl, rfl, rfl, by rw [List.size_toArray, hi.length]; exact hl, by simpa using rv⟩)) noX on
      (fun b u q => nomatch (show (none : Option HO) = some u from q)) (fun b q => absurd rfl q) fun q => absurd rfl q
  | none =>
    have at0 : ∀ {b : Addr}, b ≠ a → (if b = a then some (HO.frz { cls := .type "list", data := .seq vs.toArray } (.lst (ns.map V.int))) else none) = none := fun q => if_neg q
    have on : Only fun b => if b = a then some (HO.frz { cls := .type "list", data := .seq vs.toArray } (.lst (ns.map V.int))) else none := fun b => by
      by_cases q : b = a
      · exact .inr ⟨_, _, if_pos q⟩
      · exact .inl (if_neg q)
    refine lawG0 kin hm hb hbb lim gens ha room F bi (z _ on (.inl (.inr ⟨_, if_pos rfl⟩))) noX on (fun b u q => ?_) (fun b q => Classical.byContradiction fun y => q (if_neg y)) fun _ => hk
    by_cases y : b = a
    · subst y
      cases (if_pos rfl).symm.trans q
      exact ⟨ha, by rw [List.length_map]; exact hl, vs, _, rv, ha⟩
    · cases (at0 y).symm.trans q

/-- the goal that the head leaves, from the law's promise -/
theorem walkG {l : PySem.W.OpenLaw} {m n : Nat} {q : Program} {loose : List Str} {XP : (Str → Option Value) → Heap → Prop} {YP : World → Heap → Prop} {d : DefRec} {K : Params → PySem.W.Frag} {CX : CXT} {sp : PySem.W.Frag → Sp} {x : Str}
    (hn : l.most = some m) (hm : m ≤ sizeLine) (hdf : d.params.defaults = []) (room : Room n callerA) (hY : ∀ (w : World) (h : Heap), YP w h → (K w.params).In h)
    (F : ∀ (w : World) (mg : Str → Option Value) (fa : Addr) (h : Heap), (K w.params).In h → h.Ns mainGlobals mg → mg d.name = some (.ref fa) →
      ∃ fd : FuncData, (∀ (s : Shared) (u : Value), BindsTo s fd ⟨[u], []⟩ [(x, u)]) ∧
        ∀ B : Heap, (K w.params).In B → B.Ns mainGlobals mg → FnG l.prog w (K w.params) mg B CX n fa fd [x] (sp (K w.params)))
    (z : ∀ (K : PySem.W.Frag) (H : Hp) (a : Addr) (ns : List Int), ns.length ≤ m → Only H → SqL K H a (ns.map V.int) → sp K [.ref a] H (fun v _ => v = .bl true) fun _ _ _ => False)
    (noX : ∀ (H : Hp) (s : Shared) (e : Value) (s' : Shared), CX [] H s (fun _ _ _ => False) e s' → False) : PySem.W.WalkO q loose XP YP l.row.toRowW d [] (fun f vs => PySem.call f vs) :=
  Att.attach_call hn hdf fun w s0 s1 mg mb fa o pm cd doc a vs ns G Y ho hd hcd hmg hobj hints hlen hg =>
    have ⟨fd, hb, hF⟩ := F w mg fa _ (hY w _ Y) G.T.g hmg
    lawG (hY w _ Y) G.T.g G.T.b G.T.builtins G.T.nolimit hg hobj hints (Nat.le_trans hlen hm) room hF hb (fun H hO hS => z (K w.params) H a ns hlen hO hS) fun H e s' => noX H s1 e s'
end Xk

set_option Elab.async false
set_option linter.all false
set_option maxRecDepth 100000
namespace Xk
open PySem PySem.Spec PyProof.Rows L2

/-- ** with a whole exponent: base's bits times exponent within 2^27 -/
def CPowW (i j : Int) : Prop := 0 ≤ j ∧ (Builtin.Int.intBits i : Int) * j ≤ 2 ^ 27
section
variable {X : Cx}
theorem op_powW : OpR X (binaryOp .Pow) (rI CPowW fun i j => .int (i ^ j.toNat)) := opI fun _ _ _ _ _ _ _ hc q => pow_int hc.1 hc.2 q
end
theorem bits_le {i : Int} {n : Nat} (h : i.natAbs < 2 ^ n) : Builtin.Int.intBits i ≤ n := by
  unfold Builtin.Int.intBits
  split
  · omega
  · rename_i h0
    have h0' : i.natAbs ≠ 0 := by
      intro z
      apply h0
      simp [Int.natAbs_eq_zero.mp z]
    have := (Nat.log2_lt h0').mpr h
    omega
theorem powW {i : Int} {n : Nat} {j : Int} (h : i.natAbs < 2 ^ n) (h0 : 0 ≤ j) (hj : j ≤ 3) (hn : n ≤ 40000000) : CPowW i j := by
  refine ⟨h0, ?_⟩
  have h1 := bits_le h
  have : (Builtin.Int.intBits i : Int) * j ≤ 40000000 * 3 := by
    refine Int.mul_le_mul ?_ hj h0 (by omega)
    omega
  refine Int.le_trans this (by decide)

/-! ### xs[i] read for op= -/
section
variable {X : Cx}
theorem get_list : PGet X (rIxL X.K) := by
  intro pins s σ H o i ov iv Q I ro ri h
  obtain ⟨p, xs, k, z, rfl, rfl, hq, he, q⟩ := h
  cases ro
  obtain ⟨t, rfl⟩ := ri
  obtain ⟨its, r, pl, hz⟩ := I.list hq
  obtain ⟨j, h1, h2, h3, h4, h5⟩ := atI_get he
  obtain ⟨u, eu, ru⟩ := r.get h2
  have hl := r.length
  have hn := line63
  by_cases h0 : 0 ≤ k
  · have hj : k.toNat = j := by
      rw [seqIndex_of h0 h5] at h1
      exact Option.some.inj h1
    exact wpAny_getItem_list pl.isList h0 (by omega) (by rw [hj]; simpa using eu) ⟨z, H, I, ru, q⟩
  · have hj : (k + (its.toArray.size : Int)).toNat = j := by
      rw [seqIndex_neg (by omega) h4] at h1
      rw [List.size_toArray, ← hl]
      exact Option.some.inj h1
    exact wpAny_getItem_list_neg pl.isList (by omega) (by rw [List.size_toArray] <;> omega) (by omega) (by rw [hj]; simpa using eu) ⟨z, H, I, ru, q⟩
end

/-! ### xs[a:c] = ys -/
section
variable {X : Cx} {o : Expr} {lo hi : Option Expr} {to : TE} {tl th : TO} {p2 pos : Pos}
def gSlc (to : TE) (tl th : TO) : TG := fun v σ H Q => to σ H fun x H1 => tl σ H1 fun l H2 => th σ H2 fun u H3 =>
  ∃ (p b : Addr) (xs ys : List V) (a c : Int), x = .ref p ∧ v = .ref b ∧ l = some a ∧ u = some c ∧ H3 p = some (.lst xs) ∧ H3 b = some (.lst ys) ∧ p ≠ b ∧ 0 ≤ a ∧ a ≤ c ∧ c ≤ xs.length ∧ xs.length + ys.length ≤ sizeLine ∧
    Q σ (upd H3 p (.lst (xs.take a.toNat ++ ys ++ xs.drop c.toNat)))
theorem pg_slc (ho : PE X o to) (hl : PO X lo tl) (hu : PO X hi th) : PG X (.Subscript o (.Slice lo hi none p2) pos) (gSlc to tl th) := by
  refine ⟨fun pins s σ H v u Q I r z => ?_⟩
  rw [arm_assign_Subscript]
  refine wpAny_bind (wpAny_holding (thn (ho.run pins s σ H _ I z) fun ov s1 ⟨x, H1, I1, r1, q1⟩ => ?_))
  refine wpAny_bind (wpAny_holding (wpAny_Slice (thn (hl.run pins s1 σ H1 _ I1 q1) fun vl s2 ⟨l, H2, I2, pl, q2⟩ => thn (hu.run pins s2 σ H2 _ I2 q2) fun vu s3 ⟨c', H3, I3, pu, q3⟩ => ?_)))
  rw [evalPart_none]
  refine wpAny_pure ?_
  obtain ⟨p, b, xs, ys, a, c, rfl, rfl, rfl, rfl, hp, hb, hne, h0, hac, hc, hz, q⟩ := q3
  cases r1
  cases r
  cases pl with
  | int _ ta =>
    cases pu with
    | int _ tc =>
      have I4 : Inv X pins σ H3 { s3 with heap := s3.heap.push { cls := .type "slice", data := .fields #[.int a ta, .int c tc, .none] } } := I3.kept (t' := s3.toks) fun b ob q => Heap.get?_push_of_some _ q
      refine wpAny_bind (wpAny_standAt (wpAny_bind (wpAny_holding (set_slice I4 hp hb hne (Heap.IsSliceOf.new ..) ⟨ta, rfl⟩ ⟨tc, rfl⟩ h0 hac hc hz fun s' I5 => ?_))))
      exact wpAny_release ⟨σ, _, I5, q⟩
end

/-! ### repr of lists -/
section
variable {X : Cx}
mutual
theorem dp_nodict {K : PySem.W.Frag} {H : Hp} : ∀ (d : PyData) (v : V), Dp K H v d → d.hasDict = false
  | .none, _, _ => rfl
  | .bool _, _, _ => rfl
  | .int _, _, _ => rfl
  | .str _, _, _ => rfl
  | .list ds, _, h => by
    cases h with
    | lst _ a => exact dp_nodictAll ds _ a
  | .tuple ds, _, h => by
    cases h with
    | tup _ a => exact dp_nodictAll ds _ a
  | .dict _, _, h => by cases h
theorem dp_nodictAll {K : PySem.W.Frag} {H : Hp} : ∀ (ds : List PyData) (vs : List V), DpAll K H vs ds → PyData.hasDictAll ds = false
  | [], _, _ => rfl
  | d :: ds, _, h => by
    cases h with
    | cons a b =>
      show (d.hasDict || PyData.hasDictAll ds) = false
      rw [dp_nodict d _ a, dp_nodictAll ds _ b]
      rfl
end
def rReprD (K : PySem.W.Frag) : List V → Hp → VK → Prop := fun xs H Q => ∃ a d, xs = [.ref a] ∧ Dp K H (.ref a) d ∧ d.showable = true ∧ d.depth ≤ 60 ∧ d.shown.length ≤ sizeLine ∧ Q (.str d.shown) H
theorem call_reprD (hG : X.A.guards = some []) (hu : X.A.units + 64 < cLine) : CallR X (.builtin "repr") (rReprD X.K) := by
  intro pins s σ H xs us Q I r h
  obtain ⟨a, d, rfl, hd, hs, hdp, hz, q⟩ := h
  obtain ⟨u, rfl, rfl⟩ := vals1 r
  obtain ⟨as, rd⟩ := Dp.reads I d _ _ hd rfl
  exact repr_of_reads' rd hs (fun z => by rw [dp_nodict d _ hd] at z; cases z) hG (by omega) (fun b o e => e) (fun h' u tk k => ⟨.str d.shown, H, I.kept k, ⟨u, rfl⟩, q⟩) hz
end
end Xk

set_option Elab.async false
set_option linter.all false
set_option maxRecDepth 100000
namespace Xk
open PySem PySem.Spec PyProof.Rows L2
/-! ### list(range(a, b, c)) -/
def rg3V (i c : Int) (n : Nat) : List V := (List.range n).map fun k => V.int (i + (k : Nat) * c)
theorem rg3V_length (i c : Int) (n : Nat) : (rg3V i c n).length = n := by unfold rg3V; simp
theorem vals_rg3 {i c : Int} {n : Nat} {acc : Array Value} (h : ItemsOf (fun k v => ∃ t, v = .int (i + k * c) t) acc n) : Vals (rg3V i c n) acc.toList := by
  have e : acc.toList.length = n := by rw [Array.length_toList]; exact h.1
  unfold rg3V
  rw [← e]
  refine vals_of_get _ (fun k => V.int (i + (k : Nat) * c)) fun j u hu => ?_
  exact h.2 j u (by simpa using hu)
def tLst3 (ta : TA) : TE := fun σ H Q => ta σ H fun vs H1 => ∃ (i j c : Int) (n : Nat), vs = [.int i, .int j, .int c] ∧ RgC i j c n ∧ n ≤ 2 ^ 24 ∧ ∀ q, H1 q = none → Q (.ref q) (upd H1 q (.lst (rg3V i c n)))
section
variable {X : Cx} {a b c : Expr} {ta : TA} {p pos p1 pos1 : Pos}
theorem pe_listRg3 (calm : X.calm = true) (hl : Gl X "list") (ml : X.mg "list" = none) (hg : Gl X "range") (hm : X.mg "range" = none) (ha : PA X [a, b, c] ta)
    (hs : starEach [a, b, c] X.env = (false, eval a X.env) :: starEach [b, c] X.env := by rfl) (hpl : (backTo pos (starEach [b, c] X.env)).any (·.1) = false := by rfl)
    (na : starEach [Expr.Call (.Name "range" p) [a, b, c] [] pos] X.env = (false, eval (Expr.Call (.Name "range" p) [a, b, c] [] pos) X.env) :: starEach [] X.env := by rfl) :
    PE X (.Call (.Name "list" p1) [.Call (.Name "range" p) [a, b, c] [] pos] [] pos1) (tLst3 ta) := by
  refine ⟨fun pins s σ H Q I z => ?_⟩
  refine Call_ (ld_blt I hl ml boot_list (PyProof.Rows.callWith_type1 (args_cons (Call_ (ld_blt I hg hm boot_range (PyProof.Rows.callWith_type1 (thn (ha.run pos pins s σ H _ I z) fun us s1 ⟨vs, H1, I1, r1, q1⟩ => ?_) hs hpl))) na) na))
  obtain ⟨i, j, k, n, e, ⟨c0, c1, c2, c3⟩, hn, q⟩ := q1
  subst e
  cases r1 with
  | cons r rr =>
    cases rr with
    | cons r' rr =>
      cases rr with
      | cons r'' rr =>
        cases rr
        obtain ⟨t, rfl⟩ := r
        obtain ⟨t', rfl⟩ := r'
        obtain ⟨t'', rfl⟩ := r''
        refine call_range_3 c0 (args_nil ?_) (.inl (PyProof.noPylong_small c1))
        have I2 : Inv X pins σ H1 { s1 with heap := s1.heap.push { cls := .type "range", data := .fields #[.int i t, .int j t', .int k t''] }, toks := s1.toks } := I1.kept fun b o e => Heap.get?_push_of_some _ e
        refine call_list_range (n := n) (I2.ok.hd calm) (IsRange.new ..) c2 c3 hn fun h' tk acc c' hk e' hi => ?_
        refine ⟨.ref _, upd H1 _ (.lst (rg3V i k n)), I2.laid hk (Nat.le_refl _) (show ObjOk X.prog X.w _ _ _ (.lst (rg3V i k n)) from ⟨?_, acc.toList, c', vals_rg3 hi, ?_⟩), rfl, q _ (I2.hok.fresh (Nat.le_refl _))⟩
        · rw [rg3V_length]; exact hn
        · rw [Array.toArray_toList]; exact e'
end
end Xk

set_option Elab.async false
set_option linter.all false
set_option maxRecDepth 100000
namespace Xk
open PySem PySem.Spec PyProof.Rows L2

section
variable {P : Program} {w : World} {K : PySem.W.Frag} {mg : Str → Option Value} {base : Heap}
/-- a def by its body, the guards known, nothing raised -/
theorem okG {x qual : Str} {st : Stmt} {f : Addr} {fd : FuncData} {N ps : List Str} {k : Nat} {sp : Sp} (F : Fun K x qual st f fd) (S : FnScope N ps (defScope st)) (cnt : ∀ vs H Q E, sp vs H Q E → vs.length = ps.length)
    (body : ∀ (cdv : Value) (A : Around) (ou : List Env) (t : Shared) (H : Hp) (vs : List V) (Q : VK) (E : XK), A.guards = some [] → Room k (A.deeper (envOfC qual (defScope st) t.heap.objs.size f cdv)) → sp vs H Q E →
      ∃ r, PSs (cxOf CX0 P w K mg base N qual (defScope st) f cdv A ou t H E).nox (defBody st) r ∧ r ⟨fun _ H' => Q .non H', Q, fun _ _ => False, fun _ _ => False⟩ (L2.start N vs) H) : FnG P w K mg base CX0 (k + 1) f fd ps sp := by
  obtain ⟨oc, od, kV, doc, pm, an, cdv, ct, osl, rfl, lk, hcd⟩ := F.ex
  refine fnG_of lk hcd S cnt fun A ou t H vs Q E hG hr hsp => ?_
  obtain ⟨r, h, q⟩ := body cdv A ou t H vs Q E hG hr hsp
  exact ⟨r, h.nox, q⟩
end

/-! ### words -/
section
variable {X : Cx} {x : Str} {pos pos' : Pos} {e : Expr} {te : TE} {op : Operator} {ti : TIp}
theorem sset (i : Nat) (nd : X.N.Nodup) (he : PE X e te) (hi : X.N[i]? = some x := by rfl) (hx : Loc X.env.scope x := by first | exact Or.inl rfl | exact Or.inr rfl)
    (hs : swapsWith e (some (.Name x pos')) pos.line X.env = pure false := by rfl) (hf : X.fn x = true ∨ X.env.scope.names.lookup x = some .local := by first | exact Or.inl rfl | exact Or.inr rfl) : PS X (.Assign [.Name x pos'] e pos) (tAsg te (gName i)) := ps_set nd hi hx he hs hf
theorem gset (i : Nat) (nd : X.N.Nodup) (hi : X.N[i]? = some x := by rfl) (hx : Loc X.env.scope x := by first | exact Or.inl rfl | exact Or.inr rfl) (hf : X.fn x = true ∨ X.env.scope.names.lookup x = some .local := by first | exact Or.inl rfl | exact Or.inr rfl) : PG X (.Name x pos) (gName i) := pg_name nd hi hx hf
theorem saug (i : Nat) (nd : X.N.Nodup) (he : PE X e te) (ho : PIp X op ti) (hi : X.N[i]? = some x := by rfl) (hx : Loc X.env.scope x := by first | exact Or.inl rfl | exact Or.inr rfl) (hf : X.fn x = true ∨ X.env.scope.names.lookup x = some .local := by first | exact Or.inl rfl | exact Or.inr rfl) : PS X (.AugAssign (.Name x pos') op e pos) (tAug i te ti) := ps_aug nd hi hx he ho hf
end
/-! ### the rules that speak of the written part, the part given -/
section
variable {X : Cx} (K : PySem.W.Frag) {e a b l o : Expr} {es ts : List Expr} {te ta tb tl to : TE} {t : TA} {g : TGs} {pos cpos apos p p1 p2 p3 tpos : Pos} {tg : Expr} {T id : String} {name : Str}
theorem ix_listK (hK : X.K = K := by rfl) : IxR X (rIxL K) := hK ▸ ix_list
theorem ix_tupK (hK : X.K = K := by rfl) : IxR X (rIxT K) := hK ▸ ix_tup
theorem sl_listK (hK : X.K = K := by rfl) : SlR X (rSlL K) := hK ▸ sl_list
theorem sl_tupK (hK : X.K = K := by rfl) : SlR X (rSlT K) := hK ▸ sl_tup
def rLen (K : PySem.W.Frag) : List V → Hp → VK → Prop := fun xs H Q => ∃ p ys, xs = [.ref p] ∧ (SqL K H p ys ∨ SqT K H p ys) ∧ Q (.int ys.length) H
theorem lenK (hK : X.K = K := by rfl) : CallR X (.builtin "len") (rLen K) := hK ▸ call_len_seq
def rListOf (K : PySem.W.Frag) : List V → Hp → VK → Prop := fun xs H Q => ∃ p ys, xs = [.ref p] ∧ (SqL K H p ys ∨ SqT K H p ys) ∧ ∀ l, H l = none → Q (.ref l) (upd H l (.lst ys))
theorem listK (hK : X.K = K := by rfl) : CallR X (.type "list") (rListOf K) := hK ▸ call_list_of
def rTupOf (K : PySem.W.Frag) : List V → Hp → VK → Prop := fun xs H Q => ∃ p ys, xs = [.ref p] ∧ ((SqL K H p ys ∧ ∀ l, H l = none → Q (.ref l) (upd H l (.tup ys))) ∨ (SqT K H p ys ∧ Q (.ref p) H))
theorem tupleK (hK : X.K = K := by rfl) : CallR X (.type "tuple") (rTupOf K) := hK ▸ call_tuple_of
theorem sumK (hc : X.calm = true) (hK : X.K = K := by rfl) : CallR X (.builtin "sum") (rSum K) := hK ▸ cr_sum hc
theorem minK (hc : X.calm = true) (hK : X.K = K := by rfl) : CallR X (.builtin "min") (rMin K) := hK ▸ cr_min hc
theorem maxK (hc : X.calm = true) (hK : X.K = K := by rfl) : CallR X (.builtin "max") (rMax K) := hK ▸ cr_max hc
theorem allK (hc : X.calm = true) (hK : X.K = K := by rfl) : CallR X (.builtin "all") (rAll K) := hK ▸ cr_all hc
theorem anyK (hc : X.calm = true) (hK : X.K = K := by rfl) : CallR X (.builtin "any") (rAny K) := hK ▸ cr_any hc
theorem sortedK (hK : X.K = K := by rfl) : CallR X (.builtin "sorted") (rSortedI K) := hK ▸ cr_sortedI
theorem sortedRK (hK : X.K = K := by rfl) : CallRK X (.builtin "sorted") [Str.ofString "reverse"] (rSortedKw K true [.bl true]) := hK ▸ cr_sortedRev
theorem reprK (hG : X.A.guards = some []) (hu : X.A.units + 64 < cLine) (hK : X.K = K := by rfl) : CallR X (.builtin "repr") (rReprD K) := hK ▸ call_reprD hG hu
theorem eqDK (hu : X.A.units + 64 < cLine) (hK : X.K = K := by rfl) : OpR X (compareOp .Eq) (rEqD K) := hK ▸ op_eqD hu
theorem neDK (hu : X.A.units + 64 < cLine) (hK : X.K = K := by rfl) : OpR X (compareOp .NotEq) (rNeD K) := hK ▸ op_neD hu
theorem inK (hK : X.K = K := by rfl) : OpR X (compareOp .In) (rIn K false) := hK ▸ op_in_seq
theorem notInK (hK : X.K = K := by rfl) : OpR X (compareOp .NotIn) (rIn K true) := hK ▸ op_notIn_seq
theorem lcountK (hK : X.K = K := by rfl) : MtR X "list.count" (rCntI K) := hK ▸ mt_lcount
theorem lindexK (hK : X.K = K := by rfl) : MtR X "list.index" (rIndex K) := hK ▸ mt_index
theorem getK (hK : X.K = K := by rfl) : PGet X (rIxL K) := hK ▸ get_list
theorem pi_listK (h : PE X l tl) (hK : X.K = K := by rfl) : PI X tg l (iList K tl) := hK ▸ pi_list h
theorem pi_tupK (h : PE X l tl) (hK : X.K = K := by rfl) : PI X tg l (iTup K tl) := hK ▸ pi_tup h
theorem pi_enumK {elts : List Expr} {kk : Nat} (hg : Gl X "enumerate") (hm : X.mg "enumerate" = none) (ha : PA X [e] t) (hs : starEach [e] X.env = [(false, eval e X.env)] := by rfl) (hK : X.K = K := by rfl) :
    PI X (.Tuple elts kk tpos) (.Call (.Name "enumerate" p) [e] [] pos) (iEnum K t) := hK ▸ pi_enum hg hm ha hs
theorem pi_reversedK (hg : Gl X "reversed") (hm : X.mg "reversed" = none) (ha : PA X [e] t) (hs : starEach [e] X.env = [(false, eval e X.env)] := by rfl) (hK : X.K = K := by rfl) : PI X tg (.Call (.Name "reversed" p) [e] [] pos) (iRev K t) := hK ▸ pi_reversed hg hm ha hs
theorem pe_revLK {k : Nat} (he : PE X e te) (hK : X.K = K := by rfl) : PE X (.Subscript e (.Slice none none (some (.UnaryOp .USub (.Constant (.int 1) k p1) p2)) p3) pos) (tRevL K te) := hK ▸ pe_revL he
theorem pg_tupK {k : Nat} (n : Nat) (hc : X.calm = true) (h : PGs X es g) (hn : (assignEach es X.env).length = n := by rfl) (hst : (assignEach es X.env).findIdx? (·.1) = none := by rfl) (hK : X.K = K := by rfl) : PG X (.Tuple es k pos) (gTup K n g) := hK ▸ pg_tup hc h hn hst
theorem pi_zipK {e2 : Expr} {elts : List Expr} {kk : Nat} (hg : Gl X "zip") (hm : X.mg "zip" = none) (ha : PA X [e, e2] t)
    (hs : starEach [e, e2] X.env = (false, eval e X.env) :: starEach [e2] X.env := by rfl) (hpl : (backTo pos (starEach [e2] X.env)).any (·.1) = false := by rfl) (hK : X.K = K := by rfl) :
    PI X (.Tuple elts kk tpos) (.Call (.Name "zip" p) [e, e2] [] pos) (iZip K t) := hK ▸ pi_zip hg hm ha hs hpl
theorem pe_bmK {r : V → List V → Hp → VK → Prop} (pa : PlainAttrs T) (slot : Slot T name id) (hty : typeOf (.builtin id) = pure (.type "method_descriptor")) (hm : MtR X id r) (ho : PE X o to) (ha : PA X (e :: es) t)
    (hbase : attributeBase o name X.env (eval o X.env) = eval o X.env := by rfl)
    (hfew : ((backTo cpos (starEach (e :: es) X.env)).all (fun x => !x.1) && (backToKw cpos (keywordEach [] X.env)).all (fun x => x.1.isSome) && decide ((e :: es).length + ([] : List Keyword).length + (if ([] : List Keyword).isEmpty then 0 else 1) < 30)) = true := by rfl)
    (hline : (apos.endLine == cpos.line) = true := by rfl) (hs : starEach (e :: es) X.env = (false, eval e X.env) :: starEach es X.env := by rfl) (hplain : (backTo cpos (starEach es X.env)).any (·.1) = false := by rfl) (hK : X.K = K := by rfl) :
    PE X (.Call (.Attribute o name apos) (e :: es) [] cpos) (tBM K T r to t) := hK ▸ pe_bm pa slot hty hm ho ha hbase hfew hline hs hplain
theorem pe_bm0K {r : V → List V → Hp → VK → Prop} (pa : PlainAttrs T) (slot : Slot T name id) (hty : typeOf (.builtin id) = pure (.type "method_descriptor")) (hm : MtR X id r) (ho : PE X o to)
    (hbase : attributeBase o name X.env (eval o X.env) = eval o X.env := by rfl) (hline : (apos.endLine == cpos.line) = true := by rfl) (hK : X.K = K := by rfl) : PE X (.Call (.Attribute o name apos) [] [] cpos) (tBM0 K T r to) := hK ▸ pe_bm0 pa slot hty hm ho hbase hline
def tTruth (K : PySem.W.Frag) (ta : TE) : TT := fun σ H Q => ta σ H fun x H' => ∃ k, TruV K x H' k ∧ Q k H'
theorem pt_truthK (ha : PE X a ta) (he : ∀ whole, isTrue a X.env whole = (do let v ← whole; standAt a.pos; holding [v] (truthy v)) := by intro _; rfl) (hK : X.K = K := by rfl) : PT X a (tTruth K ta) := hK ▸ pt_truth ha he
end
end Xk

set_option Elab.async false
set_option linter.all false
set_option maxRecDepth 100000
namespace Xk
open PySem PySem.Spec PyProof.Rows L2

section
variable {K : PySem.W.Frag} {σ : L2.St} {H : Hp} {Q : VK} {R : List V → Hp → Prop} {ta tb te tc tv : TE} {tA : TA} {t u : TT} {v x y : V} {i j : Int} {Qb : Bool → Hp → Prop}
  {nx bk ct : L2.St → Hp → Prop} {rt : VK} {s1 s2 : TS} {g g1 : TG} {gs : TGs}
/-! ### expressions -/
theorem r_var {n : Nat} (h : σ[n]? = some (some v)) (q : Q v H) : tVar n σ H Q := ⟨v, h, q⟩
theorem r_c (q : Q v H) : tC v σ H Q := q
theorem r_op {r : R2} (h : ta σ H fun x H1 => tb σ H1 fun y H2 => r x y H2 Q) : tOp r ta tb σ H Q := h
theorem r_un {r : V → Hp → VK → Prop} (h : ta σ H fun x H1 => r x H1 Q) : tUn r ta σ H Q := h
theorem r_I0 {f : Int → Int → V} (q : Q (f i j) H) : rI0 f (.int i) (.int j) H Q := ⟨i, j, rfl, rfl, q⟩
theorem r_I {C : Int → Int → Prop} {f : Int → Int → V} (hc : C i j) (q : Q (f i j) H) : rI C f (.int i) (.int j) H Q := ⟨i, j, rfl, rfl, hc, q⟩
theorem r_U {f : Int → V} (q : Q (f i) H) : rU f (.int i) H Q := ⟨i, rfl, q⟩
theorem r_ixL {p : Addr} {xs : List V} (h : SqL K H p xs) (ha : atI xs i = some v) (q : Q v H) : rIxL K (.ref p) (.int i) H Q := ⟨p, xs, i, v, rfl, rfl, h, ha, q⟩
theorem r_ixT {p : Addr} {xs : List V} (h : SqT K H p xs) (ha : atI xs i = some v) (q : Q v H) : rIxT K (.ref p) (.int i) H Q := ⟨p, xs, i, v, rfl, rfl, h, ha, q⟩
theorem r_nil (q : R [] H) : tNil σ H R := q
theorem r_cons (h : ta σ H fun x H1 => tA σ H1 fun xs H2 => R (x :: xs) H2) : tCons ta tA σ H R := h
theorem r_lst (h : tA σ H fun xs H1 => xs.length ≤ sizeLine ∧ ∀ p, H1 p = none → Q (.ref p) (upd H1 p (.lst xs))) : tLst tA σ H Q := h
theorem r_tup (h : tA σ H fun xs H1 => xs.length ≤ sizeLine ∧ ∀ p, H1 p = none → Q (.ref p) (upd H1 p (.tup xs))) : tTup tA σ H Q := h
theorem r_call {sp : Sp} {dvs : List V} {E : XK} (h : tA σ H fun vs H1 => sp (vs ++ dvs) H1 Q E) : tCall sp dvs E tA σ H Q := h
theorem r_callK {sp : Sp} {gV : List V → List V → List V} {E : XK} {tk : TA} (h : tA σ H fun vs H1 => tk σ H1 fun zs H2 => sp (gV vs zs) H2 Q E) : tCallK sp gV E tA tk σ H Q := h
theorem r_cb {r : List V → Hp → VK → Prop} (h : tA σ H fun vs H1 => r vs H1 Q) : tCB r tA σ H Q := h
theorem r_ckw {r : List V → List V → Hp → VK → Prop} {tk : TA} (h : tA σ H fun vs H1 => tk σ H1 fun zs H2 => r vs zs H2 Q) : tCKw r tA tk σ H Q := h
theorem r_sl {r : V → Option Int → Option Int → Hp → VK → Prop} {tl th : TO} (h : te σ H fun x H1 => tl σ H1 fun l H2 => th σ H2 fun u H3 => r x l u H3 Q) : tSl r te tl th σ H Q := h
theorem r_part {Qo : Option Int → Hp → Prop} (h : te σ H fun x H1 => ∃ i, x = .int i ∧ Qo (some i) H1) : tPart te σ H Qo := h
theorem r_nopart {Qo : Option Int → Hp → Prop} (h : Qo none H) : tNoPart σ H Qo := h
theorem r_exi {Qo : Int → Prop} (h : Qo i) : ∃ j, V.int i = .int j ∧ Qo j := ⟨i, rfl, h⟩
theorem r_exb {b : Bool} {Qo : Bool → Prop} (h : Qo b) : ∃ j, V.bl b = .bl j ∧ Qo j := ⟨b, rfl, h⟩
theorem r_slL {p : Addr} {xs : List V} {lo hi : Option Int} (h : SqL K H p xs) (q : ∀ n, H n = none → Q (.ref n) (upd H n (.lst (cutV xs lo hi)))) : rSlL K (.ref p) lo hi H Q := ⟨p, xs, rfl, h, q⟩
theorem r_bm {T : String} {r : V → List V → Hp → VK → Prop} (h : te σ H fun x H1 => tyV K T x H1 ∧ tA σ H1 fun xs H2 => r x xs H2 Q) : tBM K T r te tA σ H Q := h
theorem r_bm0 {T : String} {r : V → List V → Hp → VK → Prop} (h : te σ H fun x H1 => tyV K T x H1 ∧ r x [] H1 Q) : tBM0 K T r te σ H Q := h
theorem ty_list {p : Addr} {xs : List V} (h : SqL K H p xs) : tyV K "list" (.ref p) H := .inl ⟨rfl, xs, h⟩
theorem r_append {p : Addr} {xs : List V} {y : V} (h : H p = some (.lst xs)) (hz : xs.length < sizeLine) (q : Q .non (upd H p (.lst (xs ++ [y])))) : rAppend (.ref p) [y] H Q := ⟨p, xs, y, rfl, rfl, h, hz, q⟩
theorem r_if {tif : TT} (h : tif σ H fun c H1 => if c = true then ta σ H1 Q else tb σ H1 Q) : tIf tif ta tb σ H Q := h
theorem r_andV (h : ta σ H fun x H1 => ∃ c, x = .bl c ∧ if c = true then tb σ H1 Q else Q (.bl false) H1) : tAndV ta tb σ H Q := h
theorem r_orV (h : ta σ H fun x H1 => ∃ c, x = .bl c ∧ if c = true then Q (.bl true) H1 else tb σ H1 Q) : tOrV ta tb σ H Q := h
theorem r_notV (h : ta σ H fun x H1 => ∃ c, x = .bl c ∧ Q (.bl (!c)) H1) : tNotV ta σ H Q := h
theorem r_eqI (q : Q (.bl (decide (i = j))) H) : rEq (.int i) (.int j) H Q := by
  refine ⟨rfl, ?_⟩
  have : decide (V.int i = V.int j) = decide (i = j) := by simp
  rw [this]
  exact q
theorem r_neI (q : Q (.bl (!decide (i = j))) H) : rNe (.int i) (.int j) H Q := by
  refine ⟨rfl, ?_⟩
  have : decide (V.int i = V.int j) = decide (i = j) := by simp
  rw [this]
  exact q
theorem r_eqS {a b : Str} (q : Q (.bl (decide (a = b))) H) : rEq (.str a) (.str b) H Q := by
  refine ⟨rfl, ?_⟩
  have : decide (V.str a = V.str b) = decide (a = b) := by simp
  rw [this]
  exact q
theorem r_neS {a b : Str} (q : Q (.bl (!decide (a = b))) H) : rNe (.str a) (.str b) H Q := by
  refine ⟨rfl, ?_⟩
  have : decide (V.str a = V.str b) = decide (a = b) := by simp
  rw [this]
  exact q
theorem r_len {p : Addr} {xs : List V} (h : SqL K H p xs) (q : Q (.int xs.length) H) : Xk.rLen K [.ref p] H Q := ⟨p, xs, rfl, .inl h, q⟩
theorem r_listOf {p : Addr} {xs : List V} (h : SqL K H p xs) (q : ∀ l, H l = none → Q (.ref l) (upd H l (.lst xs))) : rListOf K [.ref p] H Q := ⟨p, xs, rfl, .inl h, q⟩
theorem r_sum {p : Addr} {ns : List Int} (h : SqL K H p (ns.map V.int)) (q : Q (.int ns.sum) H) : rSum K [.ref p] H Q := ⟨p, ns, rfl, h, q⟩
theorem r_notT {A B : Prop} (h : B) : if (!true) = true then A else B := by simpa using h
theorem r_notF {A B : Prop} (h : A) : if (!false) = true then A else B := by simpa using h
/-! ### tests -/
theorem r_test (h : te σ H fun x H' => ∃ k, x = .bl k ∧ Qb k H') : tTest te σ H Qb := h
theorem r_tB (h : te σ H fun x H' => ∃ k, x = .bl k ∧ Qb k H') : tB te σ H Qb := h
theorem r_tand (h : t σ H fun c H1 => if c = true then u σ H1 Qb else Qb false H1) : tAnd t u σ H Qb := h
theorem r_tor (h : t σ H fun c H1 => if c = true then Qb true H1 else u σ H1 Qb) : tOr t u σ H Qb := h
theorem r_tnot (h : t σ H fun c H1 => Qb (!c) H1) : tNot t σ H Qb := h
theorem r_yes (h : Qb true H) : tYes σ H Qb := h
theorem r_dec {p : Prop} [Decidable p] {A B : Prop} (h1 : p → A) (h2 : ¬p → B) : if decide p = true then A else B := by
  by_cases h : p
  · rw [decide_eq_true h]; exact h1 h
  · rw [decide_eq_false h]; exact h2 h
theorem r_ndec {p : Prop} [Decidable p] {A B : Prop} (h1 : ¬p → A) (h2 : p → B) : if (!decide p) = true then A else B := by
  by_cases h : p
  · rw [decide_eq_true h]; exact h2 h
  · rw [decide_eq_false h]; exact h1 h
theorem r_itT {A B : Prop} (h : A) : if true = true then A else B := by rw [if_pos rfl]; exact h
theorem r_itF {A B : Prop} (h : B) : if false = true then A else B := by rw [if_neg Bool.false_ne_true]; exact h
/-! ### statements -/
theorem r_seq (h : s1 ⟨s2 ⟨nx, rt, bk, ct⟩, rt, bk, ct⟩ σ H) : tSeq s1 s2 ⟨nx, rt, bk, ct⟩ σ H := h
theorem r_cut {u : TS} (Mid : L2.St → Hp → Prop) (h : s1 ⟨Mid, rt, bk, ct⟩ σ H) (g : ∀ σ' H', Mid σ' H' → u ⟨nx, rt, bk, ct⟩ σ' H') : C8.tCut s1 u ⟨nx, rt, bk, ct⟩ σ H := ⟨Mid, h, g⟩
theorem r_next (h : nx σ H) : tNext ⟨nx, rt, bk, ct⟩ σ H := h
theorem r_asg (h : te σ H fun x H1 => g x σ H1 nx) : tAsg te g ⟨nx, rt, bk, ct⟩ σ H := h
theorem r_ret (h : te σ H rt) : tRet te ⟨nx, rt, bk, ct⟩ σ H := h
theorem r_drop (h : te σ H fun _ H1 => nx σ H1) : tDrop te ⟨nx, rt, bk, ct⟩ σ H := h
theorem r_ifS (h : t σ H fun b H1 => if b = true then s1 ⟨nx, rt, bk, ct⟩ σ H1 else s2 ⟨nx, rt, bk, ct⟩ σ H1) : tIfS t s1 s2 ⟨nx, rt, bk, ct⟩ σ H := h
theorem r_par {a b : Nat} (h : tA σ H fun vs H1 => ∃ v w, vs = [v, w] ∧ nx ((σ.set a (some v)).set b (some w)) H1) : tPar a b tA ⟨nx, rt, bk, ct⟩ σ H := h
theorem r_ex2 {f : V → V → Prop} (h : f x y) : ∃ v w, [x, y] = [v, w] ∧ f v w := ⟨x, y, rfl, h⟩
theorem r_brk (h : bk σ H) : tBreak ⟨nx, rt, bk, ct⟩ σ H := h
theorem r_cont (h : ct σ H) : tCont ⟨nx, rt, bk, ct⟩ σ H := h
theorem r_aug {n : Nat} {ti : TIp} (h : σ[n]? = some (some x)) (q : te σ H fun y H1 => ti x y H1 fun z H2 => nx (σ.set n (some z)) H2) : tAug n te ti ⟨nx, rt, bk, ct⟩ σ H := ⟨x, h, q⟩
theorem r_ipI {f : Int → Int → Int} (q : Q (.int (f i j)) H) : ipI f (.int i) (.int j) H Q := ⟨i, j, rfl, rfl, q⟩
theorem r_for {wi : TI} (h : wi σ H fun J H1 => ∃ W : Nat → Nat → L2.St → Hp → Prop, (∃ m, W 0 m σ H1) ∧ ∀ i m σ H, W i m σ H → (J.stop i H ∧ nx σ H) ∨ (J.go i H ∧ ∃ N : L2.St → Hp → Prop, (∀ σ' H', N σ' H' → ∃ m', m' < m ∧ W (i + 1) m' σ' H') ∧
    ∀ x H', J.yld i H x H' → g x σ H' fun σ2 H2 => s1 ⟨N, rt, nx, N⟩ σ2 H2)) : tFor wi g s1 ⟨nx, rt, bk, ct⟩ σ H := h
theorem r_augS {tget : V → V → Hp → VK → Prop} {ti : TIp} {ts : TSet} (h : ta σ H fun o H1 => tb σ H1 fun i H2 => tget o i H2 fun x H3 => te σ H3 fun y H4 => ti x y H4 fun z H5 => ts o i z H5 fun H6 => nx σ H6) : tAugS ta tb te tget ti ts ⟨nx, rt, bk, ct⟩ σ H := h
/-! ### targets -/
variable {Qs : L2.St → Hp → Prop}
theorem r_name {n : Nat} (q : Qs (σ.set n (some v)) H) : gName n v σ H Qs := q
theorem r_gtup {n : Nat} {p : Addr} {xs : List V} (h : SqT K H p xs) (hl : xs.length = n) (q : gs xs σ H Qs) : gTup K n gs (.ref p) σ H Qs := ⟨p, xs, rfl, h, hl, q⟩
theorem r_gcons {vs : List V} (q : g v σ H fun σ' H' => gs vs σ' H' Qs) : gCons g gs (v :: vs) σ H Qs := ⟨v, vs, rfl, q⟩
theorem r_gnil (q : Qs σ H) : gNil [] σ H Qs := ⟨rfl, q⟩
theorem r_gsub {ts : TSet} (h : te σ H fun o H1 => tv σ H1 fun i H2 => ts o i v H2 fun H3 => Qs σ H3) : gSub te tv ts v σ H Qs := h
theorem r_gslc {tl th : TO} (h : te σ H fun x H1 => tl σ H1 fun l H2 => th σ H2 fun u H3 => ∃ (p b : Addr) (xs ys : List V) (a c : Int), x = .ref p ∧ v = .ref b ∧ l = some a ∧ u = some c ∧ H3 p = some (.lst xs) ∧ H3 b = some (.lst ys) ∧ p ≠ b ∧ 0 ≤ a ∧ a ≤ c ∧ c ≤ xs.length ∧ xs.length + ys.length ≤ sizeLine ∧
    Qs σ (upd H3 p (.lst (xs.take a.toNat ++ ys ++ xs.drop c.toNat)))) : gSlc te tl th v σ H Qs := h
theorem r_setL {Qh : Hp → Prop} {p : Addr} {xs : List V} {n : Nat} (h : H p = some (.lst xs)) (hi : ixN xs.length i = some n) (q : Qh (upd H p (.lst (xs.set n v)))) : rSetL (.ref p) (.int i) v H Qh := ⟨p, xs, i, n, rfl, rfl, h, hi, q⟩
end
theorem szL {n : Nat} (h : Nat.ble n 16777216 = true) : n ≤ sizeLine := Nat.le_of_ble_eq_true h
theorem at_0 {x : V} {xs : List V} : atI (x :: xs) 0 = some x := at_of (j := 0) rfl rfl
theorem at_1 {x y : V} {xs : List V} : atI (x :: y :: xs) 1 = some y := at_of (j := 1) rfl rfl
theorem at_2 {x y z : V} {xs : List V} : atI (x :: y :: z :: xs) 2 = some z := at_of (j := 2) rfl rfl
theorem at_3 {x y z u : V} {xs : List V} : atI (x :: y :: z :: u :: xs) 3 = some u := at_of (j := 3) rfl rfl
theorem sq {K : PySem.W.Frag} {H : Hp} {p : Addr} {xs : List V} (h : H p = some (.lst xs)) : SqL K H p xs := .inl (.inl h)
theorem sqT {K : PySem.W.Frag} {H : Hp} {p : Addr} {xs : List V} (h : H p = some (.tup xs)) : SqT K H p xs := .inl (.inl h)

section
variable {w : World} {H : Hp} {σ : L2.St} {Q : VK} {te : TE} {tA : TA} {a : Addr} {k : Int} {S : Int → Bool} {n : Nat}
theorem r_set0 (q : ∀ p, H p = none → Q (.ref p) (upd H p (SetO w p (fun _ => false) 0))) : rSet0 w [] H Q := ⟨rfl, q⟩
theorem r_sin (h : H a = some (SetO w a S n)) (q : Q (.bl (S k)) H) : rSIn w (.int k) (.ref a) H Q := ⟨k, a, S, n, rfl, rfl, h, q⟩
theorem r_snotin (h : H a = some (SetO w a S n)) (q : Q (.bl (!S k)) H) : rSNotIn w (.int k) (.ref a) H Q := ⟨k, a, S, n, rfl, rfl, h, q⟩
theorem r_sadd0 (h : te σ H fun x H1 => (∃ a S n, x = V.ref a ∧ H1 a = some (SetO w a S n)) ∧ tA σ H1 fun xs H2 => rSAdd w x xs H2 Q) : tSAdd w te tA σ H Q := h
theorem r_sadd (h : H a = some (SetO w a S n)) (hn : n + 1 < 4096) (q : Q .non (upd H a (SetO w a (fun j => S j || decide (j = k)) (if S k = true then n else n + 1)))) : rSAdd w (.ref a) [.int k] H Q := ⟨a, k, S, n, rfl, rfl, h, hn, q⟩
end
/-! ### what a for walks -/
section
variable {K : PySem.W.Frag} {σ : L2.St} {H : Hp} {tA : TA} {te : TE} {R : L2.It → Hp → Prop}
theorem r_iEnum (h : tA σ H fun vs H1 => ∃ a xs, vs = [.ref a] ∧ SqL K H1 a xs ∧ R (Ite K a) H1) : iEnum K tA σ H R := h
theorem r_iList (h : te σ H fun x H1 => ∃ a, x = .ref a ∧ (∃ xs, SqL K H1 a xs) ∧ R (Itl K a) H1) : iList K te σ H R := h
theorem r_iTup (h : te σ H fun x H1 => ∃ a, x = .ref a ∧ (∃ xs, SqT K H1 a xs) ∧ R (Itt K a) H1) : iTup K te σ H R := h
theorem r_iRng1 (h : tA σ H fun vs H1 => ∃ j : Int, vs = [.int j] ∧ -(2 ^ 62) ≤ j ∧ j < 2 ^ 62 ∧ R (Itr 0 j.toNat) H1) : iRng1 tA σ H R := h
theorem r_iRng2 (h : tA σ H fun vs H1 => ∃ i j : Int, vs = [.int i, .int j] ∧ (-(2 ^ 62) ≤ i ∧ i < 2 ^ 62 ∧ -(2 ^ 62) ≤ j ∧ j < 2 ^ 62) ∧ R (Itr i (j - i).toNat) H1) : iRng2 tA σ H R := h
theorem r_iRng3 (h : tA σ H fun vs H1 => ∃ (i j c : Int) (n : Nat), vs = [.int i, .int j, .int c] ∧ RgC i j c n ∧ R (Itc i c n) H1) : iRng3 tA σ H R := h
theorem r_iZip (h : tA σ H fun vs H1 => ∃ a b xs ys, vs = [.ref a, .ref b] ∧ SqL K H1 a xs ∧ SqL K H1 b ys ∧ R (Itz K a b) H1) : iZip K tA σ H R := h
theorem r_lc {wi : TI} {g : TG} {tt : TT} {vs : List Nat} {Q : VK} (h : wi σ H fun J H1 => ∀ D, H1 D = none → ∃ W : Nat → Nat → Hp → Prop, (∃ m, W 0 m (upd H1 D (.lst []))) ∧ ∀ i m H, W i m H →
  (J.stop i H ∧ Q (.ref D) H) ∨ (J.go i H ∧ ∃ Nx : Hp → Prop, (∀ H', Nx H' → ∃ m', m' < m ∧ W (i + 1) m' H') ∧ ∀ x H', J.yld i H x H' → g x (wipe σ vs) H' fun σ2 H2 => wipe σ2 vs = wipe σ vs ∧ tt σ2 H2 fun b H3 =>
    if b = true then te σ2 H3 fun y H4 => ∃ acc, H4 D = some (.lst acc) ∧ acc.length < sizeLine ∧ Nx (upd H4 D (.lst (acc ++ [y]))) else Nx H3)) : tLc wi g tt te vs σ H Q := h
theorem r_lrg {tr : L2.St → Hp → (Int → Int → Hp → Prop) → Prop} {Q : VK} (h : tr σ H fun a b H1 => RgOk a b ∧ ∀ q, H1 q = none → Q (.ref q) (upd H1 q (.lst (rgV a b)))) : tLstRg tr σ H Q := h
theorem r_rg1 {Q : Int → Int → Hp → Prop} (h : te σ H fun x H1 => ∃ n, x = .int n ∧ Q 0 n H1) : tRg1 te σ H Q := h
theorem r_rg2 {tb : TE} {Q : Int → Int → Hp → Prop} (h : te σ H fun x H1 => tb σ H1 fun y H2 => ∃ i j, x = .int i ∧ y = .int j ∧ Q i j H2) : tRg2 te tb σ H Q := h
theorem r_l3 {Q : VK} (h : tA σ H fun vs H1 => ∃ (i j c : Int) (n : Nat), vs = [.int i, .int j, .int c] ∧ RgC i j c n ∧ n ≤ 2 ^ 24 ∧ ∀ q, H1 q = none → Q (.ref q) (upd H1 q (.lst (rg3V i c n)))) : tLst3 tA σ H Q := h
theorem r_revL {Q : VK} (h : te σ H fun x H1 => ∃ a xs, x = .ref a ∧ SqL K H1 a xs ∧ ∀ p, H1 p = none → Q (.ref p) (upd H1 p (.lst xs.reverse))) : tRevL K te σ H Q := h
theorem r_exr {a : Addr} {f : Addr → Prop} (h : f a) : ∃ b, V.ref a = .ref b ∧ f b := ⟨a, rfl, h⟩
end
section
variable {σ : L2.St} {H : Hp} {c : TT} {tb : TS} {nx bk ct : L2.St → Hp → Prop} {rt : VK}
theorem r_while (W : Nat → L2.St → Hp → Prop) (m : Nat) (h0 : W m σ H) (hs : ∀ m σ H, W m σ H → c σ H fun b H1 => if b = true then ∃ N : L2.St → Hp → Prop, (∀ σ' H', N σ' H' → ∃ m', m' < m ∧ W m' σ' H') ∧ tb ⟨N, rt, nx, N⟩ σ H1 else nx σ H1) : tWhile c tb ⟨nx, rt, bk, ct⟩ σ H :=
  ⟨W, ⟨m, h0⟩, hs⟩
theorem r_turn {W : Nat → L2.St → Hp → Prop} {m : Nat} (h : tb ⟨fun σ' H' => ∃ m', m' < m ∧ W m' σ' H', rt, nx, fun σ' H' => ∃ m', m' < m ∧ W m' σ' H'⟩ σ H) : ∃ N : L2.St → Hp → Prop, (∀ σ' H', N σ' H' → ∃ m', m' < m ∧ W m' σ' H') ∧ tb ⟨N, rt, nx, N⟩ σ H :=
  ⟨_, fun _ _ h => h, h⟩
theorem r_itD {p : Prop} [Decidable p] {A B : Prop} (hp : p) (h : A) : if decide p = true then A else B := by rw [decide_eq_true hp]; exact h
theorem r_itDF {p : Prop} [Decidable p] {A B : Prop} (hp : ¬p) (h : B) : if decide p = true then A else B := by rw [decide_eq_false hp]; exact h
theorem r_itN {p : Prop} [Decidable p] {A B : Prop} (hp : ¬p) (h : A) : if (!decide p) = true then A else B := by rw [decide_eq_false hp]; exact h
theorem r_itNF {p : Prop} [Decidable p] {A B : Prop} (hp : p) (h : B) : if (!decide p) = true then A else B := by rw [decide_eq_true hp]; exact h
theorem r_popAt {l : Addr} {xs : List V} {i : Int} {k : Nat} {y : V} {Q : VK} (h : H l = some (.lst xs)) (e : i = (k : Int)) (hk : xs[k]? = some y) (hz : k < 2 ^ 63) (q : Q y (upd H l (.lst (xs.eraseIdx k)))) : rPopAt (.ref l) [.int i] H Q := by
  subst e
  have hl : k < xs.length := (List.getElem?_eq_some_iff.mp hk).1
  exact ⟨l, xs, k, k, y, rfl, rfl, h, by omega, by omega, seqIndex_of (by omega) (by omega), hk, q⟩
end
/-! ### what stands in a heap -/
/-- all but r stands as it was -/
def Sx (r : Addr) (H H' : Hp) : Prop := ∀ b o, b ≠ r → H b = some o → H' b = some o
section
variable {H H' : Hp} {a b r : Addr} {o u : HO}
theorem upd_old (np : H a = none) (h : H b = some u) : upd H a o b = some u := (upd_ne (ne_of_none h np)).trans h
theorem upd_to (n : b ≠ a) (h : H b = some u) : upd H a o b = some u := (upd_ne n).trans h
theorem same_to (s : Same H H') (h : H b = some u) : H' b = some u := s b u h
theorem sx_to (s : Sx r H H') (n : b ≠ r) (h : H b = some u) : H' b = some u := s b u n h
theorem sx_of (s : Same H H') : Sx r H H' := fun b o _ h => s b o h
theorem same_new (np : H a = none) : Same H (upd H a o) := fun b u h => upd_old np h
theorem same_old {H0 : Hp} (s : Same H0 H) (n : H0 a = none) : Same H0 (upd H a o) := fun b u h => upd_to (ne_of_none h n) (s b u h)
theorem Sx.refl : Sx r H H := fun _ _ _ h => h
theorem Sx.trans {H1 : Hp} (s : Sx r H H1) (t : Sx r H1 H') : Sx r H H' := fun b o n h => t b o n (s b o n h)
theorem Sx.put : Sx r H (L2.upd H r o) := fun b u n h => upd_to n h
theorem Sx.new (np : H a = none) : Sx r H (L2.upd H a o) := fun b u _ h => upd_old np h
theorem Sx.old {H0 : Hp} (s : Sx r H0 H) (n : H0 a = none) : Sx r H0 (L2.upd H a o) := fun b u hb h => upd_to (ne_of_none h n) (s b u hb h)
theorem Sx.same {H1 : Hp} (s : Sx r H H1) (t : Same H1 H') : Sx r H H' := s.trans (sx_of t)
theorem Sx.free (s : Sx r H H') (hr : H' r = some u) (h : H' a = none) : H a = none := by
  cases q : H a with
  | none => rfl
  | some o =>
    by_cases e : a = r
    · subst e; rw [hr] at h; cases h
    · rw [s a o e q] at h; cases h
end
end Xk
/-- one step whose answer is known -/
local macro_rules | `(tactic| fail "one") => `(tactic| with_reducible first
  | refine Xk.r_c ?_ | refine Xk.r_op ?_ | refine Xk.r_un ?_ | refine Xk.r_I0 ?_ | refine Xk.r_U ?_ | refine Xk.r_nil ?_ | refine Xk.r_cons ?_ | refine Xk.r_lst ?_ | refine Xk.r_tup ?_
  | refine Xk.r_call ?_ | refine Xk.r_callK ?_ | refine Xk.r_cb ?_ | refine Xk.r_ckw ?_ | refine Xk.r_sl ?_ | refine Xk.r_part ?_ | refine Xk.r_nopart ?_ | refine Xk.r_exi ?_ | refine Xk.r_exb ?_ | refine Xk.r_bm ?_ | refine Xk.r_bm0 ?_
  | refine Xk.r_if ?_ | refine Xk.r_andV ?_ | refine Xk.r_orV ?_ | refine Xk.r_notV ?_ | refine Xk.r_eqI ?_ | refine Xk.r_neI ?_ | refine Xk.r_eqS ?_ | refine Xk.r_neS ?_
  | refine Xk.r_test ?_ | refine Xk.r_tB ?_ | refine Xk.r_tand ?_ | refine Xk.r_tor ?_ | refine Xk.r_tnot ?_ | refine Xk.r_yes ?_ | refine Xk.r_itT ?_ | refine Xk.r_itF ?_ | refine Xk.r_notT ?_ | refine Xk.r_notF ?_
  | refine Xk.r_seq ?_ | refine Xk.r_next ?_ | refine Xk.r_asg ?_ | refine Xk.r_ret ?_ | refine Xk.r_drop ?_ | refine Xk.r_ifS ?_ | refine Xk.r_par ?_ | refine Xk.r_ex2 ?_ | refine Xk.r_brk ?_ | refine Xk.r_cont ?_ | refine Xk.r_ipI ?_ | refine Xk.r_for ?_
  | refine Xk.r_augS ?_ | refine Xk.r_sadd0 ?_ | refine Xk.r_iEnum ?_ | refine Xk.r_iList ?_ | refine Xk.r_iTup ?_ | refine Xk.r_iRng1 ?_ | refine Xk.r_iRng2 ?_ | refine Xk.r_iRng3 ?_ | refine Xk.r_iZip ?_ | refine Xk.r_lc ?_ | refine Xk.r_lrg ?_ | refine Xk.r_rg1 ?_ | refine Xk.r_rg2 ?_ | refine Xk.r_l3 ?_ | refine Xk.r_revL ?_ | refine Xk.r_exr ?_
  | refine Xk.r_name ?_ | refine Xk.r_gcons ?_ | refine Xk.r_gnil ?_ | refine Xk.r_gsub ?_ | refine Xk.r_gslc ?_)
local macro_rules | `(tactic| fail "ne") => `(tactic| first | assumption | (apply Ne.symm; assumption) | (exact L2.ne_of_none (by assumption) (by assumption)) | (apply Ne.symm; exact L2.ne_of_none (by assumption) (by assumption)))
/-- what stands at an address -/
local macro_rules | `(tactic| fail "hp") => `(tactic| with_reducible first
  | assumption | exact L2.upd_same
  | ((refine' Xk.upd_old ?np ?_); (case np => assumption); fail "hp")
  | ((refine' Xk.same_to ?hs ?_); (case hs => assumption); fail "hp")
  | ((refine' Xk.sx_to ?hs ?hn ?_); (case hs => assumption); (case hn => fail "ne"); fail "hp")
  | ((refine' Xk.upd_to ?hn ?_); (case hn => fail "ne"); fail "hp"))
local macro_rules | `(tactic| fail "sq") => `(tactic| ((with_reducible show L2.SqL _ _ _ _); first | (with_reducible assumption) | exact Xk.sq (by fail "hp") | (with_reducible exact L2.Same.seq (by assumption) (by assumption))))
local macro_rules | `(tactic| fail "sd") => `(tactic| first | assumption | omega | decide)
local macro_rules | `(tactic| fail "at") => `(tactic| first
  | (with_reducible exact Xk.at_0) | (with_reducible exact Xk.at_1) | (with_reducible exact Xk.at_2) | (with_reducible exact Xk.at_3)
  | ((with_reducible show L2.atI (List.set (_ :: _) _ _) _ = _); exact rfl))
local macro_rules | `(tactic| fail "ix") => `(tactic| ((with_reducible show L2.ixN (List.length (_ :: _)) _ = _); exact rfl))
local macro_rules | `(tactic| fail "two") => `(tactic| first
  | ((with_reducible refine' Xk.r_var ?hv ?_); (case hv => exact rfl))
  | ((with_reducible refine' Xk.r_aug ?hv ?_); (case hv => exact rfl))
  | ((with_reducible refine' Xk.r_ixL ?hv ?hw ?_); (case hv => fail "sq"); (case hw => fail "at"))
  | ((with_reducible refine' Xk.r_setL ?hv ?hw ?_); (case hv => fail "hp"); (case hw => fail "ix"))
  | ((with_reducible refine' Xk.r_slL ?hv ?_); (case hv => fail "sq"))
  | ((with_reducible refine' Xk.r_gtup ?hv ?hw ?_); (case hv => exact Xk.sqT (by fail "hp")); (case hw => exact rfl))
  | ((with_reducible refine' ⟨Xk.ty_list (K := _) (xs := _) ?hv, ?_⟩); (case hv => fail "sq"))
  | ((with_reducible refine' Xk.r_append ?hv ?hw ?_); (case hv => fail "hp"); (case hw => fail "sd"))
  | ((with_reducible refine' Xk.r_I (C := fun _ j => 0 < j) ?hv ?_); (case hv => (first | omega | (show (0 : Int) < _; omega) | decide)))
  | ((with_reducible refine' Xk.r_len ?hv ?_); (case hv => fail "sq"))
  | ((with_reducible refine' Xk.r_listOf ?hv ?_); (case hv => fail "sq"))
  | ((with_reducible refine' Xk.r_I (C := Xk.CPowW) ?hv ?_); (case hv => exact ⟨by decide, by decide⟩))
  | (with_reducible refine ⟨Xk.szL (by with_unfolding_all rfl), ?_⟩)
  | ((with_reducible refine' ⟨_, _, rfl, ?hv, ?_⟩); (case hv => ((with_reducible show L2.SqL _ _ _ _); fail "sq")))
  | ((with_reducible refine' ⟨⟨_, ?hv⟩, ?_⟩); (case hv => fail "sq"))
  | (with_reducible refine Or.inl ⟨_, rfl, ?_⟩) | (with_reducible refine Or.inr ⟨_, rfl, ?_⟩)
  | (with_reducible refine ⟨_, _, rfl, rfl, ?_⟩) | (with_reducible refine ⟨_, rfl, ?_⟩) | (with_reducible refine ⟨_, _, rfl, ?_⟩))
local macro_rules | `(tactic| fail "g") => `(tactic| repeat (first | fail "one" | fail "two"))

set_option Elab.async false
set_option linter.all false
set_option maxRecDepth 100000
namespace Xk
open PySem PySem.Spec PyProof.Rows L2
/-! ### slices by numbers -/
theorem cut_from {xs : List V} {z : Int} {a : Nat} (h : z = (a : Int)) : cutV xs (some z) none = xs.drop a := by
  subst h
  unfold cutV
  rw [show HT.sIx xs.length 0 (some (a : Int)) = min a xs.length from HT.sIx_nat xs.length 0 a, HT.sIx_none]
  by_cases q : a ≤ xs.length
  · rw [Nat.min_eq_left q]; exact List.take_of_length_le (by rw [List.length_drop]; omega)
  · rw [Nat.min_eq_right (by omega), List.drop_of_length_le (by omega), List.drop_of_length_le (by omega)]; simp
theorem cut_to {xs : List V} {z : Int} {b : Nat} (h : z = (b : Int)) : cutV xs none (some z) = xs.take b := by
  subst h
  unfold cutV
  rw [show HT.sIx xs.length xs.length (some (b : Int)) = min b xs.length from HT.sIx_nat xs.length xs.length b, HT.sIx_none]
  show (xs.take (min b xs.length - 0)) = _
  rw [Nat.sub_zero]
  by_cases q : b ≤ xs.length
  · rw [Nat.min_eq_left q]
  · rw [Nat.min_eq_right (by omega), List.take_of_length_le (by omega), List.take_of_length_le (by omega)]
theorem cut_mid {xs : List V} {z y : Int} {a b : Nat} (h : z = (a : Int)) (g : y = (b : Int)) (hb : b ≤ xs.length) : cutV xs (some z) (some y) = (xs.drop a).take (b - a) := by
  subst h; subst g
  unfold cutV
  rw [show HT.sIx xs.length 0 (some (a : Int)) = min a xs.length from HT.sIx_nat xs.length 0 a, show HT.sIx xs.length xs.length (some (b : Int)) = min b xs.length from HT.sIx_nat xs.length xs.length b, Nat.min_eq_left hb]
  by_cases q : a ≤ xs.length
  · rw [Nat.min_eq_left q]
  · rw [Nat.min_eq_right (by omega), show b - xs.length = 0 by omega, show b - a = 0 by omega]; rfl
theorem map_drop' {α β : Type} (f : α → β) (l : List α) (n : Nat) : (l.map f).drop n = (l.drop n).map f := by simp
theorem at_map {ns : List Int} {z : Int} {j : Nat} (e : z = (j : Int)) (h : j < ns.length) : atI (ns.map V.int) z = some (.int ns[j]) :=
  at_of e (by simp [h])
theorem ix_of {n j : Nat} {z : Int} (e : z = (j : Int)) (h : j < n) : ixN n z = some j := by
  subst e; unfold ixN; rw [if_pos (by omega), if_pos (by omega)]; simp
theorem map_set' (ns : List Int) (j : Nat) (x : Int) : (ns.map V.int).set j (V.int x) = (ns.set j x).map V.int := by simp
theorem map_snoc (ns : List Int) (x : Int) : ns.map V.int ++ [V.int x] = (ns ++ [x]).map V.int := by simp
theorem size_lt {n : Nat} (h : n < 16777216) : n < sizeLine := h
theorem size_le {n : Nat} (h : n ≤ 16777216) : n ≤ sizeLine := h

/-! ### comprehensions whose turns leave what stood -/
section
variable {J : It} {n : Nat} {G : Hp → Prop} {Y : Nat → Hp → V → Hp → Prop}
theorem forI (w : Walk J n G Y) {g : TG} {tb : TS} {nx : L2.St → Hp → Prop} {rt : VK} {σ : L2.St} {H : Hp} (Pv : Nat → L2.St → Hp → Prop) (h0 : Pv 0 σ H) (hG : ∀ i σ H, i ≤ n → Pv i σ H → G H)
    (hs : ∀ i x σ H H', i < n → Pv i σ H → Y i H x H' → g x σ H' fun σ2 H2 => tb ⟨Pv (i + 1), rt, nx, Pv (i + 1)⟩ σ2 H2) (hd : ∀ σ H, Pv n σ H → nx σ H) :
    ∃ W : Nat → Nat → L2.St → Hp → Prop, (∃ m, W 0 m σ H) ∧ ∀ i m σ H, W i m σ H →
      (J.stop i H ∧ nx σ H) ∨ (J.go i H ∧ ∃ N : L2.St → Hp → Prop, (∀ σ' H', N σ' H' → ∃ m', m' < m ∧ W (i + 1) m' σ' H') ∧ ∀ x H', J.yld i H x H' → g x σ H' fun σ2 H2 => tb ⟨N, rt, nx, N⟩ σ2 H2) :=
  for_it (D := ⟨nx, rt, fun _ _ => False, fun _ _ => False⟩) w Pv h0 hG hs hd
theorem forA {xs : List V} (w : Walk J xs.length G (YAt xs)) {g : TG} {tb : TS} {nx : L2.St → Hp → Prop} {rt : VK} {σ : L2.St} {H : Hp} (Pv : Nat → L2.St → Hp → Prop) (h0 : Pv 0 σ H) (hG : ∀ i σ H, i ≤ xs.length → Pv i σ H → G H)
    (hs : ∀ i σ H (hi : i < xs.length), Pv i σ H → g xs[i] σ H fun σ2 H2 => tb ⟨Pv (i + 1), rt, nx, Pv (i + 1)⟩ σ2 H2) (hd : ∀ σ H, Pv xs.length σ H → nx σ H) :
    ∃ W : Nat → Nat → L2.St → Hp → Prop, (∃ m, W 0 m σ H) ∧ ∀ i m σ H, W i m σ H →
      (J.stop i H ∧ nx σ H) ∨ (J.go i H ∧ ∃ N : L2.St → Hp → Prop, (∀ σ' H', N σ' H' → ∃ m', m' < m ∧ W (i + 1) m' σ' H') ∧ ∀ x H', J.yld i H x H' → g x σ H' fun σ2 H2 => tb ⟨N, rt, nx, N⟩ σ2 H2) :=
  forI w Pv h0 hG (fun i x σ H H' hi p y => by
    obtain ⟨rfl, e⟩ := y
    rw [List.getElem?_eq_getElem hi] at e
    cases e
    exact hs i σ H' hi p) hd
theorem forAI {ns : List Int} (w : Walk J (ns.map V.int).length G (YAt (ns.map V.int))) {g : TG} {tb : TS} {nx : L2.St → Hp → Prop} {rt : VK} {σ : L2.St} {H : Hp} (Pv : Nat → L2.St → Hp → Prop) (h0 : Pv 0 σ H) (hG : ∀ i σ H, i ≤ (ns.map V.int).length → Pv i σ H → G H)
    (hs : ∀ i σ H (hi : i < ns.length), Pv i σ H → g (.int ns[i]) σ H fun σ2 H2 => tb ⟨Pv (i + 1), rt, nx, Pv (i + 1)⟩ σ2 H2) (hd : ∀ σ H, Pv (ns.map V.int).length σ H → nx σ H) :
    ∃ W : Nat → Nat → L2.St → Hp → Prop, (∃ m, W 0 m σ H) ∧ ∀ i m σ H, W i m σ H →
      (J.stop i H ∧ nx σ H) ∨ (J.go i H ∧ ∃ N : L2.St → Hp → Prop, (∀ σ' H', N σ' H' → ∃ m', m' < m ∧ W (i + 1) m' σ' H') ∧ ∀ x H', J.yld i H x H' → g x σ H' fun σ2 H2 => tb ⟨N, rt, nx, N⟩ σ2 H2) :=
  forI w Pv h0 hG (fun i x σ H H' hi p y => by
    obtain ⟨rfl, e⟩ := y
    have hi' : i < ns.length := by simpa using hi
    rw [List.getElem?_map, List.getElem?_eq_getElem hi'] at e
    cases e
    exact hs i σ H' hi' p) hd
theorem forF {f : Nat → V} (w : Walk J n G (YFn f)) {g : TG} {tb : TS} {nx : L2.St → Hp → Prop} {rt : VK} {σ : L2.St} {H : Hp} (Pv : Nat → L2.St → Hp → Prop) (h0 : Pv 0 σ H) (hG : ∀ i σ H, i ≤ n → Pv i σ H → G H)
    (hs : ∀ i σ H, i < n → Pv i σ H → g (f i) σ H fun σ2 H2 => tb ⟨Pv (i + 1), rt, nx, Pv (i + 1)⟩ σ2 H2) (hd : ∀ σ H, Pv n σ H → nx σ H) :
    ∃ W : Nat → Nat → L2.St → Hp → Prop, (∃ m, W 0 m σ H) ∧ ∀ i m σ H, W i m σ H →
      (J.stop i H ∧ nx σ H) ∨ (J.go i H ∧ ∃ N : L2.St → Hp → Prop, (∀ σ' H', N σ' H' → ∃ m', m' < m ∧ W (i + 1) m' σ' H') ∧ ∀ x H', J.yld i H x H' → g x σ H' fun σ2 H2 => tb ⟨N, rt, nx, N⟩ σ2 H2) :=
  forI w Pv h0 hG (fun i x σ H H' hi p y => by
    obtain ⟨rfl, rfl⟩ := y
    exact hs i σ H' hi p) hd
theorem forP {f1 f2 : Nat → Option V} (w : Walk J n G (YPair f1 f2)) {g : TG} {tb : TS} {nx : L2.St → Hp → Prop} {rt : VK} {σ : L2.St} {H : Hp} (Pv : Nat → L2.St → Hp → Prop) (h0 : Pv 0 σ H) (hG : ∀ i σ H, i ≤ n → Pv i σ H → G H)
    (hs : ∀ i σ H T x y, i < n → Pv i σ H → f1 i = some x → f2 i = some y → H T = none → g (.ref T) σ (upd H T (.tup [x, y])) fun σ2 H2 => tb ⟨Pv (i + 1), rt, nx, Pv (i + 1)⟩ σ2 H2) (hd : ∀ σ H, Pv n σ H → nx σ H) :
    ∃ W : Nat → Nat → L2.St → Hp → Prop, (∃ m, W 0 m σ H) ∧ ∀ i m σ H, W i m σ H →
      (J.stop i H ∧ nx σ H) ∨ (J.go i H ∧ ∃ N : L2.St → Hp → Prop, (∀ σ' H', N σ' H' → ∃ m', m' < m ∧ W (i + 1) m' σ' H') ∧ ∀ x H', J.yld i H x H' → g x σ H' fun σ2 H2 => tb ⟨N, rt, nx, N⟩ σ2 H2) :=
  forI w Pv h0 hG (fun i x σ H H' hi p y => by
    obtain ⟨T, x, y, rfl, nT, rfl, e1, e2⟩ := y
    exact hs i σ H T x y hi p e1 e2 nT) hd
theorem forEI {ns : List Int} (w : Walk J (ns.map V.int).length G (YPair (fun i => some (.int (i : Nat))) (fun i => (ns.map V.int)[i]?))) {g : TG} {tb : TS} {nx : L2.St → Hp → Prop} {rt : VK} {σ : L2.St} {H : Hp} (Pv : Nat → L2.St → Hp → Prop) (h0 : Pv 0 σ H) (hG : ∀ i σ H, i ≤ (ns.map V.int).length → Pv i σ H → G H)
    (hs : ∀ i σ H T (hi : i < ns.length), Pv i σ H → H T = none → g (.ref T) σ (upd H T (.tup [.int (i : Nat), .int ns[i]])) fun σ2 H2 => tb ⟨Pv (i + 1), rt, nx, Pv (i + 1)⟩ σ2 H2) (hd : ∀ σ H, Pv (ns.map V.int).length σ H → nx σ H) :
    ∃ W : Nat → Nat → L2.St → Hp → Prop, (∃ m, W 0 m σ H) ∧ ∀ i m σ H, W i m σ H →
      (J.stop i H ∧ nx σ H) ∨ (J.go i H ∧ ∃ N : L2.St → Hp → Prop, (∀ σ' H', N σ' H' → ∃ m', m' < m ∧ W (i + 1) m' σ' H') ∧ ∀ x H', J.yld i H x H' → g x σ H' fun σ2 H2 => tb ⟨N, rt, nx, N⟩ σ2 H2) :=
  forI w Pv h0 hG (fun i x σ H H' hi p y => by
    obtain ⟨T, x, y, rfl, nT, rfl, e1, e2⟩ := y
    have hi' : i < ns.length := by simpa using hi
    cases e1
    simp only [List.getElem?_map, List.getElem?_eq_getElem hi'] at e2
    cases e2
    exact hs i σ H T hi' p nT) hd
theorem lc_same (w : Walk J n G Y) {g : TG} {tt : TT} {te : TE} {vs : List Nat} {σ : L2.St} {H0 H1 : Hp} {D : Addr} {Qd : Hp → Prop} (acc : Nat → List V) (hD : H1 D = none) (h01 : Same H0 H1) (a0 : acc 0 = [])
    (hG : ∀ H, Same H0 H → G H)
    (hs : ∀ i x H H', i < n → Same H0 H ∧ H D = some (.lst (acc i)) → Y i H x H' → g x (wipe σ vs) H' fun σ2 H2 => wipe σ2 vs = wipe σ vs ∧ tt σ2 H2 fun b H3 =>
      if b = true then te σ2 H3 fun y H4 => ∃ l, H4 D = some (.lst l) ∧ l.length < sizeLine ∧ Same H0 (upd H4 D (.lst (l ++ [y]))) ∧ (upd H4 D (.lst (l ++ [y]))) D = some (.lst (acc (i + 1))) else Same H0 H3 ∧ H3 D = some (.lst (acc (i + 1))))
    (hd : ∀ H, Same H0 H → H D = some (.lst (acc n)) → Qd H) :
    ∃ W : Nat → Nat → Hp → Prop, (∃ m, W 0 m (upd H1 D (.lst []))) ∧ ∀ i m H, W i m H →
      (J.stop i H ∧ Qd H) ∨ (J.go i H ∧ ∃ Nx : Hp → Prop, (∀ H', Nx H' → ∃ m', m' < m ∧ W (i + 1) m' H') ∧ ∀ x H', J.yld i H x H' → g x (wipe σ vs) H' fun σ2 H2 => wipe σ2 vs = wipe σ vs ∧ tt σ2 H2 fun b H3 =>
        if b = true then te σ2 H3 fun y H4 => ∃ acc, H4 D = some (.lst acc) ∧ acc.length < sizeLine ∧ Nx (upd H4 D (.lst (acc ++ [y]))) else Nx H3) :=
  lc_it w (fun i H => Same H0 H ∧ H D = some (.lst (acc i))) ⟨same_old h01 (h01.free hD), by rw [a0]; exact upd_same⟩ (fun i H _ p => hG H p.1) hs (fun H p => hd H p.1 p.2)
theorem lc_sameAI {ns : List Int} (w : Walk J (ns.map V.int).length G (YAt (ns.map V.int))) {g : TG} {tt : TT} {te : TE} {vs : List Nat} {σ : L2.St} {H0 H1 : Hp} {D : Addr} {Qd : Hp → Prop} (acc : Nat → List V) (hD : H1 D = none) (h01 : Same H0 H1) (a0 : acc 0 = [])
    (hG : ∀ H, Same H0 H → G H)
    (hs : ∀ i H (hi : i < ns.length), Same H0 H ∧ H D = some (.lst (acc i)) → g (.int ns[i]) (wipe σ vs) H fun σ2 H2 => wipe σ2 vs = wipe σ vs ∧ tt σ2 H2 fun b H3 =>
      if b = true then te σ2 H3 fun y H4 => ∃ l, H4 D = some (.lst l) ∧ l.length < sizeLine ∧ Same H0 (upd H4 D (.lst (l ++ [y]))) ∧ (upd H4 D (.lst (l ++ [y]))) D = some (.lst (acc (i + 1))) else Same H0 H3 ∧ H3 D = some (.lst (acc (i + 1))))
    (hd : ∀ H, Same H0 H → H D = some (.lst (acc ns.length)) → Qd H) :
    ∃ W : Nat → Nat → Hp → Prop, (∃ m, W 0 m (upd H1 D (.lst []))) ∧ ∀ i m H, W i m H →
      (J.stop i H ∧ Qd H) ∨ (J.go i H ∧ ∃ Nx : Hp → Prop, (∀ H', Nx H' → ∃ m', m' < m ∧ W (i + 1) m' H') ∧ ∀ x H', J.yld i H x H' → g x (wipe σ vs) H' fun σ2 H2 => wipe σ2 vs = wipe σ vs ∧ tt σ2 H2 fun b H3 =>
        if b = true then te σ2 H3 fun y H4 => ∃ acc, H4 D = some (.lst acc) ∧ acc.length < sizeLine ∧ Nx (upd H4 D (.lst (acc ++ [y]))) else Nx H3) :=
  lc_same w acc hD h01 a0 hG (fun i x H H' hi p y => by
    obtain ⟨rfl, e⟩ := y
    have hi' : i < ns.length := by simpa using hi
    rw [List.getElem?_map, List.getElem?_eq_getElem hi'] at e
    cases e
    exact hs i H' hi' p) (fun H p q => hd H p (by simpa using q))
theorem lc_sameEI {ns : List Int} (w : Walk J (ns.map V.int).length G (YPair (fun i => some (.int (i : Nat))) (fun i => (ns.map V.int)[i]?))) {g : TG} {tt : TT} {te : TE} {vs : List Nat} {σ : L2.St} {H0 H1 : Hp} {D : Addr} {Qd : Hp → Prop} (acc : Nat → List V) (hD : H1 D = none) (h01 : Same H0 H1) (a0 : acc 0 = [])
    (hG : ∀ H, Same H0 H → G H)
    (hs : ∀ i H T (hi : i < ns.length), Same H0 H ∧ H D = some (.lst (acc i)) → H T = none → g (.ref T) (wipe σ vs) (upd H T (.tup [.int (i : Nat), .int ns[i]])) fun σ2 H2 => wipe σ2 vs = wipe σ vs ∧ tt σ2 H2 fun b H3 =>
      if b = true then te σ2 H3 fun y H4 => ∃ l, H4 D = some (.lst l) ∧ l.length < sizeLine ∧ Same H0 (upd H4 D (.lst (l ++ [y]))) ∧ (upd H4 D (.lst (l ++ [y]))) D = some (.lst (acc (i + 1))) else Same H0 H3 ∧ H3 D = some (.lst (acc (i + 1))))
    (hd : ∀ H, Same H0 H → H D = some (.lst (acc ns.length)) → Qd H) :
    ∃ W : Nat → Nat → Hp → Prop, (∃ m, W 0 m (upd H1 D (.lst []))) ∧ ∀ i m H, W i m H →
      (J.stop i H ∧ Qd H) ∨ (J.go i H ∧ ∃ Nx : Hp → Prop, (∀ H', Nx H' → ∃ m', m' < m ∧ W (i + 1) m' H') ∧ ∀ x H', J.yld i H x H' → g x (wipe σ vs) H' fun σ2 H2 => wipe σ2 vs = wipe σ vs ∧ tt σ2 H2 fun b H3 =>
        if b = true then te σ2 H3 fun y H4 => ∃ acc, H4 D = some (.lst acc) ∧ acc.length < sizeLine ∧ Nx (upd H4 D (.lst (acc ++ [y]))) else Nx H3) :=
  lc_same w acc hD h01 a0 hG (fun i x H H' hi p y => by
    obtain ⟨T, x, y, rfl, nT, rfl, e1, e2⟩ := y
    have hi' : i < ns.length := by simpa using hi
    cases e1
    simp only [List.getElem?_map, List.getElem?_eq_getElem hi'] at e2
    cases e2
    exact hs i H T hi' p nT) (fun H p q => hd H p (by simpa using q))
theorem lc_sameF {n : Nat} {f : Nat → V} (w : Walk J n G (YFn f)) {g : TG} {tt : TT} {te : TE} {vs : List Nat} {σ : L2.St} {H0 H1 : Hp} {D : Addr} {Qd : Hp → Prop} (acc : Nat → List V) (hD : H1 D = none) (h01 : Same H0 H1) (a0 : acc 0 = [])
    (hG : ∀ H, Same H0 H → G H)
    (hs : ∀ i H, i < n → Same H0 H ∧ H D = some (.lst (acc i)) → g (f i) (wipe σ vs) H fun σ2 H2 => wipe σ2 vs = wipe σ vs ∧ tt σ2 H2 fun b H3 =>
      if b = true then te σ2 H3 fun y H4 => ∃ l, H4 D = some (.lst l) ∧ l.length < sizeLine ∧ Same H0 (upd H4 D (.lst (l ++ [y]))) ∧ (upd H4 D (.lst (l ++ [y]))) D = some (.lst (acc (i + 1))) else Same H0 H3 ∧ H3 D = some (.lst (acc (i + 1))))
    (hd : ∀ H, Same H0 H → H D = some (.lst (acc n)) → Qd H) :
    ∃ W : Nat → Nat → Hp → Prop, (∃ m, W 0 m (upd H1 D (.lst []))) ∧ ∀ i m H, W i m H →
      (J.stop i H ∧ Qd H) ∨ (J.go i H ∧ ∃ Nx : Hp → Prop, (∀ H', Nx H' → ∃ m', m' < m ∧ W (i + 1) m' H') ∧ ∀ x H', J.yld i H x H' → g x (wipe σ vs) H' fun σ2 H2 => wipe σ2 vs = wipe σ vs ∧ tt σ2 H2 fun b H3 =>
        if b = true then te σ2 H3 fun y H4 => ∃ acc, H4 D = some (.lst acc) ∧ acc.length < sizeLine ∧ Nx (upd H4 D (.lst (acc ++ [y]))) else Nx H3) :=
  lc_same w acc hD h01 a0 hG (fun i x H H' hi p y => by
    obtain ⟨rfl, rfl⟩ := y
    exact hs i H' hi p) hd
theorem lc_add {H0 H H4 : Hp} {D : Addr} {a a' : List V} {y : V} (p : Same H0 H ∧ H D = some (.lst a)) (s : Same H H4) (hD : H0 D = none) (e : a' = a ++ [y]) (hz : a.length < sizeLine) :
    ∃ l, H4 D = some (.lst l) ∧ l.length < sizeLine ∧ Same H0 (upd H4 D (.lst (l ++ [y]))) ∧ (upd H4 D (.lst (l ++ [y]))) D = some (.lst a') :=
  ⟨a, s _ _ p.2, hz, same_old (p.1.trans s) hD, by rw [e]; exact upd_same⟩
theorem lc_skip {H0 H H4 : Hp} {D : Addr} {a a' : List V} (p : Same H0 H ∧ H D = some (.lst a)) (s : Same H H4) (e : a' = a) : Same H0 H4 ∧ H4 D = some (.lst a') := ⟨p.1.trans s, by rw [e]; exact s _ _ p.2⟩
theorem take_one {α : Type} {l : List α} {i : Nat} (hi : i < l.length) : l.take (i + 1) = l.take i ++ [l[i]] := by rw [List.take_add_one, List.getElem?_eq_getElem hi]; rfl
theorem acc_filtT {l : List Int} {f : Int → Bool} {i : Nat} (hi : i < l.length) (h : f l[i] = true) : ((l.take (i + 1)).filter f).map V.int = ((l.take i).filter f).map V.int ++ [.int l[i]] := by
  rw [take_one hi, List.filter_append, List.map_append]; simp [h]
theorem acc_filtF {l : List Int} {f : Int → Bool} {i : Nat} (hi : i < l.length) (h : f l[i] = false) : ((l.take (i + 1)).filter f).map V.int = ((l.take i).filter f).map V.int := by
  rw [take_one hi, List.filter_append, List.map_append]; simp [h]
theorem filt_len {l : List Int} {f : Int → Bool} {i : Nat} (h : l.length ≤ 1000000) : (((l.take i).filter f).map V.int).length < sizeLine := by
  rw [List.length_map]
  refine Nat.lt_of_le_of_lt (Nat.le_trans (List.length_filter_le _ _) (List.length_take_le' _ _)) (size_lt (by omega))
end
theorem erase_map {α β : Type} (f : α → β) : ∀ (l : List α) (j : Nat), (l.map f).eraseIdx j = (l.eraseIdx j).map f
  | [], _ => rfl
  | x :: r, 0 => rfl
  | x :: r, j + 1 => congrArg (f x :: ·) (erase_map f r j)
theorem erase_perm {α : Type} : ∀ (l : List α) (j : Nat) (h : j < l.length), (l[j] :: l.eraseIdx j).Perm l
  | x :: r, 0, _ => List.Perm.refl _
  | x :: r, j + 1, h => (List.Perm.swap x (r[j]'(Nat.lt_of_succ_lt_succ h)) (r.eraseIdx j)).trans ((erase_perm r j (Nat.lt_of_succ_lt_succ h)).cons x)
end Xk

set_option Elab.async false
set_option linter.all false
set_option maxRecDepth 100000
namespace Xk
open PySem PySem.Spec PyProof.Rows L2
/-! ### data -/
abbrev dI (ns : List Int) : PyData := .list (ns.map PyData.int)
section
variable {K : PySem.W.Frag} {H H' : Hp}
theorem dp_ints : ∀ ns : List Int, DpAll K H (ns.map V.int) (ns.map PyData.int)
  | [] => .nil
  | i :: r => .cons (.int i) (dp_ints r)
theorem dp_lst {a : Addr} {ns : List Int} (h : SqL K H a (ns.map V.int)) : Dp K H (.ref a) (dI ns) := .lst h (dp_ints ns)
theorem eqv_ints : ∀ ns ms : List Int, PyData.eqvAll (ns.map PyData.int) (ms.map PyData.int) = decide (ns = ms)
  | [], [] => rfl
  | [], _ :: _ => rfl
  | _ :: _, [] => rfl
  | i :: r, j :: t => by
    show ((i == j) && PyData.eqvAll (r.map PyData.int) (t.map PyData.int)) = _
    rw [eqv_ints r t]
    by_cases e : i = j
    · subst e; by_cases f : r = t
      · subst f; simp
      · simp [f]
    · simp [e]
theorem eqv_dI (ns ms : List Int) : PyData.eqv (dI ns) (dI ms) = decide (ns = ms) := eqv_ints ns ms
theorem lay_ints : ∀ ns : List Int, PyData.canLayAll0 (ns.map PyData.int) = true
  | [] => rfl
  | _ :: r => lay_ints r
theorem depth_ints : ∀ ns : List Int, PyData.depthAll (ns.map PyData.int) = 0
  | [] => rfl
  | i :: r => by show max 0 (PyData.depthAll (r.map PyData.int)) = 0; rw [depth_ints r]; rfl
theorem shaped_dI (ns : List Int) : SeqAt.shaped (dI ns) = true := by
  unfold SeqAt.shaped
  rw [Bool.and_eq_true]
  refine ⟨lay_ints ns, ?_⟩
  show decide (PyData.depthAll (ns.map PyData.int) + 1 ≤ 64) = true
  rw [depth_ints]; rfl
/-- == of two lists of ints -/
theorem r_eqL {a b : Addr} {ns ms : List Int} {Q : VK} (h : SqL K H a (ns.map V.int)) (g : SqL K H b (ms.map V.int)) (q : Q (.bl (decide (ns = ms))) H) : rEqD K (.ref a) (.ref b) H Q :=
  ⟨_, _, dp_lst h, dp_lst g, shaped_dI ns, shaped_dI ms, by rw [eqv_dI]; exact q⟩
theorem r_neL {a b : Addr} {ns ms : List Int} {Q : VK} (h : SqL K H a (ns.map V.int)) (g : SqL K H b (ms.map V.int)) (q : Q (.bl (!decide (ns = ms))) H) : rNeD K (.ref a) (.ref b) H Q :=
  ⟨_, _, dp_lst h, dp_lst g, shaped_dI ns, shaped_dI ms, by rw [eqv_dI]; exact q⟩
end

/-! ### how long a repr may be -/
def Sh (b : Nat) (d : PyData) : Prop := d.showable = true ∧ d.shown.length ≤ b
theorem Sh.mono {b c : Nat} {d : PyData} (h : Sh b d) (e : b ≤ c) : Sh c d := ⟨h.1, Nat.le_trans h.2 e⟩
theorem len_app (a b : Str) : (a ++ b).length = a.length + b.length := by
  show (a.cps ++ b.cps).size = _
  exact Array.size_append
theorem from_le : ∀ (ts : List Str) (k b : Nat) (acc : Str), (∀ t ∈ ts, t.length ≤ b) → (textFrom k acc ts).length ≤ acc.length + ts.length * (b + 2)
  | [], _, _, _, _ => by simp [textFrom]
  | t :: r, k, b, acc, h => by
    have ht := h t List.mem_cons_self
    have ih := fun acc' => from_le r (k + 1) b acc' fun t ht => h t (List.mem_cons_of_mem _ ht)
    unfold textFrom
    refine Nat.le_trans (ih _) ?_
    rw [List.length_cons, Nat.succ_mul]
    have e2 : (Str.ofString ", ").length = 2 := rfl
    have e0 : (Str.ofString "").length = 0 := rfl
    generalize r.length * (b + 2) = R
    split <;> simp only [len_app] <;> omega
theorem all_sh {b : Nat} : ∀ {ds : List PyData}, (∀ d ∈ ds, Sh b d) → PyData.showableAll ds = true ∧ ∀ t ∈ PyData.shownAll ds, t.length ≤ b
  | [], _ => ⟨rfl, fun t h => nomatch h⟩
  | d :: r, h => by
    have h1 := h d List.mem_cons_self
    have ih := all_sh fun e he => h e (List.mem_cons_of_mem _ he)
    refine ⟨?_, fun t ht => ?_⟩
    · show (d.showable && PyData.showableAll r) = true
      rw [h1.1, ih.1]; rfl
    · rcases List.mem_cons.mp (show t ∈ d.shown :: PyData.shownAll r from ht) with e | e
      · subst e; exact h1.2
      · exact ih.2 t e
theorem shown_len : ∀ ds : List PyData, (PyData.shownAll ds).length = ds.length
  | [] => rfl
  | _ :: r => congrArg (· + 1) (shown_len r)
theorem Sh.list {b : Nat} {ds : List PyData} (h : ∀ d ∈ ds, Sh b d) : Sh (ds.length * (b + 2) + 2) (.list ds) := by
  obtain ⟨h1, h2⟩ := all_sh h
  refine ⟨h1, ?_⟩
  show (listText (PyData.shownAll ds)).length ≤ _
  unfold listText
  rw [len_app]
  have := from_le (PyData.shownAll ds) 0 b "[" h2
  rw [shown_len] at this
  have e1 : ("[" : Str).length = 1 := rfl
  have e2 : ("]" : Str).length = 1 := rfl
  omega
theorem piled_le : ∀ (ts : List Str) (b : Nat), (∀ t ∈ ts, t.length ≤ b) → piled ts ≤ ts.length * (b + 2)
  | [], _, _ => by simp [piled]
  | t :: r, b, h => by
    have h1 := h t List.mem_cons_self
    have ih := piled_le r b fun e he => h e (List.mem_cons_of_mem _ he)
    have e : piled (t :: r) = t.length + 2 + piled r := by simp [piled]
    rw [e, List.length_cons, Nat.succ_mul]
    omega
theorem Sh.tuple {b : Nat} {ds : List PyData} (h : ∀ d ∈ ds, Sh b d) : Sh (ds.length * (b + 2) + 3) (.tuple ds) := by
  obtain ⟨h1, h2⟩ := all_sh h
  refine ⟨h1, ?_⟩
  show (tupleText (PyData.shownAll ds)).length ≤ _
  unfold tupleText
  rw [len_app, len_app]
  have hp := piled_le (PyData.shownAll ds) b h2
  rw [shown_len] at hp
  have e1 : ("(" : Str).length = 1 := rfl
  have e2 : (Str.ofString ",)").length = 2 := rfl
  have e3 : (Str.ofString ")").length = 1 := rfl
  by_cases q : PyData.shownAll ds = []
  · rw [q]
    have e4 : (Str.join ", " []).length = 0 := rfl
    split <;> omega
  · have := join_length_add _ q
    split <;> omega
theorem Sh.bool {b : Bool} : Sh 5 (.bool b) := ⟨rfl, by cases b <;> decide⟩
theorem Sh.none : Sh 4 .none := ⟨rfl, by decide⟩
theorem Sh.int {i : Int} {k : Nat} (hk : 0 < k) (h : i.natAbs < 10 ^ k) (h9 : k ≤ 500) : Sh (k + 1) (.int i) := by
  refine ⟨?_, ?_⟩
  · show decide (i.natAbs.log2 < 1920) = true
    rw [decide_eq_true_eq]
    by_cases z : i.natAbs = 0
    · rw [z]; decide
    · refine (Nat.log2_lt z).mpr (Nat.lt_trans h (Nat.lt_of_le_of_lt (Nat.pow_le_pow_right (by decide) h9) (by decide +kernel)))
  · show (Str.ofString (toString i)).length ≤ k + 1
    match i, h with
    | .ofNat n, h => exact Nat.le_succ_of_le (PyProof.Rows.toString_length_le (v := (n : Int)) (by omega) hk (by
        have h' : n < 10 ^ k := h
        have : ((n : Nat) : Int) < ((10 ^ k : Nat) : Int) := by omega
        simpa using this))
    | .negSucc n, h =>
      have h' : n + 1 < 10 ^ k := h
      have := PyProof.Rows.toString_length_le (v := ((n + 1 : Nat) : Int)) (by omega) hk (by
        have : ((n + 1 : Nat) : Int) < ((10 ^ k : Nat) : Int) := by omega
        simpa using this)
      rw [PyProof.Rows.ofString_length, String.length_toList] at this
      rw [PyProof.Rows.ofString_length, String.length_toList]
      show ("-" ++ toString (n + 1)).length ≤ k + 1
      rw [String.length_append]
      have e : ("-" : String).length = 1 := rfl
      have e2 : (toString ((n + 1 : Nat) : Int)) = toString (n + 1) := rfl
      rw [e2] at this
      omega
theorem Sh.ints {ns : List Int} {k : Nat} (hk : 0 < k) (h9 : k ≤ 500) (h : ∀ i ∈ ns, i.natAbs < 10 ^ k) : Sh (ns.length * (k + 3) + 2) (dI ns) := by
  have := Sh.list (b := k + 1) (ds := ns.map PyData.int) fun d hd => by
    obtain ⟨i, hi, rfl⟩ := List.mem_map.mp hd
    exact Sh.int hk (h i hi) h9
  rw [List.length_map] at this
  exact this
/-- repr(a list), in a reading -/
theorem r_repr {K : PySem.W.Frag} {H : Hp} {a : Addr} {d : PyData} {Q : VK} (h : Dp K H (.ref a) d) (hd : d.depth ≤ 60) {b : Nat} (s : Sh b d) (hb : b ≤ 16777216) (q : Q (.str d.shown) H) : rReprD K [.ref a] H Q :=
  ⟨a, d, rfl, h, s.1, hd, Nat.le_trans s.2 hb, q⟩
theorem depth_dI (ns : List Int) : (dI ns).depth ≤ 60 := by show PyData.depthAll (ns.map PyData.int) + 1 ≤ 60; rw [depth_ints]; decide
end Xk

set_option Elab.async false
set_option linter.all false
set_option maxRecDepth 100000
namespace Xk
open PySem PySem.Spec PyProof.Rows L2
/-! ### isinstance, is None, truth values compared -/
section
variable {X : Cx} (K : PySem.W.Frag)
theorem ix_seqK (hK : X.K = K := by rfl) : IxR X (rIx K) := hK ▸ ix_seq
theorem pg_unlK {es : List Expr} {g : TGs} {k : Nat} {pos : Pos} (n : Nat) (hc : X.calm = true) (h : PGs X es g) (hn : (assignEach es X.env).length = n := by rfl) (hst : (assignEach es X.env).findIdx? (·.1) = none := by rfl) (hK : X.K = K := by rfl) : PG X (.Tuple es k pos) (gUnl K n g) := hK ▸ pg_unl hc h hn hst
/-- x in xs, data of few layers -/
def rInE (K : PySem.W.Frag) : R2 := fun x y H Q => ∃ d ds, Dp K H x d ∧ Dp K H y (.list ds) ∧ SeqAt.shaped d = true ∧ SeqAt.shaped (.list ds) = true ∧ d.depth ≤ 60 ∧ Q (.bl (ds.any fun z => PyData.eqv z d)) H
theorem op_inE (hu : X.A.units + 64 < cLine) (hK : X.K = K := by rfl) : OpR X (compareOp .In) (rInE K) := by
  subst hK
  intro pins s σ H x y v u Q I rx ry h
  obtain ⟨d, ds, hd, he, sd, se, dd, q⟩ := h
  obtain ⟨as, r1⟩ := Dp.reads I d x v hd rx
  obtain ⟨bs, r2⟩ := Dp.reads I (.list ds) y u he ry
  refine SeqAt.in_list_reads r2 r1 (SeqAt.canLay_of_shaped se) (SeqAt.canLay_of_shaped sd) ?_ ⟨.bl _, H, I, rfl, q⟩
  have := Nat.min_le_right (PyData.depthAll ds) d.depth
  omega
theorem isiK (hK : X.K = K := by rfl) : CallR X (.builtin "isinstance") (rIsi K) := hK ▸ call_isi
end
section
variable {K : PySem.W.Frag} {H H' : Hp} {Q : VK} {x : V} {T t : String} {r : Bool}
theorem r_isi (ty : TyX K H x (.type t)) (e : kitB t T = some r) (q : Q (.bl r) H) : rIsi K [x, .ty T] H Q := ⟨x, .ty T, .type t, .type T, r, rfl, .ty T, ty, kit_ty e, q⟩
theorem tyx_list {a : Addr} {xs : List V} (h : SqL K H a xs) : TyX K H (.ref a) (.type "list") := by
  rcases h with (h | ⟨o, h⟩) | ⟨o, its, n, h, c, _⟩
  · exact .base (.lst h)
  · exact .base (.frz h)
  · exact .kList h c
theorem tyx_tup {a : Addr} {xs : List V} (h : SqT K H a xs) : TyX K H (.ref a) (.type "tuple") := by
  rcases h with (h | ⟨o, h⟩) | ⟨o, its, n, h, c, _⟩
  · exact .base (.tup h)
  · exact .fTuple h
  · exact .kTuple h c
theorem r_isN {A : Prop} (q : A) : V.non = V.non ∧ A := ⟨rfl, q⟩
theorem r_neB {a b : Bool} (q : Q (.bl (!decide (a = b))) H) : rNe (.bl a) (.bl b) H Q := by
  refine ⟨rfl, ?_⟩
  have e : decide (V.bl a = V.bl b) = decide (a = b) := by
    by_cases h : a = b
    · subst h; simp
    · rw [decide_eq_false h, decide_eq_false]; intro z; cases z; exact h rfl
  rw [e]; exact q
theorem r_eqB {a b : Bool} (q : Q (.bl (decide (a = b))) H) : rEq (.bl a) (.bl b) H Q := by
  refine ⟨rfl, ?_⟩
  have e : decide (V.bl a = V.bl b) = decide (a = b) := by
    by_cases h : a = b
    · subst h; simp
    · rw [decide_eq_false h, decide_eq_false]; intro z; cases z; exact h rfl
  rw [e]; exact q
theorem r_iRev {tA : TA} {σ : L2.St} {R : L2.It → Hp → Prop} (h : tA σ H fun vs H1 => ∃ a xs, vs = [.ref a] ∧ SqL K H1 a xs ∧ R (Itv K a xs.length) H1) : iRev K tA σ H R := h
theorem r_insert {l : Addr} {xs : List V} {i : Int} {y : V} (h : H l = some (.lst xs)) (hz : xs.length < sizeLine) (h0 : 0 ≤ i) (h1 : i < 2 ^ 63) (q : Q .non (upd H l (.lst (xs.take i.toNat ++ [y] ++ xs.drop i.toNat)))) :
    ∃ (l' : Addr) (xs : List V) (i' : Int) (y' : V), V.ref l = .ref l' ∧ [V.int i, y] = [.int i', y'] ∧ H l' = some (.lst xs) ∧ xs.length < sizeLine ∧ 0 ≤ i' ∧ i' < 2 ^ 63 ∧ Q .non (upd H l' (.lst (xs.take i'.toNat ++ [y'] ++ xs.drop i'.toNat))) := ⟨l, xs, i, y, rfl, rfl, h, hz, h0, h1, q⟩
theorem r_all {a : Addr} {bs : List Bool} (h : SqL K H a (bs.map V.bl)) (q : Q (.bl (bs.all id)) H) : rAll K [.ref a] H Q := ⟨a, bs, rfl, h, q⟩
theorem inv_ints (x : Int) (l : List Int) : inV (.int x) (l.map V.int) = decide (x ∈ l) := by
  unfold inV
  rw [List.any_map]
  by_cases hm : x ∈ l
  · rw [decide_eq_true hm, List.any_eq_true]
    exact ⟨_, hm, by show (_ == _) = true; simp⟩
  · rw [decide_eq_false hm, List.any_eq_false]
    intro y hy
    show ¬ (y == x) = true
    intro e
    exact hm (eq_of_beq e ▸ hy)
theorem r_gunl {gs : TGs} {σ : L2.St} {Qs : L2.St → Hp → Prop} {p : Addr} {xs : List V} {n : Nat} (h : SqL K H p xs) (hl : xs.length = n) (q : gs xs σ H Qs) : gUnl K n gs (.ref p) σ H Qs := ⟨p, xs, rfl, h, hl, q⟩
theorem r_lenT {p : Addr} {xs : List V} (h : SqT K H p xs) (q : Q (.int xs.length) H) : Xk.rLen K [.ref p] H Q := ⟨p, xs, rfl, .inr h, q⟩
theorem pow5 {i : Int} {n : Nat} {j : Int} (h : i.natAbs < 2 ^ n) (h0 : 0 ≤ j) (hj : j ≤ 5) (hn : n ≤ 20000000) : CPowW i j := by
  refine ⟨h0, ?_⟩
  have h1 := bits_le h
  have : (Builtin.Int.intBits i : Int) * j ≤ 20000000 * 5 := by
    refine Int.mul_le_mul ?_ hj h0 (by omega)
    omega
  refine Int.le_trans this (by decide)
theorem r_par3 {tA : TA} {σ : L2.St} {nx bk ct : L2.St → Hp → Prop} {rt : VK} {i j l : Nat} (h : tA σ H fun vs H1 => ∃ x y z, vs = [x, y, z] ∧ nx (((σ.set i (some x)).set j (some y)).set l (some z)) H1) : tPar3 i j l tA ⟨nx, rt, bk, ct⟩ σ H := h
theorem r_ex3 {f : V → V → V → Prop} {x y z : V} (h : f x y z) : ∃ u v w, [x, y, z] = [u, v, w] ∧ f u v w := ⟨x, y, z, rfl, h⟩
theorem r_ixQL {p : Addr} {xs : List V} {i : Int} {v : V} (h : SqL K H p xs) (ha : atI xs i = some v) (q : Q v H) : rIx K (.ref p) (.int i) H Q := .inl ⟨p, xs, i, v, rfl, rfl, h, ha, q⟩
theorem r_ixQT {p : Addr} {xs : List V} {i : Int} {v : V} (h : SqT K H p xs) (ha : atI xs i = some v) (q : Q v H) : rIx K (.ref p) (.int i) H Q := .inr (.inl ⟨p, xs, i, v, rfl, rfl, h, ha, q⟩)
theorem r_reverse {p : Addr} {xs : List V} (h : H p = some (.lst xs)) (q : Q .non (upd H p (.lst xs.reverse))) : rReverse (.ref p) [] H Q := ⟨p, xs, rfl, rfl, h, q⟩
theorem r_extend {p b : Addr} {xs zs : List V} (h : H p = some (.lst xs)) (g : H b = some (.lst zs)) (hz : xs.length + zs.length ≤ sizeLine) (q : Q .non (upd H p (.lst (xs ++ zs)))) : rExtend (.ref p) [.ref b] H Q := ⟨p, b, xs, zs, rfl, rfl, h, g, hz, q⟩
theorem r_cat {p b : Addr} {xs ys : List V} (h : H p = some (.lst xs)) (g : H b = some (.lst ys)) (hz : xs.length + ys.length ≤ sizeLine) (q : ∀ n, H n = none → Q (.ref n) (upd H n (.lst (xs ++ ys)))) : rCat (.ref p) (.ref b) H Q := ⟨p, b, xs, ys, rfl, rfl, h, g, hz, q⟩
theorem cut_any {xs : List V} {z y : Int} {a b : Nat} (h : z = (a : Int)) (g : y = (b : Int)) : cutV xs (some z) (some y) = (xs.drop a).take (b - a) := by
  subst h; subst g
  unfold cutV
  rw [show HT.sIx xs.length 0 (some (a : Int)) = min a xs.length from HT.sIx_nat xs.length 0 a, show HT.sIx xs.length xs.length (some (b : Int)) = min b xs.length from HT.sIx_nat xs.length xs.length b]
  by_cases q : a ≤ xs.length
  · rw [Nat.min_eq_left q]
    by_cases q2 : b ≤ xs.length
    · rw [Nat.min_eq_left q2]
    · rw [Nat.min_eq_right (by omega), List.take_of_length_le (by rw [List.length_drop]; omega), List.take_of_length_le (by rw [List.length_drop]; omega)]
  · rw [Nat.min_eq_right (show xs.length ≤ a by omega), List.drop_of_length_le (Nat.le_refl _), List.drop_of_length_le (show xs.length ≤ a by omega)]; simp
/-! ### data kept -/
theorem sqT_same {a : Addr} {xs : List V} (s : Same H H') (h : SqT K H a xs) : SqT K H' a xs := by
  rcases h with (h | ⟨o, h⟩) | h
  · exact .inl (.inl (s _ _ h))
  · exact .inl (.inr ⟨o, s _ _ h⟩)
  · exact .inr h
mutual
theorem dp_same (s : Same H H') : ∀ (d : PyData) (v : V), Dp K H v d → Dp K H' v d
  | .none, _, h => by cases h; exact .non
  | .bool b, _, h => by cases h; exact .bl b
  | .int i, _, h => by cases h; exact .int i
  | .str y, _, h => by cases h; exact .str y
  | .list ds, _, h => by
    cases h with
    | lst e a => exact .lst (s.seq e) (dp_sameAll s ds _ a)
  | .tuple ds, _, h => by
    cases h with
    | tup e a => exact .tup (sqT_same s e) (dp_sameAll s ds _ a)
  | .dict _, _, h => by cases h
theorem dp_sameAll (s : Same H H') : ∀ (ds : List PyData) (vs : List V), DpAll K H vs ds → DpAll K H' vs ds
  | [], _, h => by cases h; exact .nil
  | d :: ds, _, h => by
    cases h with
    | cons a b => exact .cons (dp_same s d _ a) (dp_sameAll s ds _ b)
end
theorem dpall_len : ∀ {vs : List V} {ds : List PyData}, DpAll K H vs ds → vs.length = ds.length
  | _, _, .nil => rfl
  | _, _, .cons _ b => congrArg (· + 1) (dpall_len b)
theorem dpall_at : ∀ {vs : List V} {ds : List PyData} (h : DpAll K H vs ds) (i : Nat) (hi : i < ds.length), ∃ v, vs[i]? = some v ∧ Dp K H v ds[i]
  | _, _, .cons a b, 0, _ => ⟨_, rfl, a⟩
  | _, _, .cons a b, i + 1, hi => dpall_at b i (Nat.lt_of_succ_lt_succ hi)
theorem depth_at : ∀ {ds : List PyData} {i : Nat} (hi : i < ds.length), ds[i].depth ≤ PyData.depthAll ds
  | d :: ds, 0, _ => Nat.le_max_left _ _
  | d :: ds, i + 1, hi => Nat.le_trans (depth_at (ds := ds) (Nat.lt_of_succ_lt_succ hi)) (Nat.le_max_right _ _)
end
end Xk

set_option Elab.async false
set_option linter.all false
set_option maxRecDepth 100000
namespace Xk
open PySem PySem.Spec PyProof.Rows L2
/-- a new object; the heap behind it is any that keeps all and has it -/
def New (Q : VK) (H : Hp) (o : HO) : Prop := ∀ p, H p = none → Q (.ref p) (upd H p o)
section
variable {K : PySem.W.Frag} {σ : L2.St} {H : Hp} {Q : VK} {o : HO} {tA : TA} {te : TE} {p b : Addr} {xs ys : List V} {ns ms : List Int}
theorem new_ (h : ∀ (p : Addr) (H' : Hp), H p = none → Same H H' → H' p = some o → Q (.ref p) H') : New Q H o := fun p np => h p _ np (same_new np) upd_same
theorem n_lst (h : tA σ H fun xs H1 => xs.length ≤ sizeLine ∧ New Q H1 (.lst xs)) : tLst tA σ H Q := h
theorem n_tup (h : tA σ H fun xs H1 => xs.length ≤ sizeLine ∧ New Q H1 (.tup xs)) : tTup tA σ H Q := h
theorem n_slL {lo hi : Option Int} (h : SqL K H p xs) (q : New Q H (.lst (cutV xs lo hi))) : rSlL K (.ref p) lo hi H Q := ⟨p, xs, rfl, h, q⟩
theorem n_slF {z : Int} {a : Nat} (h : SqL K H p (ns.map V.int)) (e : z = (a : Int)) (q : New Q H (.lst ((ns.drop a).map V.int))) : rSlL K (.ref p) (some z) none H Q :=
  n_slL h (by rw [cut_from e, ← List.map_drop]; exact q)
theorem n_slT {z : Int} {a : Nat} (h : SqL K H p (ns.map V.int)) (e : z = (a : Int)) (q : New Q H (.lst ((ns.take a).map V.int))) : rSlL K (.ref p) none (some z) H Q :=
  n_slL h (by rw [cut_to e, ← List.map_take]; exact q)
theorem n_slM {z y : Int} {a c : Nat} (h : SqL K H p (ns.map V.int)) (e : z = (a : Int)) (g : y = (c : Int)) (q : New Q H (.lst (((ns.drop a).take (c - a)).map V.int))) : rSlL K (.ref p) (some z) (some y) H Q :=
  n_slL h (by rw [cut_any e g, ← List.map_drop, ← List.map_take]; exact q)
theorem n_listOf (h : SqL K H p xs) (q : New Q H (.lst xs)) : rListOf K [.ref p] H Q := ⟨p, xs, rfl, .inl h, q⟩
theorem n_lrg {tr : L2.St → Hp → (Int → Int → Hp → Prop) → Prop} (h : tr σ H fun a b H1 => RgOk a b ∧ New Q H1 (.lst (rgV a b))) : tLstRg tr σ H Q := h
theorem n_revL (h : te σ H fun x H1 => ∃ a xs, x = .ref a ∧ SqL K H1 a xs ∧ New Q H1 (.lst xs.reverse)) : tRevL K te σ H Q := h
theorem n_cat (h : H p = some (.lst xs)) (g : H b = some (.lst ys)) (hz : xs.length + ys.length ≤ sizeLine) (q : New Q H (.lst (xs ++ ys))) : rCat (.ref p) (.ref b) H Q := ⟨p, b, xs, ys, rfl, rfl, h, g, hz, q⟩
theorem n_catI (h : H p = some (.lst (ns.map V.int))) (g : H b = some (.lst (ms.map V.int))) (hz : ns.length + ms.length ≤ 16777216) (q : New Q H (.lst ((ns ++ ms).map V.int))) : rCat (.ref p) (.ref b) H Q :=
  n_cat h g (by rw [List.length_map, List.length_map]; exact hz) (by rw [← List.map_append]; exact q)
theorem s_trans {H0 H1 H2 : Hp} (b : Same H1 H2) (a : Same H0 H1) : Same H0 H2 := a.trans b
theorem s_new {H0 H : Hp} {a : Addr} {o : HO} (np : H a = none) (s : Same H0 H) : Same H0 (upd H a o) := s.trans (same_new np)
theorem sq_new {K : PySem.W.Frag} {H : Hp} {a b : Addr} {o : HO} {xs : List V} (np : H a = none) (s : SqL K H b xs) : SqL K (upd H a o) b xs := (same_new np).seq s
theorem ne_n {H : Hp} {a b : Addr} {u : HO} (n : H b = none) (h : H a = some u) : a ≠ b := ne_of_none h n
theorem ne_n' {H : Hp} {a b : Addr} {u : HO} (n : H a = none) (h : H b = some u) : a ≠ b := (ne_of_none h n).symm
theorem c_chain {r r' : R2} {ta tb tc : TE} {σ : L2.St} {H : Hp} {Q : VK} (h : ta σ H fun x H1 => tb σ H1 fun y H2 => r x y H2 fun z H3 => ∃ k, z = .bl k ∧ (if k = true then tc σ H3 fun w' H4 => r' y w' H4 Q else Q (.bl false) H3)) : tChain r r' ta tb tc σ H Q := h
theorem n_rep {l : Addr} {n : Nat} {zs : List V} (h : H l = some (.lst zs)) (hn : n ≤ 1000000) (hz : zs.length * n ≤ 16777216) (q : New Q H (.lst (List.replicate n zs).flatten)) : rRep (.ref l) (.int (n : Int)) H Q :=
  ⟨l, n, zs, rfl, rfl, h, by omega, by omega, by rw [Int.toNat_natCast]; exact hz, fun p np => by rw [Int.toNat_natCast]; exact q p np⟩
theorem new_map {xs : List Int} {u : List V} (e : u = xs.map V.int) (h : New Q H (.lst (xs.map V.int))) : New Q H (.lst u) := e ▸ h
end
end Xk
/-- what stands in a heap, and what keeps: back along the one step that made each heap -/
local macro_rules | `(tactic| fail "kp") => `(tactic| with_reducible first
  | assumption | exact L2.upd_same | exact L2.Same.refl _
  | (apply Xk.same_to; assumption; fail "kp")
  | (apply L2.Same.seq; assumption; fail "kp")
  | (apply Xk.sx_to; assumption; fail "kpn"; fail "kp")
  | (apply Xk.upd_old; assumption; fail "kp")
  | (apply Xk.upd_to; fail "kpn"; fail "kp")
  | (apply Xk.s_trans; assumption; fail "kp")
  | (apply Xk.s_new; assumption; fail "kp")
  | (apply Xk.sq_new; assumption; fail "kp")
  | (apply Xk.sqT_same; assumption; fail "kp")
  | (apply Xk.sq; fail "kp")
  | (apply Xk.sqT; fail "kp"))
/-- another address -/
local macro_rules | `(tactic| fail "kpn") => `(tactic| with_reducible first | assumption | (apply Ne.symm; assumption) | (apply Xk.ne_n; assumption; fail "kp") | (apply Xk.ne_n'; assumption; fail "kp"))
local macro_rules | `(tactic| fail "ww1") => `(tactic| with_reducible first
  | refine Xk.c_chain ?_ | refine Xk.n_lst ?_ | refine Xk.n_tup ?_ | refine Xk.n_lrg ?_ | refine Xk.n_revL ?_)
local macro_rules | `(tactic| fail "ww2") => `(tactic| first
  | ((with_reducible refine' Xk.r_var ?hv ?_); (case hv => exact rfl))
  | ((with_reducible refine' Xk.r_aug ?hv ?_); (case hv => exact rfl))
  | ((with_reducible refine' Xk.r_ixL ?hv ?hw ?_); (case hv => fail "kp"); (case hw => fail "at"))
  | ((with_reducible refine' Xk.r_setL ?hv ?hw ?_); (case hv => fail "kp"); (case hw => fail "ix"))
  | ((with_reducible refine' Xk.r_gtup ?hv ?hw ?_); (case hv => exact Xk.sqT (by fail "kp")); (case hw => exact rfl))
  | ((with_reducible refine' ⟨Xk.ty_list (K := _) (xs := _) ?hv, ?_⟩); (case hv => fail "kp"))
  | ((with_reducible refine' Xk.r_append ?hv ?hw ?_); (case hv => fail "kp"); (case hw => fail "sd"))
  | ((with_reducible refine' Xk.r_I (C := fun _ j => 0 < j) ?hv ?_); (case hv => (first | omega | (show (0 : Int) < _; omega) | decide)))
  | ((with_reducible refine' Xk.r_len ?hv ?_); (case hv => fail "kp"))
  | ((with_reducible refine' Xk.n_listOf ?hv ?_); (case hv => fail "kp"))
  | ((with_reducible refine' Xk.r_I (C := Xk.CPowW) ?hv ?_); (case hv => exact ⟨by decide, by decide⟩))
  | (with_reducible refine ⟨Xk.szL (by with_unfolding_all rfl), ?_⟩)
  | ((with_reducible refine' ⟨_, _, rfl, ?hv, ?_⟩); (case hv => ((with_reducible show L2.SqL _ _ _ _); fail "kp")))
  | (with_reducible refine ⟨_, _, _, _, rfl, Xk.sq (by fail "kp"), Xk.sq (by fail "kp"), ?_⟩)
  | ((with_reducible refine' ⟨⟨_, ?hv⟩, ?_⟩); (case hv => ((with_reducible show L2.SqL _ _ _ _); fail "kp")))
  | (with_reducible refine Or.inl ⟨_, rfl, ?_⟩) | (with_reducible refine Or.inr ⟨_, rfl, ?_⟩)
  | (with_reducible refine ⟨_, _, rfl, rfl, ?_⟩) | (with_reducible refine ⟨_, rfl, ?_⟩) | (with_reducible refine ⟨_, _, rfl, ?_⟩))
local macro_rules | `(tactic| fail "ww") => `(tactic| repeat (first | fail "ww1" | fail "one" | fail "ww2"))

set_option Elab.async false
set_option linter.all false
set_option maxRecDepth 100000
namespace Xk
open PySem PySem.Spec PyProof.Rows L2
/-! ### a op1 b op2 c op3 d -/
section
variable {X : Cx} {a b c d : Expr} {ta tb tc td : TE} {pos : Pos}
def tChain3 (r r' r'' : R2) (ta tb tc td : TE) : TE := fun σ H Q => ta σ H fun x H1 => tb σ H1 fun y H2 => r x y H2 fun z H3 => ∃ k, z = .bl k ∧
  (if k = true then tc σ H3 fun w H4 => r' y w H4 fun z2 H5 => ∃ k2, z2 = .bl k2 ∧ (if k2 = true then td σ H5 fun u H6 => r'' w u H6 Q else Q (.bl false) H5) else Q (.bl false) H3)
theorem pt_chain3 {op op' op2 : CmpOp} {r r' r'' : R2} (ho : OpR X (compareOp op) r) (ho' : OpR X (compareOp op') r') (ho2 : OpR X (compareOp op2) r'') (ha : PE X a ta) (hb : PE X b tb) (hc : PE X c tc) (hd : PE X d td)
    (hm : lastMarks [op, op', op2] [b, c, d] = false := by with_unfolding_all rfl) : PT X (.Compare a [op, op', op2] [b, c, d] pos) (tTest (tChain3 r r' r'' ta tb tc td)) := by
  refine ⟨fun pins s σ H Q I h => ?_⟩
  refine isTrue_chain (thn (ha.run pins s σ H _ I h) fun v s1 ⟨x, H1, I1, r1, q1⟩ => test_link (thn (hb.run pins s1 σ H1 _ I1 q1) fun u s2 ⟨y, H2, I2, r2, q2⟩ =>
    thn (ho pins s2 σ H2 x y v u _ I2 r1 r2 q2) fun d s3 ⟨z, H3, I3, r3, k, e, q3⟩ => ?_)) hm
  subst e
  cases r3
  refine wpAny_truthy_bool ?_
  cases k with
  | false =>
    obtain ⟨k', e', q'⟩ := q3
    cases e'
    exact ite_ff ⟨H3, I3, q'⟩
  | true =>
    refine ite_tt (test_link (thn (hc.run pins s3 σ H3 _ I3 q3) fun w' s4 ⟨z', H4, I4, r4, q4⟩ => thn (ho' pins s4 σ H4 y z' u w' _ I4 r2 r4 q4) fun d' s5 ⟨z2, H5, I5, r5, k2, e2, q5⟩ => ?_))
    subst e2
    cases r5
    refine wpAny_truthy_bool ?_
    cases k2 with
    | false =>
      obtain ⟨k', e', q'⟩ := q5
      cases e'
      exact ite_ff ⟨H5, I5, q'⟩
    | true =>
      refine ite_tt (test_last (thn (hd.run pins s5 σ H5 _ I5 q5) fun w2 s6 ⟨z6, H6, I6, r6, q6⟩ => thn (ho2 pins s6 σ H6 z' z6 w' w2 _ I6 r4 r6 q6) fun d' s7 ⟨z3, H7, I7, r7, k3, e3, q7⟩ => ?_))
      subst e3
      cases r7
      exact wpAny_truthy_bool ⟨H7, I7, q7⟩
theorem pe_chain3 {op op' op2 : CmpOp} {r r' r'' : R2} (ho : OpR X (compareOp op) r) (ho' : OpR X (compareOp op') r') (ho2 : OpR X (compareOp op2) r'') (ha : PE X a ta) (hb : PE X b tb) (hc : PE X c tc) (hd : PE X d td)
    (hm : lastMarks [op, op', op2] [b, c, d] = false := by with_unfolding_all rfl) : PE X (.Compare a [op, op', op2] [b, c, d] pos) (tChain3 r r' r'' ta tb tc td) := by
  refine ⟨fun pins s σ H Q I h => ?_⟩
  refine Compare_chain (thn (ha.run pins s σ H _ I h) fun v s1 ⟨x, H1, I1, r1, q1⟩ => chain_link (thn (hb.run pins s1 σ H1 _ I1 q1) fun u s2 ⟨y, H2, I2, r2, q2⟩ =>
    thn (ho pins s2 σ H2 x y v u _ I2 r1 r2 q2) fun d s3 ⟨z, H3, I3, r3, k, e, q3⟩ => ?_)) hm
  subst e
  cases r3
  refine wpAny_truthy_bool ?_
  cases k with
  | false => exact ite_ff ⟨.bl false, H3, I3, rfl, q3⟩
  | true =>
    refine ite_tt (chain_link (thn (hc.run pins s3 σ H3 _ I3 q3) fun w' s4 ⟨z', H4, I4, r4, q4⟩ => thn (ho' pins s4 σ H4 y z' u w' _ I4 r2 r4 q4) fun d' s5 ⟨z2, H5, I5, r5, k2, e2, q5⟩ => ?_))
    subst e2
    cases r5
    refine wpAny_truthy_bool ?_
    cases k2 with
    | false => exact ite_ff ⟨.bl false, H5, I5, rfl, q5⟩
    | true => exact ite_tt (chain_last (thn (hd.run pins s5 σ H5 _ I5 q5) fun w2 s6 ⟨z6, H6, I6, r6, q6⟩ => ho2 pins s6 σ H6 z' z6 w' w2 Q I6 r4 r6 q6))
theorem c_chain3 {r r' r'' : R2} {σ : L2.St} {H : Hp} {Q : VK} (h : ta σ H fun x H1 => tb σ H1 fun y H2 => r x y H2 fun z H3 => ∃ k, z = .bl k ∧
  (if k = true then tc σ H3 fun w H4 => r' y w H4 fun z2 H5 => ∃ k2, z2 = .bl k2 ∧ (if k2 = true then td σ H5 fun u H6 => r'' w u H6 Q else Q (.bl false) H5) else Q (.bl false) H3)) : tChain3 r r' r'' ta tb tc td σ H Q := h
end
end Xk
local macro_rules | `(tactic| fail "ww1") => `(tactic| with_reducible refine Xk.c_chain3 ?_)

set_option Elab.async false
set_option linter.all false
set_option maxRecDepth 100000
set_option maxHeartbeats 20000000
namespace Xk
open PySem PySem.Spec PyProof.Rows L2
/-! ### defs that raise -/
section
variable {P : Program} {w : World} {K : PySem.W.Frag} {mg : Str → Option Value} {B : Heap} {n : Nat} {g : Addr} {fd : FuncData} {ps : List Str} {sp sp2 : Sp}
/-- what raises nothing, where something may -/
theorem FnG.lift (F : FnG P w K mg B L2.CX0 n g fd ps sp) : FnG P w K mg B (L2N.CX P w) n g fd ps sp :=
  ⟨F.cnt, fun A ou t H ar us vs Q E hG room env bi rv hs => codeAny_mono (F.go A ou t H ar us vs Q E hG room env bi rv hs) fun r s' y => by
    match r, y with
    | .error e, y => exact y.elim
    | .ok (.ret u), y => exact y
    | .ok .next, y => exact y
    | .ok .brk, y => exact y
    | .ok .cont, y => exact y⟩
theorem FnG.up {CX : CXT} {m : Nat} (F : FnG P w K mg B CX n g fd ps sp) (h : n ≤ m) : FnG P w K mg B CX m g fd ps sp :=
  ⟨F.cnt, fun A ou t H ar us vs Q E hG room => F.go A ou t H ar us vs Q E hG (room.mono h)⟩
/-- either promise -/
def spOr (sp sp2 : Sp) : Sp := fun vs H Q E => sp vs H Q E ∨ sp2 vs H Q E
theorem FnG.or {CX : CXT} (F : FnG P w K mg B CX n g fd ps sp) (F2 : FnG P w K mg B CX n g fd ps sp2) : FnG P w K mg B CX n g fd ps (spOr sp sp2) :=
  ⟨fun vs H Q E h => h.elim (F.cnt vs H Q E) (F2.cnt vs H Q E), fun A ou t H ar us vs Q E hG room env bi rv hs => hs.elim (F.go A ou t H ar us vs Q E hG room env bi rv) (F2.go A ou t H ar us vs Q E hG room env bi rv)⟩
end
section
variable {P : Program} {w : World} {K : PySem.W.Frag} {mg : Str → Option Value} {base : Heap}
/-- as okG, for a def that may raise -/
theorem okX {x qual : Str} {st : Stmt} {f : Addr} {fd : FuncData} {N ps : List Str} {k : Nat} {sp : Sp} (F : Fun K x qual st f fd) (S : FnScope N ps (defScope st)) (cnt : ∀ vs H Q E, sp vs H Q E → vs.length = ps.length)
    (body : ∀ (cdv : Value) (A : Around) (ou : List Env) (t : Shared) (H : Hp) (vs : List V) (Q : VK) (E : XK), A.guards = some [] → Room k (A.deeper (envOfC qual (defScope st) t.heap.objs.size f cdv)) → sp vs H Q E →
      ∃ r, PSs (cxOf (L2N.CX P w) P w K mg base N qual (defScope st) f cdv A ou t H E) (defBody st) r ∧ r ⟨fun _ H' => Q .non H', Q, fun _ _ => False, fun _ _ => False⟩ (L2.start N vs) H) : FnG P w K mg base (L2N.CX P w) (k + 1) f fd ps sp := by
  obtain ⟨oc, od, kV, doc, pm, an, cdv, ct, osl, rfl, lk, hcd⟩ := F.ex
  exact fnG_of lk hcd S cnt fun A ou t H vs Q E hG hr hsp => body cdv A ou t H vs Q E hG hr hsp
end
/-! ### the call of such a def -/
section
variable {X : Cx} {W : WX} {n : Nat} {g : Addr} {fd : FuncData} {ps ks : List Str} {sp : Sp} {x : Str} {p pos : Pos} {e : Expr} {es : List Expr} {kws : List Keyword} {t tk : TA}
theorem endX {pins : List (Addr × Obj)} {σ : L2.St} {H : Hp} {s s' : Shared} {Q : VK} {r : Result} (tk : L2N.Takes X W) (I : Inv X pins σ H s)
    (z : CR (L2N.CX X.prog X.w) X.stack X.prog X.w H s Q (WE W σ) r s') :
    (match r with | .ok (.ret u) => EP X pins σ Q u s' | .ok _ => False | .error er => X.xe er s') := by
  match r, z with
  | .error er, z => exact L2N.passAt tk σ pins H s er s' I z
  | .ok (.ret u), z => exact I.after z
  | .ok .next, z => exact z.elim
  | .ok .brk, z => exact z.elim
  | .ok .cont, z => exact z.elim
theorem goX {pins : List (Addr × Obj)} {σ : L2.St} {H : Hp} {s : Shared} {Q : VK} {us : List Value} {vs : List V} (F : FnG X.prog X.w X.K X.mg X.base (L2N.CX X.prog X.w) n g fd ps sp)
    (hG : X.A.guards = some []) (room : Room n X.A) (bi : Binds X.K fd ps []) (tk : L2N.Takes X W) (I : Inv X pins σ H s) (rv : Vals vs us) (z : sp vs H Q (WE W σ)) :
    wpAny (model X.prog X.w) X.A (PySem.call (.ref g) us) (EP X pins σ Q) X.xe s := by
  have hlen : us.length = ps.length := rv.length ▸ F.cnt _ _ _ _ z
  have b := bi s us I.kIn (by rw [List.append_nil]; exact hlen)
  rw [List.append_nil] at b
  exact wpAny_call (codeAny_mono (F.go X.A X.stack s H ⟨us, []⟩ _ _ Q (WE W σ) hG room I.env0 b rv z) fun r s' y => by
    have := endX tk I y
    revert this
    cases r with
    | error _ => exact id
    | ok fl => cases fl <;> exact id)
def tCallX (sp : Sp) (W : WX) (t : TA) : TE := fun σ H Q => t σ H fun vs H1 => sp vs H1 Q fun cls d H' => W cls d σ H'
theorem pe_callX (F : FnG X.prog X.w X.K X.mg X.base (L2N.CX X.prog X.w) n g fd ps sp) (hG : X.A.guards = some []) (room : Room n X.A) (gx : Gl X x) (at' : X.mg x = some (.ref g)) (kp : PySem.W.keepIn X.K (.ref g) = true)
    (bi : Binds X.K fd ps []) (tk : L2N.Takes X W) (ha : PA X (e :: es) t) (hdb : (x == ("__debug__" : Str)) = false := by decide)
    (he : starEach (e :: es) X.env = (false, eval e X.env) :: starEach es X.env := by rfl) (hpl : (backTo pos (starEach es X.env)).any (·.1) = false := by rfl) : PE X (.Call (.Name x p) (e :: es) [] pos) (tCallX sp W t) :=
  ⟨fun pins s σ H Q I z => wpAny_Call_Name_kw (ld_glob I gx at'
    (PySem.W.callWith_K (h₀ := X.base) I.ok.mod.kin kp (thn (ha.run pos pins s σ H _ I z) fun us s1 ⟨vs, H1, I1, r, q⟩ => ⟨I1.kIn, goX F hG room bi tk I1 r q⟩) he hpl) hdb)⟩
variable {ff : List Value → List Value → List Value} {fV : List V → List V → List V}
theorem goXK {pins : List (Addr × Obj)} {σ : L2.St} {H : Hp} {s : Shared} {Q : VK} {us ws : List Value} {vs zs : List V} (F : FnG X.prog X.w X.K X.mg X.base (L2N.CX X.prog X.w) n g fd ps sp)
    (hG : X.A.guards = some []) (room : Room n X.A) (bi : KBinds X.K fd ps ks ff fV) (tk : L2N.Takes X W) (I : Inv X pins σ H s) (rv : Vals vs us) (rw' : Vals zs ws) (z : sp (fV vs zs) H Q (WE W σ)) :
    wpAny (model X.prog X.w) X.A (PySem.call (.ref g) us (ks.zip ws)) (EP X pins σ Q) X.xe s := by
  have rv2 := bi.rel rv rw'
  have hlen : (ff us ws).length = ps.length := rv2.length ▸ F.cnt _ _ _ _ z
  exact wpAny_call (codeAny_mono (F.go X.A X.stack s H ⟨us, ks.zip ws⟩ _ _ Q (WE W σ) hG room I.env0 (bi.to s us ws I.kIn hlen) rv2 z) fun r s' y => by
    have := endX tk I y
    revert this
    cases r with
    | error _ => exact id
    | ok fl => cases fl <;> exact id)
def tCallXK (sp : Sp) (fV : List V → List V → List V) (W : WX) (t tk : TA) : TE := fun σ H Q => t σ H fun vs H1 => tk σ H1 fun zs H2 => sp (fV vs zs) H2 Q fun cls d H' => W cls d σ H'
theorem pe_callXK0 (F : FnG X.prog X.w X.K X.mg X.base (L2N.CX X.prog X.w) n g fd ps sp) (hG : X.A.guards = some []) (room : Room n X.A) (gx : Gl X x) (at' : X.mg x = some (.ref g)) (kp : PySem.W.keepIn X.K (.ref g) = true)
    (bi : KBinds X.K fd ps ks ff fV) (tw : L2N.Takes X W) (hkw : PK X kws tk) (hdb : (x == ("__debug__" : Str)) = false := by decide)
    (all' : (backToKw pos (keywordEach kws X.env)).all (·.1.isSome) = true := by rfl) (nms : (backToKw pos (keywordEach kws X.env)).filterMap (·.1) = ks := by rfl)
    (hpl : ((backTo pos (starEach [] X.env)).any (·.1) || (backToKw pos (keywordEach kws X.env)).any (·.1.isNone)) = false := by rfl) :
    PE X (.Call (.Name x p) [] kws pos) (tCallXK sp fV W tNil tk) := by
  subst nms
  exact ⟨fun pins s σ H Q I z => wpAny_Call_Name_kw (ld_glob I gx at'
    (PySem.W.callWith_KW0 (h₀ := X.base) I.ok.mod.kin kp all' (thn (hkw.run pos pins s σ H _ I z) fun ws s2 ⟨zs, H2, I2, rz, q2⟩ => ⟨I2.kIn, goXK F hG room bi tw I2 .nil rz q2⟩) hpl) hdb)⟩
end
/-! ### an error class with one field, "value" -/
/-- x stands for the class at C; S is the class that clauses name -/
structure ErrC (K : PySem.W.Frag) (mg : Str → Option Value) (x : Str) (S C fI : Addr) : Prop where
  gC : mg x = some (.ref C)
  ox : OexC K C
  iC : PySem.W.findIn K (.ref C) "__init__" = some (some (.ref fI))
  tI : PySem.W.typeIn K (.ref fI) = some (.type "function")
  xf : XfC K C
  no : PySem.W.findIn K (.ref C) "value" = some none
  te : PySem.W.exmOne K (.ref C) (.ref S) = some true
/-- __init__(self, value): self.value = value -/
def spIni (K : PySem.W.Frag) (C : Addr) : Sp := fun vs H Q _ => ∃ (a : Addr) (y : V), vs = [.ref a, y] ∧ OexC K C ∧ PySem.W.findIn K (.ref C) "value" = some none ∧ H a = some (exo a C none) ∧
  ∀ dx, H dx = none → dx ≠ a → Q .non (upd (upd H dx (exd dx [(("value" : Str), y)])) a (exo a C (some dx)))
theorem ini_read {K : PySem.W.Frag} {C : Addr} {vs : List V} {H : Hp} {Q : VK} {E : XK} (h : spIni K C vs H Q E) :
    tSeq (tOst K "value" (tVar 0) (tVar 1)) tNext { nx := fun _ H' => Q .non H', rt := Q } (L2.start ["self", "value"] vs) H := by
  obtain ⟨a, y, rfl, T, no, e, q⟩ := h
  exact ⟨_, rfl, _, rfl, a, C, rfl, T, no, .inl ⟨e, fun dx n ne => q dx n ne⟩⟩
/-- C(e) -/
def tMkV (C : Addr) (ta : TA) : L2.St → Hp → XK → Prop := fun σ H Q => ta σ H fun vs H1 => ∃ y, vs = [y] ∧ ∀ d, H1 d = none → Q (.ref C) (some d) (upd H1 d (.xd [(("value" : Str), y)]))
section
variable {X : Cx} {W : WX} {x : Str} {S C fI : Addr} {k : Nat} {fd : FuncData} {e : Expr} {ta : TA} {p pos pos2 : Pos}
/-- C(e), by its own __init__, where nothing is handled -/
theorem pmk_val (T : ErrC X.K X.mg x S C fI) (F1 : FnOk X.prog X.w X.K X.mg X.base L2.CX0 k fI fd ["self", "value"] (spIni X.K C)) (hr : Room (k + 1) X.A) (hb : Binds X.K fd ["self", "value"] []) (hg : Gl X x) (ha : PA X [e] ta)
    (hdb : (x == ("__debug__" : Str)) = false := by decide) (he : starEach (e :: []) X.env = (false, eval e X.env) :: starEach [] X.env := by rfl) (hpl : (backTo pos (starEach [] X.env)).any (·.1) = false := by rfl) :
    L2N.PMk X (.Call (.Name x p) [e] [] pos) (tMkV C ta) := by
  intro pins s σ H Q I z
  obtain ⟨_, _, _, _, bm, _, _, _, _, _, _, _, _, _, _, look, refs⟩ := T.ox.cls
  refine wpAny_Call_Name_kw (ld_glob I hg T.gC (PySem.W.callWith_K (h₀ := X.base) I.ok.mod.kin T.ox.kC ?_ he hpl) hdb)
  refine thn (ha.run pos pins s σ H _ I z) fun us ⟨hp, gn, dr, tk, os⟩ ⟨vs, H1, J, rel, y, hy, q⟩ => ⟨J.kIn, ?_⟩
  subst hy
  cases rel with
  | @cons _ u _ us' ry rest =>
  cases rest
  show wpAny (model X.prog X.w) X.A (PySem.call (.ref C) [u]) _ _ _
  -- the exception, bare, and the tuple of what it was made of
  have grow : ∀ b o, hp.get? b = some o → ((hp.push (PySem.W.kdv_tup [u])).push (PySem.HandSPX.excO C hp.objs.size)).get? b = some o := fun b o g => Heap.get?_push_of_some _ (Heap.get?_push_of_some _ g)
  have here : ((hp.push (PySem.W.kdv_tup [u])).push (PySem.HandSPX.excO C hp.objs.size)).get? (hp.objs.size + 1) = some (PySem.HandSPX.excO C hp.objs.size) := by heap_get
  obtain ⟨a, ea⟩ : ∃ a, a = hp.objs.size + 1 := ⟨_, rfl⟩
  have above : hp.objs.size ≤ a := by omega
  have free : H1 a = none := J.hok.fresh above
  rw [← ea] at here
  have J2 : Inv X pins σ (upd H1 a (exo a C none)) ⟨(hp.push (PySem.W.kdv_tup [u])).push (PySem.HandSPX.excO C hp.objs.size), gn, dr, tk, os⟩ :=
    J.laid (t' := tk) (o := exo a C none) grow above (exo_ok here)
  have vals : Vals [V.ref a, y] [Value.ref a, u] := .cons rfl (.cons ry .nil)
  have pr : spIni X.K C [V.ref a, y] (upd H1 a (exo a C none)) (fun v H2 => v = .non ∧ ∃ d, H1 d = none ∧ d ≠ a ∧ H2 = upd (upd (upd H1 a (exo a C none)) d (exd d [(("value" : Str), y)])) a (exo a C (some d))) (fun _ _ _ => False) :=
    ⟨a, y, rfl, T.ox, T.no, upd_same, fun d hd ne => ⟨rfl, d, by rw [upd_ne ne] at hd; exact hd, ne, rfl⟩⟩
  have bd := hb _ [Value.ref a, u] J2.kIn rfl
  refine wpAny_call (PySem.HandSPX.call_own F.excBase_ValueError (fun Y => PySem.HandSPX.refsVE_contains Y bm refs) (J.kIn _ _ look) (PySem.W.looks_findIn J.kIn T.iC) (fun self => PySem.W.bind_fn J.kIn self T.tI) (by show 1 ≤ 16777216; decide) ?_)
  rw [← ea]
  refine codeAny_mono (F1.run _ X.stack _ _ ⟨[Value.ref a, u], []⟩ [Value.ref a, u] _ _ (fun _ _ _ => False) (hr.make C [u] []) (J2.env0.make C [u] []) bd vals pr) fun r ⟨h2, g2, d2, t2, o2⟩ res => ?_
  match r, res with
  | .error _, res => exact res.elim
  | .ok .next, res => exact res.elim
  | .ok .brk, res => exact res.elim
  | .ok .cont, res => exact res.elim
  | .ok (.ret v), ⟨x2, H2, os2, bare2, un2, hok2, rv, ⟨ex, d, hd, ne, eH⟩⟩ =>
    subst ex
    have ea2 : H2 a = some (exo a C (some d)) := by rw [eH]; exact upd_same
    have ed2 : H2 d = some (exd d [(("value" : Str), y)]) := by rw [eH, upd_ne ne]; exact upd_same
    obtain ⟨t0, G, J3, up, gone, obj, nx⟩ := mk_end0 (d2 := d2) (t2 := t2) J above grow un2 hok2 os2 bare2 ea2 ed2 hd
    refine ⟨rv, a, _, _, ⟨G, g2, d2, t2, o2⟩, _, .ref C, some d, rfl, J3, up, gone, obj, ⟨rfl, rfl, fun ws hw => by cases hw; rfl⟩, rfl, rfl, nx, rfl, bare2, raises_own T.ox.exC T.ox.tyC, ?_⟩
    have eq : upd (del H2 a) d (.xd [(("value" : Str), y)]) = upd H1 d (.xd [(("value" : Str), y)]) := by
      rw [eH]
      funext b
      by_cases hb : b = d
      · rw [hb, upd_same, upd_same]
      · rw [upd_ne hb, upd_ne hb]
        by_cases hc : b = a
        · rw [hc, del_same, free]
        · rw [del_ne hc, upd_ne hc, upd_ne hb, upd_ne hc]
    rw [eq]
    exact q d hd
/-- raise C(e) -/
def tRaiseV (C : Addr) (W : WX) (ta : TA) : TS := fun _ σ H => tMkV C ta σ H fun cls d H' => W cls d σ H'
theorem takesN0 {X : Cx} : L2N.Takes X (fun _ _ _ _ => False) := fun _ _ x => by
  obtain ⟨_, _, _, _, _, _, _, _, _, _, _, _, _, _, _, _, z⟩ := x
  exact z.elim
theorem ps_raiseV (hc : X.calm = true) (tk : L2N.Takes X W) (T : ErrC X.K X.mg x S C fI) (F1 : FnOk X.prog X.w X.K X.mg X.base L2.CX0 k fI fd ["self", "value"] (spIni X.K C)) (hr : Room (k + 1) X.A) (hb : Binds X.K fd ["self", "value"] []) (hg : Gl X x) (ha : PA X [e] ta)
    (hdb : (x == ("__debug__" : Str)) = false := by decide) (he : starEach (e :: []) X.env = (false, eval e X.env) :: starEach [] X.env := by rfl) (hpl : (backTo pos (starEach [] X.env)).any (·.1) = false := by rfl) :
    PS X (.Raise (some (.Call (.Name x p) [e] [] pos)) none pos2) (tRaiseV C W ta) := L2N.ps_raise hc tk (pmk_val T F1 hr hb hg ha hdb he hpl)
/-- e.f, e the exception that the suite holds, of any class -/
def tXfA (K : PySem.W.Frag) (a : Addr) (cls : Value) (d : Option Addr) (f : Str) (te : TE) : TE := fun σ H Q => te σ H fun x H1 => x = .ref a ∧ ∃ (C dd : Addr) (fs : List (Str × V)) (v : V), cls = .ref C ∧ d = some dd ∧ XfC K C ∧ PySem.W.findIn K (.ref C) f = some none ∧ H1 dd = some (.xd fs) ∧ fs.lookup f = some v ∧ Q v H1
theorem pe_xfA {q : Addr × Obj} (mem : q ∈ X.pn) {cls : Value} {d : Option Addr} {e : Expr} {te : TE} {pos : Pos} {n : Str}
    (hz : L2N.Zn cls d q.2) (hf : ∃ vs, q.2.data = .fields vs) (he : PE X e te) (hb : attributeBase e n X.env (eval e X.env) = eval e X.env := by rfl) :
    PE X (.Attribute e n pos) (tXfA X.K q.1 cls d n te) := by
  refine ⟨fun pins s σ H Q I z => attr_of hb (thn (he.run pins s σ H _ I z) fun u s1 ⟨x, H1, J, rx, ex, C, dd, fs, v, ec, ed, T, hno, ea, l, k⟩ => ?_)⟩
  subst ex ec ed
  obtain rfl : u = Value.ref q.1 := rx
  have stands := (J.pin q (List.mem_append_left _ mem)).1
  obtain ⟨mA, hns, hr⟩ : ObjOk X.prog X.w H1 s1.heap dd (.xd fs) := J.hok dd _ ea
  obtain ⟨od, ho, hl⟩ := lookIn_ns hns
  obtain ⟨u, hu, ru⟩ := RelO.some_of (v := v) (o := mA n) (l ▸ hr n)
  have at_ : PySem.W.InstAt s1.heap q.1 q.2 C (some od) := ⟨stands, hz.1, by obtain ⟨vs, hd⟩ := hf; unfold PySem.W.notCls; rw [hd], by rw [hz.2.1]; exact ho⟩
  exact HandSPX.exc_get J.kIn at_ T.ga T.gg T.exC (PySem.W.findObj_own T.hdC hno rfl (by rw [hl, hu])) (handed_of ru) ⟨v, H1, J.tok _, ru, k⟩
theorem pe_xfS {a : Addr} {oe : Obj} {cls : Value} {d : Option Addr} {pn : List (Addr × Obj)} {e : Expr} {te : TE} {pos : Pos} {n : Str}
    (hz : L2N.Zn cls d oe) (hf : ∃ vs, oe.data = .fields vs) (he : PE (X.suite a ((a, oe) :: pn)) e te) (hb : attributeBase e n X.env (eval e X.env) = eval e X.env := by rfl) :
    PE (X.suite a ((a, oe) :: pn)) (.Attribute e n pos) (tXfA X.K a cls d n te) := pe_xfA (q := (a, oe)) List.mem_cons_self hz hf he hb
end
section
variable {σ : L2.St} {H : Hp} {Q : VK} {W : WX} {sp : Sp} {t tk : TA} {fV : List V → List V → List V} {C : Addr} {D : Ends} {K : PySem.W.Frag} {a : Addr} {cls : Value} {d : Option Addr} {f : Str} {te : TE}
theorem r_callX (h : t σ H fun vs H1 => sp vs H1 Q fun cls d H' => W cls d σ H') : tCallX sp W t σ H Q := h
theorem r_callXK (h : t σ H fun vs H1 => tk σ H1 fun zs H2 => sp (fV vs zs) H2 Q fun cls d H' => W cls d σ H') : tCallXK sp fV W t tk σ H Q := h
theorem r_raiseV (h : t σ H fun vs H1 => ∃ y, vs = [y] ∧ ∀ d, H1 d = none → W (.ref C) (some d) σ (upd H1 d (.xd [(("value" : Str), y)]))) : tRaiseV C W t D σ H := h
theorem r_xfA (h : te σ H fun x H1 => x = .ref a ∧ ∃ (C dd : Addr) (fs : List (Str × V)) (v : V), cls = .ref C ∧ d = some dd ∧ XfC K C ∧ PySem.W.findIn K (.ref C) f = some none ∧ H1 dd = some (.xd fs) ∧ fs.lookup f = some v ∧ Q v H1) : tXfA K a cls d f te σ H Q := h
end
end Xk
local macro_rules | `(tactic| fail "ww1") => `(tactic| with_reducible first | refine Xk.r_callX ?_ | refine Xk.r_callXK ?_ | refine Xk.r_raiseV ?_ | refine Xk.r_xfA ?_)

set_option Elab.async false
set_option linter.all false
set_option maxRecDepth 100000
set_option maxHeartbeats 20000000
namespace Xk
open PySem PySem.Spec PyProof.Rows L2
/-! ### a list's end, whatever is handled -/
section
variable {prog : Program} {w : World} {A : Around} {E : Value → Shared → Prop} {s : Shared}
theorem list_end_hot {it l x1 : Addr} {i : Nat} {vs : Array Value} {Q : Option Value → Shared → Prop} (hot : HotX.HotAt A x1 s.heap) (hit : s.heap.IsListIter it l i) (hl : s.heap.IsList l vs) (none_ : vs[i]? = none) (hne : it ≠ x1)
    (hQ : ∀ h', (∀ b o, b ≠ it → s.heap.get? b = some o → h'.get? b = some o) → Q none { s with heap := h' }) : wpAny (model prog w) A (pyNext (.ref it)) Q E s := by
  obtain ⟨hand, o1, w1, g1, f1, c1⟩ := hot
  obtain ⟨oi, gi, ci, fi⟩ := id hit
  obtain ⟨ol, gl, _, cap, fl⟩ := hl
  unfold pyNext
  refine wpAny_bind (wpAny_attempt (wpAny_callSpecial?_slot (name := Str.ofString "__next__") hit.typeIs slot_listiter_next (wpAny_call_entry slot_listiter_next hit.typeIs entry_listiter_next ?_ (args_listiter_next _))))
  show wpAny _ _ (field (.ref it) 0 >>= _) _ _ s
  refine wpAny_bind (wpAny_field gi fi (x := .ref l) rfl ?_)
  show wpAny _ _ (if (Value.ref l == Value.none) = true then _ else _) _ _ s
  rw [show (Value.ref l == Value.none) = false from rfl, if_neg Bool.false_ne_true]
  show wpAny _ _ (field (.ref it) 1 >>= _) _ _ s
  refine wpAny_bind (wpAny_field gi fi (x := .int i 0) rfl ?_)
  show wpAny _ _ (seqItems? (.ref l) >>= _) _ _ s
  refine wpAny_bind (wpAny_seqItems gl fl ?_)
  simp only [Int.toNat_natCast, none_]
  refine wpAny_bind (wpAny_rule (wpAny_bind (wpAny_setField gi fi (by simp) ?_)))
  show wpAny _ _ (newExc (.type "StopIteration") [] >>= _) _ _ _
  refine wpAny_bind ?_
  simp only [newExc, newTuple]
  refine wpAny_bind (wpAny_newObj_type ?_ (by size_fits))
  refine wpAny_bind (m := firstArgMember _ _) (wpAny_of_eq (a := Value.none) (by first | rfl | (simp only [firstArgMember]; rfl)) ?_)
  refine wpAny_newObj_type ?_ (by size_fits)
  have old : ∀ {b o}, b ≠ it → s.heap.get? b = some o → (s.heap.update it (Obj.mapFields fun x => x.setIfInBounds 0 Value.none)).get? b = some o := fun hb g => (Heap.get?_update_other _ _ (Ne.symm hb)).trans g
  have e1 := old (Ne.symm hne) g1
  refine HotX.raiseNew_hot ⟨hand, o1, w1, Heap.get?_push_of_some _ (Heap.get?_push_of_some _ e1), f1, c1⟩ (Nat.ne_of_lt (Heap.lt_size (Heap.get?_push_of_some _ e1))) (Heap.get?_push_size _ rfl) rfl (by first | (simp; done) | (simp; omega) | (simp only [Array.size_append]; simp; omega)) ?_
  refine wpAny_bind (wpAny_isInstance (T := "StopIteration") (b := true) ⟨_, Heap.get?_update_self _ (Heap.get?_push_size _ rfl) rfl, rfl⟩ isSubtype_stop ?_)
  refine wpAny_pure (hQ _ fun b o hb g => ?_)
  have e2 := old hb g
  rw [Heap.get?_update_other _ _ (Nat.ne_of_gt (Heap.lt_size (Heap.get?_push_of_some _ e2)))]
  exact Heap.get?_push_of_some _ (Heap.get?_push_of_some _ e2)
/-- the same of a tuple's walk -/
theorem tuple_end_hot {it l x1 : Addr} {i : Nat} {vs : Array Value} {Q : Option Value → Shared → Prop} (hot : HotX.HotAt A x1 s.heap) (hit : s.heap.IsTupleIter it l i) (hl : s.heap.IsTuple l vs) (none_ : vs[i]? = none) (hne : it ≠ x1)
    (hQ : ∀ h', (∀ b o, b ≠ it → s.heap.get? b = some o → h'.get? b = some o) → Q none { s with heap := h' }) : wpAny (model prog w) A (pyNext (.ref it)) Q E s := by
  obtain ⟨hand, o1, w1, g1, f1, c1⟩ := hot
  obtain ⟨oi, gi, ci, fi⟩ := id hit
  obtain ⟨ol, gl, _, cap, fl⟩ := hl
  unfold pyNext
  refine wpAny_bind (wpAny_attempt (wpAny_callSpecial?_slot (name := Str.ofString "__next__") hit.typeIs F.slot_tuple_iterator_next (wpAny_call_entry F.slot_tuple_iterator_next hit.typeIs F.entry_tuple_iterator_next ?_ (F.args_tuple_iterator_next_1 _))))
  show wpAny _ _ (field (.ref it) 0 >>= _) _ _ s
  refine wpAny_bind (wpAny_field gi fi (x := .ref l) rfl ?_)
  show wpAny _ _ (if (Value.ref l == Value.none) = true then _ else _) _ _ s
  rw [show (Value.ref l == Value.none) = false from rfl, if_neg Bool.false_ne_true]
  show wpAny _ _ (field (.ref it) 1 >>= _) _ _ s
  refine wpAny_bind (wpAny_field gi fi (x := .int i 0) rfl ?_)
  show wpAny _ _ (seqItems? (.ref l) >>= _) _ _ s
  refine wpAny_bind (wpAny_seqItems gl fl ?_)
  simp only [Int.toNat_natCast, none_]
  refine wpAny_bind (wpAny_rule (wpAny_bind (wpAny_setField gi fi (by simp) ?_)))
  show wpAny _ _ (newExc (.type "StopIteration") [] >>= _) _ _ _
  refine wpAny_bind ?_
  simp only [newExc, newTuple]
  refine wpAny_bind (wpAny_newObj_type ?_ (by size_fits))
  refine wpAny_bind (m := firstArgMember _ _) (wpAny_of_eq (a := Value.none) (by first | rfl | (simp only [firstArgMember]; rfl)) ?_)
  refine wpAny_newObj_type ?_ (by size_fits)
  have old : ∀ {b o}, b ≠ it → s.heap.get? b = some o → (s.heap.update it (Obj.mapFields fun x => x.setIfInBounds 0 Value.none)).get? b = some o := fun hb g => (Heap.get?_update_other _ _ (Ne.symm hb)).trans g
  have e1 := old (Ne.symm hne) g1
  refine HotX.raiseNew_hot ⟨hand, o1, w1, Heap.get?_push_of_some _ (Heap.get?_push_of_some _ e1), f1, c1⟩ (Nat.ne_of_lt (Heap.lt_size (Heap.get?_push_of_some _ e1))) (Heap.get?_push_size _ rfl) rfl (by first | (simp; done) | (simp; omega) | (simp only [Array.size_append]; simp; omega)) ?_
  refine wpAny_bind (wpAny_isInstance (T := "StopIteration") (b := true) ⟨_, Heap.get?_update_self _ (Heap.get?_push_size _ rfl) rfl, rfl⟩ isSubtype_stop ?_)
  refine wpAny_pure (hQ _ fun b o hb g => ?_)
  have e2 := old hb g
  rw [Heap.get?_update_other _ _ (Nat.ne_of_gt (Heap.lt_size (Heap.get?_push_of_some _ e2)))]
  exact Heap.get?_push_of_some _ (Heap.get?_push_of_some _ e2)
/-- a tuple is taken apart while an exception is handled -/
theorem unpack_hot {t x1 : Addr} {vs : Array Value} {Q : Unit → Shared → Prop} {elts : List Expr} {k : Nat} {pos : Pos} {env : Env} (hot : HotX.HotAt A x1 s.heap) (ht : s.heap.IsTuple t vs)
    (hn : (assignEach elts env).length = vs.size) (hst : (assignEach elts env).findIdx? (·.1) = none)
    (hQ : ∀ h', (∀ b o, s.heap.get? b = some o → h'.get? b = some o) → wpAny (model prog w) A (assignInOrder ((assignEach elts env).map (·.2)) vs.toList) Q E { s with heap := h' }) :
    wpAny (model prog w) A (assign (.Tuple elts k pos) env (.ref t)) Q E s := by
  obtain ⟨o0, g0, _, _, d0⟩ := id ht
  have away : t ≠ s.heap.objs.size := Nat.ne_of_lt (Heap.lt_size g0)
  obtain ⟨hand, o1, w1, g1, f1, c1⟩ := hot
  have away1 : x1 ≠ s.heap.objs.size := Nat.ne_of_lt (Heap.lt_size g1)
  rw [arm_assign_Tuple]
  refine wpAny_bind (wpAny_standAt ?_)
  unfold unpack
  rw [hn, hst]
  refine wpAny_bind (wpAny_holding ?_)
  unfold unpackItems notIterableAtAll
  refine wpAny_bind (wpAny_bind (wpAny_specialOf ht.typeIs F.slot_tuple_iter.lookup (wpAny_pure ?_)))
  rw [if_neg (by simp)]
  refine wpAny_bind (wpAny_holding (wpAny_pyIter_tuple ht ?_))
  refine wpAny_bind (wpAny_holding (wpAny_draw_tuple away vs.size 0 _ _ ⟨_, Heap.get?_push_size _ rfl, rfl, rfl⟩ (ht.push _) (by omega) fun h1 st1 same1 => ?_))
  rw [List.drop_zero, List.take_of_length_le (by simp)]
  rw [if_neg (by simp)]
  have ht1 : h1.IsTuple t vs := (ht.push _).extBut same1.extBut away
  have gx : h1.get? x1 = some o1 := (same1.2 x1 away1).trans (Heap.get?_push_of_some _ g1)
  refine wpAny_bind (wpAny_holding (tuple_end_hot (s := { s with heap := h1 }) ⟨hand, o1, w1, gx, f1, c1⟩ st1 ht1 (by simp) (Ne.symm away1) fun h2 up => ?_))
  simp only [Option.isSome_none, Bool.false_eq_true, if_false]
  exact wpAny_pure (hQ h2 fun b o g => up b o (Nat.ne_of_lt (Heap.lt_size g)) ((same1.2 b (Nat.ne_of_lt (Heap.lt_size g))).trans (Heap.get?_push_of_some _ g)))
end
/-! ### a caught exception stands by -/
/-- q is the exception that is handled, or nothing is -/
def ByQ (A : Around) (q : Addr × Obj) : Prop := A.handled = none ∨ A.handled = some (.ref q.1)
/-- what is known of a caught exception -/
structure Caught (X : Cx) (q : Addr × Obj) (cls : Value) (d : Option Addr) : Prop where
  mem : q ∈ X.pn
  by_ : ByQ X.A q
  zn : L2N.Zn cls d q.2
  fld : ∃ vs, q.2.data = .fields vs
section
variable {X : Cx} {pins : List (Addr × Obj)} {σ : L2.St} {H : Hp} {s : Shared} {q : Addr × Obj} {cls : Value} {d : Option Addr}
/-- the end of a list's walk in a comprehension's block, the exception still there -/
theorem list_end_any {A : Around} {E : Value → Shared → Prop} {it l : Addr} {i : Nat} {vs : Array Value} {Q : Option Value → Shared → Prop} (hb : ByQ A q) (hz : L2N.Zn cls d q.2) (hf : ∃ vs, q.2.data = .fields vs) (there : s.heap.get? q.1 = some q.2)
    (hit : s.heap.IsListIter it l i) (hl : s.heap.IsList l vs) (none_ : vs[i]? = none) (hne : it ≠ q.1) (hQ : ∀ h', (∀ b o, b ≠ it → s.heap.get? b = some o → h'.get? b = some o) → Q none { s with heap := h' }) :
    wpAny (model X.prog X.w) A (pyNext (.ref it)) Q E s := by
  rcases hb with hd | hd
  · exact wpAny_pyNext_list_end hd hit hl none_ fun h' ext => hQ h' fun b o ne g => ext b o ne g
  · obtain ⟨ws, fw⟩ := hf
    exact list_end_hot ⟨hd, q.2, ws, there, fw, hz.2.2 ws fw⟩ hit hl none_ hne hQ
/-- a comprehension's block, the exception kept in sight -/
abbrev blkE (X : Cx) (s : Shared) (H : Hp) (scope : Scope) (cenv : Env) (fp : List Addr) (q : Addr × Obj) : Cx := { X.blk s H scope cenv fp with pn := [q] }
theorem toBlkE {X : Cx} {s0 : Shared} {H0 : Hp} {scope : Scope} {cenv : Env} {fp : List Addr} {q : Addr × Obj} {σ : L2.St} {H : Hp} {s : Shared} (I : Inv (X.blk s0 H0 scope cenv fp) [] σ H s)
    (h : s.heap.get? q.1 = some q.2 ∧ H q.1 = none ∧ q.1 ≠ cenv.locals ∧ q.1 ∉ frs X.stack ∧ ∀ v, q.2.data ≠ .cell v) : Inv (blkE X s0 H0 scope cenv fp q) [] σ H s :=
  ⟨⟨I.ok.mod, I.ok.kind, I.ok.glob, I.ok.blt, I.ok.above, I.ok.inj, I.ok.has, I.ok.cab, I.ok.hd, I.ok.frames, I.ok.stk, I.ok.exf, I.ok.bs, I.ok.bsz, I.ok.noex, I.ok.exfs, I.ok.funs, I.ok.frf⟩, I.os, I.bare, I.base, I.loc, I.cell, I.free, I.freeC,
    fun p hp => by rw [List.mem_singleton.mp (show p ∈ [q] from hp)]; exact h, I.hok, I.len⟩
theorem Caught.blk {X : Cx} {s0 : Shared} {H0 : Hp} {scope : Scope} {cenv : Env} {fp : List Addr} {q : Addr × Obj} {cls : Value} {d : Option Addr} (C : Caught X q cls d) : Caught (blkE X s0 H0 scope cenv fp q) q cls d :=
  ⟨List.mem_singleton.mpr rfl, C.by_, C.zn, C.fld⟩
/-- a tuple taken apart, where an exception may be handled -/
theorem pg_tupE {es : List Expr} {k : Nat} {g : TGs} {pos : Pos} (n : Nat) (C : Caught X q cls d) (h : PGs X es g) (hn : (assignEach es X.env).length = n := by rfl) (hst : (assignEach es X.env).findIdx? (·.1) = none := by rfl) {K : PySem.W.Frag} (hK : X.K = K := by rfl) :
    PG X (.Tuple es k pos) (gTup K n g) := by
  subst hK
  refine ⟨fun pins s σ H v u Q I r ⟨a, xs, e1, hq, hl, z⟩ => ?_⟩
  subst e1
  cases r
  obtain ⟨its, rv, ht, _⟩ := I.tuple hq
  have size : (assignEach es X.env).length = its.toArray.size := by simp [hn, ← hl, rv.length]
  have go : ∀ h', (∀ b o, s.heap.get? b = some o → h'.get? b = some o) → wpAny (model X.prog X.w) X.A (assignInOrder ((assignEach es X.env).map (·.2)) its.toArray.toList) (fun _ s' => ∃ σ' H', Inv X pins σ' H' s' ∧ Q σ' H') X.xe { s with heap := h' } :=
    fun h' up => h.run pins _ σ H xs _ Q (I.kept (t' := s.toks) up) (by simpa using rv) z
  rcases C.by_ with hd | hd
  · exact assign_Tuple_tuple hd ht size hst fun h' ext => go h' fun b o g => ext b o (Nat.ne_of_lt (Heap.lt_size g)) g
  · obtain ⟨ws, fw⟩ := C.fld
    exact unpack_hot ⟨hd, q.2, ws, (I.pin q (List.mem_append_left _ C.mem)).1, fw, C.zn.2.2 ws fw⟩ ht size hst go
/-- name = [elt for target in a list if ..], on one line, where an exception may be handled -/
theorem ps_setLcE {i : Nat} {y : Str} {py : Pos} {elt tg iter : Expr} {ifs : List Expr} {scope : Scope} {own : List (Str × Nat)} {pos spos : Pos} {tl : TE} {g : TG} {tt : TT} {te : TE} (cg : Caught X q cls d) (hN : X.N.Nodup) (hy : X.N[i]? = some y) (hyl : X.env.scope.names.lookup y = some .local)
    (hsw : swapsWith (.ListComp elt [⟨tg, iter, ifs, 0⟩] scope pos) (some (.Name y py)) spos.line X.env = pure true) (hi : PE X iter tl) (ok : BlkOk X.N X.env.scope scope own)
    (hg : ∀ (s : Shared) (H : Hp) (C : Addr) (cl : List (Str × Addr)) (fp : List Addr), PG (blkE X s H scope (compEnvC scope cl C X.env) fp q) tg g) (ht : ∀ (s : Shared) (H : Hp) (C : Addr) (cl : List (Str × Addr)) (fp : List Addr), PTs (blkE X s H scope (compEnvC scope cl C X.env) fp q) ifs tt)
    (he : ∀ (s : Shared) (H : Hp) (C : Addr) (cl : List (Str × Addr)) (fp : List Addr), PE (blkE X s H scope (compEnvC scope cl C X.env) fp q) elt te) (hs : ∀ x, foldedSetIterable iter X.env x = pure x := by intro _; rfl) :
    PS X (.Assign [.Name y py] (.ListComp elt [⟨tg, iter, ifs, 0⟩] scope pos) spos) (tAsg (tLc (iList X.K tl) g tt te (own.map (·.2))) (gName i)) := by
  refine ⟨fun pins s σ H D I z => ?_⟩
  have vars : ∀ n ∈ scope.names, n.2 = .free → ∃ c, X.env.cells.lookup n.1 = some c := fun n hn e => (ok.free n hn e).elim (fun k => I.ok.has _ (.inl k)) fun k => I.ok.has _ (.inr k)
  rw [exec_Assign_Name_used _ _ _ _ hsw]
  refine wpAny_bind (wpAny_standAt (wpAny_bind ?_))
  show wpAny _ X.A (do let _ ← comprehension (.ListComp elt [⟨tg, iter, ifs, 0⟩] scope pos) scope X.env (firstIterPos [⟨tg, iter, ifs, 0⟩] pos) (newList []) false (eval iter X.env) (some (assign (.Name y py) X.env))) _ _ s
  refine wpAny_bind (thn ?_ fun _ s' (fin : SP X pins D .next s') => wpAny_pure (wpAny_pure fin))
  refine wpAny_comprehension_free rfl hs (closure_ok vars) ok.kind (fun n hn e => by rw [ok.uniq n hn, e]) (thn (hi.run pins s σ H _ I z) fun v0 s1 ⟨v, H1, I1, rv, k⟩ => ?_)
  obtain ⟨l, rfl, ⟨xs, hxs⟩, k⟩ := k
  obtain rfl : v0 = Value.ref l := rv
  obtain ⟨its, rel, lst, hz⟩ := I1.list hxs
  refine wpAny_pyIter_list lst.isList ?_
  -- the iterator
  obtain ⟨it, eit⟩ : ∃ it, it = s1.heap.objs.size := ⟨_, rfl⟩
  generalize e2 : ({ s1 with heap := s1.heap.push { cls := .type "list_iterator", data := .fields #[.ref l, .int 0 0] } } : Shared) = s2
  have h2 : s2.heap = s1.heap.push { cls := .type "list_iterator", data := .fields #[.ref l, .int 0 0] } := by rw [← e2]
  have I2 : Inv X pins σ H1 s2 := by rw [← e2]; exact I1.kept (t' := s1.toks) fun b o g => Heap.get?_push_of_some _ g
  have at2 : s2.heap.IsListIter it l 0 := by rw [h2, eit]; exact ⟨_, Heap.get?_push_size _ rfl, rfl, rfl⟩
  have fp2 : FpOk X pins H1 it := I1.fpOk (by rw [eit]; exact Nat.le_refl _) (I1.hok.fresh (by rw [eit]; exact Nat.le_refl _))
  rw [← eit]
  -- the new list
  refine wpAny_newObj_type (newEnv_comp ?_) (by show 0 ≤ sizeLine; decide)
  obtain ⟨L, eL⟩ : ∃ L, L = s2.heap.objs.size := ⟨_, rfl⟩
  rw [← eL]
  have hL : H1 L = none := I2.hok.fresh (Nat.le_of_eq eL.symm)
  obtain ⟨W, ⟨m0, w0⟩, turn⟩ := k L hL
  generalize e3 : ({ s2 with heap := s2.heap.push { cls := .type "list", data := .seq ([] : List Value).toArray } } : Shared) = s3
  have h3 : s3.heap = s2.heap.push { cls := .type "list", data := .seq ([] : List Value).toArray } := by rw [← e3]
  have I3 : Inv X pins σ (upd H1 L (.lst [])) s3 := by
    rw [← e3]
    exact I2.laid (t' := s2.toks) (o := .lst []) (fun b o g => Heap.get?_push_of_some _ g) (Nat.le_of_eq eL.symm) ⟨Nat.zero_le _, [], 0, .nil, by rw [eL]; exact Heap.get?_push_size _ rfl⟩
  have ltit : it < s2.heap.objs.size := by obtain ⟨o, g, _⟩ := at2; exact Heap.lt_size g
  have neL : it ≠ L := by rw [eL]; exact Nat.ne_of_lt ltit
  have at3 : s3.heap.IsListIter it l 0 := at2.at fun o g => by rw [h3]; exact Heap.get?_push_of_some _ g
  have lt3 : it < s3.heap.objs.size := by rw [h3, Heap.size_push]; exact Nat.lt_succ_of_lt ltit
  generalize eH : upd H1 L (.lst []) = H3 at I3 w0
  have fp3 : FpOk X pins H3 it := ⟨by rw [← eH, upd_ne neL]; exact fp2.1, fp2.2⟩
  have fps : ∀ b ∈ [it], FpOk X pins H3 b ∧ b < s3.heap.objs.size := fun b hb => by rw [List.mem_singleton.mp hb]; exact ⟨fp3, lt3⟩
  -- the block
  have I4 := block_start I3 ok hN fps
  have rg := hg s3 H3 s3.heap.objs.size (cellsFrom (s3.heap.objs.size + 1) scope.names (cloFrom X.env.cells scope.names [])) [it]
  have rt := ht s3 H3 s3.heap.objs.size (cellsFrom (s3.heap.objs.size + 1) scope.names (cloFrom X.env.cells scope.names [])) [it]
  have re := he s3 H3 s3.heap.objs.size (cellsFrom (s3.heap.objs.size + 1) scope.names (cloFrom X.env.cells scope.names [])) [it]
  show codeAny _ _ (.compStart (.ListComp elt [⟨tg, iter, ifs, 0⟩] scope pos) 0 (.ref it) (.ref L) (compEnvC scope (cellsFrom (s3.heap.objs.size + 1) scope.names (cloFrom X.env.cells scope.names [])) s3.heap.objs.size X.env)) _ { s3 with heap := pushCells (s3.heap.push { cls := .type "dict", data := .dict #[] }) scope.names }
  generalize ece : compEnvC scope (cellsFrom (s3.heap.objs.size + 1) scope.names (cloFrom X.env.cells scope.names [])) s3.heap.objs.size X.env = ce at I4 rg rt re ⊢
  have loc : ce.locals = s3.heap.objs.size := by rw [← ece]; rfl
  generalize e4 : ({ s3 with heap := pushCells (s3.heap.push { cls := .type "dict", data := .dict #[] }) scope.names } : Shared) = s4 at I4 ⊢
  have at4 : s4.heap.IsListIter it l 0 := at3.at fun o g => by rw [← e4]; exact pushCells_keeps _ _ _ _ (Heap.get?_push_of_some _ g)
  -- the exception stands by all through
  have pin3 := I3.pin q (List.mem_append_left _ cg.mem)
  have hqit : it ≠ q.1 := fun e => fp3.2.2.2.2.2 q (List.mem_append_left _ cg.mem) e.symm
  have hqS : q.1 ∉ frs X.stack := fun hm => by
    rcases List.mem_cons.mp (I3.stkSub q.1 hm) with e | e
    · exact pin3.2.2.1 e
    · exact pin3.2.2.2.1 e
  have I4 : Inv (blkE X s3 H3 scope ce [it] q) [] (wipe σ (own.map (·.2))) H3 s4 := toBlkE I4 ⟨I4.base.keep q.1 q.2 pin3.1 pin3.2.1 hqS (fun hm => hqit (List.mem_singleton.mp hm).symm), pin3.2.1, by rw [loc]; exact Nat.ne_of_lt (Heap.lt_size pin3.1), hqS, pin3.2.2.2.2⟩
  have stands : ∀ {σ' : L2.St} {H' : Hp} {s' : Shared}, Inv (blkE X s3 H3 scope ce [it] q) [] σ' H' s' → s'.heap.get? q.1 = some q.2 := fun J => (J.pin q (List.mem_append_left _ (List.mem_singleton.mpr rfl))).1
  have fpB : ∀ {σ' : L2.St} {H' : Hp} {s' : Shared}, Inv (blkE X s3 H3 scope ce [it] q) [] σ' H' s' → H' it = none → ∀ b ∈ [it], FpOk (blkE X s3 H3 scope ce [it] q) [] H' b := fun {σ' H' s'} J n b hb => by
    obtain rfl := List.mem_singleton.mp hb
    exact ⟨n, (J.ok.exf _ hb).1, J.ok.exfs _ hb, .inl hb, fun x c e => (J.ok.exf _ hb).2 x c e, fun p hp => by rw [List.mem_singleton.mp (show p ∈ [q] from hp)]; exact Ne.symm hqit⟩
  have hc1 : ∀ {h : Heap} {j : Nat}, h.IsListIter it l j → ∀ b ∈ [it], ∃ o, h.get? b = some o ∧ ∀ v, o.data ≠ .cell v := fun st b hb => by
    obtain rfl := List.mem_singleton.mp hb
    obtain ⟨o, g, _, dt⟩ := st
    exact ⟨o, g, fun v e => by rw [dt] at e; cases e⟩
  suffices loop : codeAny (model X.prog X.w) X.A (.compLoop (.ListComp elt [⟨tg, iter, ifs, 0⟩] scope pos) 0 (.ref it) (.ref L) ce) (compPost (model X.prog X.w) X.A X.xe (some (assign (.Name y py) X.env)) (fun _ s' => SP X pins D .next s') (.ref L) s3.heap.objs.size) s4 from
    codeAny_compStart_list loop (wpAny_pyIter_listiter at4 loop)
  refine compLoop_any (fun n s' => ∃ j H', Inv (blkE X s3 H3 scope ce [it] q) [] (wipe σ (own.map (·.2))) H' s' ∧ s'.heap.IsListIter it l j ∧ H' it = none ∧ W j n H') ?_ m0 ⟨0, H3, I4, at4, fp3.1, w0⟩
  rintro n s5 ⟨j, H5, I5, at5, n5, w5⟩
  have wide : ∀ {h' : Heap}, (∀ b o, b ≠ it → s5.heap.get? b = some o → h'.get? b = some o) → Inv (blkE X s3 H3 scope ce [it] q) [] (wipe σ (own.map (·.2))) H5 { s5 with heap := h' } := fun {h'} up => by
    obtain ⟨g0, g1, _, g3, g4, g5⟩ := fpB I5 n5 it (List.mem_singleton.mpr rfl)
    exact I5.turned (t' := s5.toks) up g0 g1 g3 g4 g5
  rcases turn j n H5 w5 with ⟨⟨ys, hys, hend⟩, done⟩ | ⟨⟨ys, x, hys, hx⟩, Nx, hNx, step⟩
  · -- the end: the list is stored
    obtain ⟨vs, rvs, lst5, _⟩ := I5.list hys
    refine thnF (list_end_any (X := X) cg.by_ cg.zn cg.fld (stands I5) at5 lst5.isList (by have := rvs.length; simp; omega) hqit (Q := fun r s6 => r = none ∧ Inv (blkE X s3 H3 scope ce [it] q) [] (wipe σ (own.map (·.2))) H5 s6) (fun h' up => ⟨rfl, wide up⟩)) fun r s6 ⟨hr, I6⟩ => ?_
    subst hr
    have I7 : Inv X pins σ H5 s6 := I3.call' (ch := [it]) I6.os I6.base I6.hok I6.bare fun b hb => by
      rw [List.mem_singleton.mp hb]; exact ⟨fp3.2.2.2.1, fp3.2.1, fp3.2.2.2.2.1, fp3.2.2.2.2.2⟩
    have free : H5 s3.heap.objs.size = none := by have e : H5 ce.locals = none := I6.free; rwa [loc] at e
    obtain ⟨mm, ns, _⟩ := I6.loc
    have ns : s6.heap.Ns ce.locals mm := ns
    rw [loc] at ns
    obtain ⟨f0, f1, f2, f3, f4, f5⟩ : FpOk X pins H5 s3.heap.objs.size := I3.fpOk (Nat.le_refl _) free
    show wpAny _ _ (assign (.Name y py) X.env (.ref L)) _ _ _
    refine wpAny_assign_Name (store_ok2 (v := V.ref L) I7 hN hy (.inl hyl) rfl (fun s8 I8 ⟨a, same, ha⟩ => ?_) (.inr hyl))
    have away : s3.heap.objs.size ≠ a := ha.elim (fun e => e ▸ f1) fun e => fun e' => f4 y a e e'.symm
    exact ⟨mm, ns.sameBut same away, fun h9 same9 => ⟨_, H5, I8.turned (t' := s8.toks) (fun b o hb g => (same9.2 b hb).trans g) f0 f1 f3 f4 f5, done⟩⟩
  · -- a turn
    obtain ⟨vs, rvs, lst5, _⟩ := I5.list hys
    obtain ⟨u, hu, ru⟩ := rvs.get hx
    refine thnF (wpAny_pyNext_list_item (Q := fun r s6 => r = some u ∧ Inv (blkE X s3 H3 scope ce [it] q) [] (wipe σ (own.map (·.2))) H5 s6 ∧ s6.heap.IsListIter it l (j + 1)) at5 lst5.isList (x := u) (by simpa using hu) fun h' st same => ⟨rfl, wide fun b o hb g => (same.2 b hb).trans g, st⟩) fun r s6 ⟨hr, I6, at6⟩ => ?_
    subst hr
    obtain ⟨oi, gi, ci, di⟩ := id at6
    refine go_of gi ci di (by decide) ?_
    have I7 := I6.pinned (fpB I6 n5) (hc1 at6)
    refine thnF (rg.run _ s6 _ H5 x u _ I7 ru (step x H5 ⟨rfl, fun zs hzs => by rw [I5.list_inj hzs hys]; exact hx⟩)) fun _ s7 ⟨σ7, H7, I8, wp, k7⟩ => ?_
    refine thnF (rt.run _ s7 σ7 H7 _ I8 k7) fun b s8 ⟨H8, I9, k8⟩ => ?_
    have again : ∀ {s' : Shared} {H' : Hp}, Inv (blkE X s3 H3 scope ce [it] q) ([] ++ pinsAt [it] s6.heap) σ7 H' s' → Nx H' → ∃ m, m < n ∧ ∃ j' H', Inv (blkE X s3 H3 scope ce [it] q) [] (wipe σ (own.map (·.2))) H' s' ∧ s'.heap.IsListIter it l j' ∧ H' it = none ∧ W j' m H' := fun {s' H'} J nx => by
      obtain ⟨m', hm, w'⟩ := hNx H' nx
      have kept := J.pin (it, oi) (List.mem_append_right _ (List.mem_append_right _ (mem_pinsAt (List.mem_singleton.mpr rfl) gi)))
      refine ⟨m', hm, j + 1, H', (J.unpinned (pins := [])).weak (by rw [← wp, wipe_length]) (fun k v e => ?_), ⟨oi, kept.1, ci, di⟩, kept.2.1, w'⟩
      rw [← wp] at e
      exact (wipe_some e).1
    cases b with
    | false =>
      rw [if_neg Bool.false_ne_true] at k8
      exact again I9 k8
    | true =>
      rw [if_pos rfl] at k8
      refine thnF (re.run _ s8 σ7 H8 _ I9 k8) fun v9 s9 ⟨yv, H9, I10, r9, acc, hD9, hz9, nx⟩ => ?_
      exact app_ok (X := blkE X s3 H3 scope ce [it] q) I10 hD9 hz9 r9 fun s10 I11 => again I11 nx
/-- isinstance(e, c) -/
def rIsX (K : PySem.W.Frag) (a : Addr) (cls : Value) (d : Option Addr) : List V → Hp → VK → Prop := fun xs H Q => ∃ (c : V) (cv : Value) (b : Bool) (D dd : Addr) (fs : List (Str × V)), xs = [.ref a, c] ∧ (∀ u, RelV c u → u = cv) ∧ cls = .ref D ∧ d = some dd ∧ H dd = some (.xd fs) ∧ ExcC K D ∧ PySem.W.kitOne K (.ref D) cv = some b ∧ Q (.bl b) H
theorem call_isX (C : Caught X q cls d) : CallR X (.builtin "isinstance") (rIsX X.K q.1 cls d) := by
  intro pins s σ H xs us Q I rel ⟨c, cv, b, D, dd, fs, ex, hcv, ec, ed, ea, T, kit, k⟩
  subst ex ec ed
  cases rel with
  | @cons _ u0 _ us0 r0 rest =>
  cases rest with
  | @cons _ u1 _ us1 r1 rest =>
  cases rest
  obtain rfl : u0 = Value.ref q.1 := r0
  obtain rfl := hcv _ r1
  have there := (I.pin q (List.mem_append_left _ C.mem)).1
  obtain ⟨mA, hns, hr⟩ : ObjOk X.prog X.w H s.heap dd (.xd fs) := I.hok dd _ ea
  obtain ⟨od, ho, hl⟩ := lookIn_ns hns
  have inst : PySem.W.InstAt s.heap q.1 q.2 D (some od) := ⟨there, C.zn.1, by obtain ⟨vs, hd⟩ := C.fld; unfold PySem.W.notCls; rw [hd], by rw [C.zn.2.1]; exact ho⟩
  have some_ : (PySem.W.clsIn X.K D).isSome = true := by
    obtain ⟨cd, hc, _⟩ := PySem.W.any_some T.hd
    rw [hc]; rfl
  exact PySem.W.kia_one (PySem.W.kitx_exc some_ T.hg T.hk T.hs T.ha T.hn T.ht T.hm) I.kIn inst kit (fun z => nomatch z) fun tk => ⟨.bl b, H, I.kept (t' := tk) fun _ _ g => g, rfl, k⟩
end
/-! ### defs that are handed a caught exception -/
structure FnE (P : Program) (w : World) (K : PySem.W.Frag) (mg : Str → Option Value) (B : Heap) (n : Nat) (g : Addr) (fd : FuncData) (ps : List Str) (sp : Addr → Value → Option Addr → Sp) : Prop where
  cnt : ∀ a cls d vs H Q E, sp a cls d vs H Q E → vs.length = ps.length
  go : ∀ (A : Around) (ou : List Env) (t : Shared) (H : Hp) (ar : Args) (us : List Value) (vs : List V) (Q : VK) (E : XK) (q : Addr × Obj) (cls : Value) (d : Option Addr), A.guards = some [] → L2H.RoomH n A → ByQ A q → L2N.Zn cls d q.2 → (∃ vs, q.2.data = .fields vs) → L2H.PinOk ou H t q →
    Env0 P w K mg B A ou t H → BindsTo t fd ar (ps.zip us) → Vals vs us → sp q.1 cls d vs H Q E → codeAny (model P w) A (.call (.ref g) ar) (CR L2.CX0 ou P w H t Q E) t
/-- the context of such a def's body -/
abbrev cxE (P : Program) (w : World) (K : PySem.W.Frag) (mg : Str → Option Value) (B : Heap) (N : List Str) (qual : Str) (sc : Scope) (g : Addr) (cd : Value) (A : Around) (ou : List Env) (t : Shared) (H : Hp) (E : XK) (q : Addr × Obj) : Cx :=
  (L2H.cxH L2.CX0 P w K mg B N qual sc g cd A ou t H E q).nox
theorem okE {P : Program} {w : World} {K : PySem.W.Frag} {mg : Str → Option Value} {base : Heap} {x qual : Str} {st : Stmt} {f : Addr} {fd : FuncData} {N ps : List Str} {k : Nat} {sp : Addr → Value → Option Addr → Sp} (F : Fun K x qual st f fd) (S : FnScope N ps (defScope st)) (cnt : ∀ a cls d vs H Q E, sp a cls d vs H Q E → vs.length = ps.length)
    (body : ∀ (cdv : Value) (A : Around) (ou : List Env) (t : Shared) (H : Hp) (vs : List V) (Q : VK) (E : XK) (q : Addr × Obj) (cls : Value) (d : Option Addr), A.guards = some [] → L2H.RoomH k (A.deeper (envOfC qual (defScope st) t.heap.objs.size f cdv)) →
      Caught (cxE P w K mg base N qual (defScope st) f cdv A ou t H E q) q cls d → sp q.1 cls d vs H Q E →
      ∃ r, PSs (cxE P w K mg base N qual (defScope st) f cdv A ou t H E q) (defBody st) r ∧ r ⟨fun _ H' => Q .non H', Q, fun _ _ => False, fun _ _ => False⟩ (L2.start N vs) H) : FnE P w K mg base (k + 1) f fd ps sp where
  cnt := cnt
  go A ou t H ar us vs Q E q cls d hG room hby hz hf hpin env bi rv z := by
    obtain ⟨oc, od, kV, doc, pm, an, cdv, ct, osl, rfl, lk, hcd⟩ := F.ex
    have kin := env.mod.kin.keeps fun b o e => (env.bs b o e).1
    have lim := env.mod.nolimit.keeps fun b o e => (env.bs b o e).1
    have kinds : ∀ y ∈ ps.zip us, (defScope st).names.lookup y.1 = some .local ∨ ((defScope st).names.lookup y.1 = some .cell ∧ ((cellsFrom (t.heap.objs.size + 1) (defScope st).names []).lookup y.1).isSome = true) := fun y hy =>
      (S.par y.1 (List.of_mem_zip (a := y.1) (b := y.2) hy).1).imp id fun e => ⟨e, PySem.W.cellsFrom_some _ _ _ (.inl e)⟩
    refine codeAny_call_function room.depth (kin _ _ lk) rfl S.co S.gen rfl (PySem.W.codeRec_of kin hcd) (bi _ _ _ _ (wpAny_newFunctionEnv_cells S.kind kinds fun env' he t1 inC => ?_))
    subst he
    have cg : Caught (cxE P w K mg base N qual (defScope st) f cdv A ou t H E q) q cls d := ⟨List.mem_singleton.mpr rfl, hby, hz, hf⟩
    obtain ⟨r, hr, hq⟩ := body cdv A ou t H vs Q E q cls d hG (room.deeper _) cg z
    refine ⟨lim.keeps inC.toInCall.keep, codeAny_func (wpAny_mono (hr.nox.run [] t1 (L2.start N vs) H _ (L2H.inv_startH S hpin env (cnt _ _ _ _ _ _ _ z) rv inC) hq) (fun fl t' res => ?_) (fun e t' res => ?_))⟩
    · match fl, res with
      | .ret u, ⟨v, _, H', J, ru, fin⟩ => exact ⟨v, H', J.os, J.bare, J.base, J.hok, ru, fin⟩
      | .next, ⟨_, H', J, fin⟩ => exact ⟨V.non, H', J.os, J.bare, J.base, J.hok, rfl, fin⟩
      | .brk, ⟨_, _, _, no⟩ => exact no.elim
      | .cont, ⟨_, _, _, no⟩ => exact no.elim
    · exact res
section
variable {X : Cx} {n : Nat} {g : Addr} {fd : FuncData} {ps : List Str} {sp : Addr → Value → Option Addr → Sp} {x : Str} {p pos : Pos} {e : Expr} {es : List Expr} {t : TA} {q : Addr × Obj} {cls : Value} {d : Option Addr}
def tCallE (sp : Sp) (t : TA) : TE := fun σ H Q => t σ H fun vs H1 => sp vs H1 Q fun _ _ _ => False
theorem pe_callE (F : FnE X.prog X.w X.K X.mg X.base n g fd ps sp) (C : Caught X q cls d) (hG : X.A.guards = some []) (room : L2H.RoomH n X.A) (gx : Gl X x) (at' : X.mg x = some (.ref g)) (kp : PySem.W.keepIn X.K (.ref g) = true)
    (bi : Binds X.K fd ps []) (ha : PA X (e :: es) t) (hdb : (x == ("__debug__" : Str)) = false := by decide)
    (he : starEach (e :: es) X.env = (false, eval e X.env) :: starEach es X.env := by rfl) (hpl : (backTo pos (starEach es X.env)).any (·.1) = false := by rfl) : PE X (.Call (.Name x p) (e :: es) [] pos) (tCallE (sp q.1 cls d) t) :=
  ⟨fun pins s σ H Q I z => wpAny_Call_Name_kw (ld_glob I gx at'
    (PySem.W.callWith_K (h₀ := X.base) I.ok.mod.kin kp (thn (ha.run pos pins s σ H _ I z) fun us s1 ⟨vs, H1, J, rv, k⟩ => ⟨J.kIn, by
      have len : us.length = ps.length := rv.length ▸ F.cnt _ _ _ _ _ _ _ k
      have bd := bi s1 us J.kIn (by rw [List.append_nil]; exact len)
      rw [List.append_nil] at bd
      have pinned := J.pin q (List.mem_append_left _ C.mem)
      have okp : L2H.PinOk X.stack H1 s1 q := ⟨pinned.1, pinned.2.1, fun hm => by
        rcases List.mem_cons.mp (J.stkSub q.1 hm) with e | e
        · exact pinned.2.2.1 e
        · exact pinned.2.2.2.1 e, pinned.2.2.2.2⟩
      exact wpAny_call (codeAny_mono (F.go X.A X.stack s1 H1 ⟨us, []⟩ _ _ Q _ q cls d hG room C.by_ C.zn C.fld okp J.env0 bd rv k) fun r s' res => by
        match r, res with
        | .ok (.ret v), res => exact J.after res
        | .error _, res => exact res.elim
        | .ok .next, res => exact res.elim
        | .ok .brk, res => exact res.elim
        | .ok .cont, res => exact res.elim)⟩) he hpl) hdb)⟩
/-- .. in an except suite -/
theorem caughtS {X : Cx} {a : Addr} {oe : Obj} {pn : List (Addr × Obj)} (hz : L2N.Zn cls d oe) (hf : ∃ vs, oe.data = .fields vs) : Caught (X.suite a ((a, oe) :: pn)) (a, oe) cls d := ⟨List.mem_cons_self, .inr rfl, hz, hf⟩
theorem pe_callES {X : Cx} {a : Addr} {oe : Obj} {pn : List (Addr × Obj)} (F : FnE X.prog X.w X.K X.mg X.base n g fd ps sp) (hz : L2N.Zn cls d oe) (hf : ∃ vs, oe.data = .fields vs) (hG : X.A.guards = some []) (room : Room n X.A) (gx : Gl X x) (at' : X.mg x = some (.ref g)) (kp : PySem.W.keepIn X.K (.ref g) = true)
    (bi : Binds X.K fd ps []) (ha : PA (X.suite a ((a, oe) :: pn)) (e :: es) t) (hdb : (x == ("__debug__" : Str)) = false := by decide)
    (he : starEach (e :: es) X.env = (false, eval e X.env) :: starEach es X.env := by rfl) (hpl : (backTo pos (starEach es X.env)).any (·.1) = false := by rfl) : PE (X.suite a ((a, oe) :: pn)) (.Call (.Name x p) (e :: es) [] pos) (tCallE (sp a cls d) t) :=
  pe_callE (X := X.suite a ((a, oe) :: pn)) (q := (a, oe)) F (caughtS hz hf) hG (L2H.roomH_mark room _) gx at' kp bi ha hdb he hpl
theorem pe_xfC (C : Caught X q cls d) {e : Expr} {te : TE} {pos : Pos} {f : Str} (he : PE X e te) (hb : attributeBase e f X.env (eval e X.env) = eval e X.env := by rfl) : PE X (.Attribute e f pos) (tXfA X.K q.1 cls d f te) :=
  pe_xfA C.mem C.zn C.fld he hb
end
theorem unitsE {k : Nat} {A : Around} (r : L2H.RoomH k A) : A.units + 64 < cLine := by have := r.un; omega
section
variable {K : PySem.W.Frag} {a : Addr} {cls : Value} {d : Option Addr} {H : Hp} {Q : VK} {σ : L2.St} {sp : Sp} {t : TA}
theorem r_callE (h : t σ H fun vs H1 => sp vs H1 Q fun _ _ _ => False) : tCallE sp t σ H Q := h
/-- isinstance(e, C), C a class of the text -/
theorem r_isR {C D dd : Addr} {fs : List (Str × V)} {b : Bool} (hd : H dd = some (.xd fs)) (T : ExcC K D) (k : PySem.W.kitOne K (.ref D) (.ref C) = some b) (q : Q (.bl b) H) : rIsX K a (.ref D) (some dd) [.ref a, .ref C] H Q :=
  ⟨_, .ref C, b, D, dd, fs, rfl, fun u r => r, rfl, rfl, hd, T, k, q⟩
/-- isinstance(e, ValueError) -/
theorem r_isT {D dd : Addr} {fs : List (Str × V)} {b : Bool} {c : String} (hd : H dd = some (.xd fs)) (T : ExcC K D) (k : PySem.W.kitOne K (.ref D) (.type c) = some b) (q : Q (.bl b) H) : rIsX K a (.ref D) (some dd) [.ref a, .ty c] H Q :=
  ⟨_, .type c, b, D, dd, fs, rfl, fun u r => r, rfl, rfl, hd, T, k, q⟩
end
end Xk
local macro_rules | `(tactic| fail "ww1") => `(tactic| with_reducible refine Xk.r_callE ?_)

set_option Elab.async false
set_option linter.all false
set_option maxRecDepth 100000
set_option maxHeartbeats 20000000
namespace Xk
open PySem PySem.Spec PyProof.Rows L2
/-! ### objects of the text's own classes -/
section
variable {X : Cx} {K : PySem.W.Frag} {f : Str} {o value : Expr} {ta tv : TE} {pos pos' : Pos}
theorem pe_fldK (K : PySem.W.Frag) (he : PE X o ta) (hb : attributeBase o f X.env (eval o X.env) = eval o X.env := by rfl) (hK : X.K = K := by rfl) : PE X (.Attribute o f pos) (tFld K ta f) := hK ▸ pe_fld he hb
theorem ps_fldK (K : PySem.W.Frag) (ha : PE X o ta) (hv : PE X value tv) (hs : swapsWith value (some (.Attribute o f pos')) pos.line X.env = pure false := by rfl) (hK : X.K = K := by rfl) : PS X (.Assign [.Attribute o f pos'] value pos) (sFld K ta tv f) := hK ▸ ps_fld ha hv hs
theorem ps_fldaugK (K : PySem.W.Frag) {op : Operator} {rd : V → V → Hp → VK → Prop} (ha : PE X o ta) (hv : PE X value tv) (hop : InOp X op rd) (hK : X.K = K := by rfl) : PS X (.AugAssign (.Attribute o f pos') op value pos) (sFldAug K ta tv rd f) := hK ▸ ps_fldaug ha hv hop
end
section
variable {K : PySem.W.Frag} {σ : L2.St} {H : Hp} {Q : VK} {D : Ends} {a C dx : Addr} {fs : List (Str × V)} {f : Str} {v y : V} {ta tv : TE} {t : TA} {sp : Sp} {dvs : List V} {E : XK}
/-- a field is read -/
theorem r_fld (h : ta σ H fun x H1 => ∃ a C dx fs v, x = .ref a ∧ H1 a = some (.ins C dx fs) ∧ Cls K C ∧ NoAttr K C f ∧ fs.lookup f = some v ∧ Q v H1) : tFld K ta f σ H Q := h
theorem r_sfld (h : tv σ H fun y H1 => ta σ H1 fun x H2 => ∃ a C dx fs, x = .ref a ∧ H2 a = some (.ins C dx fs) ∧ Cls K C ∧ NoAttr K C f ∧ fs.length < 1000 ∧ D.nx σ (upd H2 a (.ins C dx (putF f y fs)))) : sFld K ta tv f D σ H := h
theorem r_sfldaug {rd : V → V → Hp → VK → Prop} (h : ta σ H fun x H1 => ∃ a C dx fs v, x = .ref a ∧ H1 a = some (.ins C dx fs) ∧ Cls K C ∧ NoAttr K C f ∧ fs.lookup f = some v ∧ tv σ H1 fun y H2 => rd v y H2 fun z H3 => ∃ dx' fs', H3 a = some (.ins C dx' fs') ∧ fs'.length < 1000 ∧ D.nx σ (upd H3 a (.ins C dx' (putF f z fs')))) : sFldAug K ta tv rd f D σ H := h
theorem r_prop (h : ta σ H fun x H1 => ∃ a dx fs, x = .ref a ∧ H1 a = some (.ins C dx fs) ∧ sp (.ref a :: dvs) H1 Q E) : tProp C sp dvs E ta σ H Q := h
theorem r_meth {m : Str} (h : ta σ H fun x H1 => ∃ a dx fs, x = .ref a ∧ H1 a = some (.ins C dx fs) ∧ fs.lookup m = none ∧ t σ H1 fun vs H2 => sp (x :: (vs ++ dvs)) H2 Q E) : tMeth C m sp dvs E ta t σ H Q := h
theorem r_make (h : t σ H fun vs H1 => ∀ x dx, H1 x = none → H1 dx = none → dx ≠ x → sp (.ref x :: (vs ++ dvs)) (upd (upd H1 dx (.own x)) x (.ins C dx [])) (fun v H2 => v = .non ∧ Q (.ref x) H2) E) : tMake C sp dvs E t σ H Q := h
end
end Xk
local macro_rules | `(tactic| fail "ww1") => `(tactic| with_reducible first | refine Xk.r_fld ?_ | refine Xk.r_sfld ?_ | refine Xk.r_sfldaug ?_ | refine Xk.r_prop ?_ | refine Xk.r_meth ?_ | refine Xk.r_make ?_)

set_option Elab.async false
set_option linter.all false
set_option maxRecDepth 100000
set_option maxHeartbeats 20000000
namespace Xk
open PySem PySem.Spec PyProof.Rows L2
/-! ### classes whose methods raise -/
theorem guards_make {A : Around} (h : A.guards = some []) (C : Addr) (us : List Value) (kw : List (Str × Value)) : (A.under (.builtin "type.__call__" ⟨.ref C :: us, kw⟩)).guards = some [] := by
  obtain ⟨hd, d, fr, gs, u⟩ := A
  dsimp only at h
  subst h
  rfl
section
variable {X : Cx} {W : WX} {k : Nat} {f C : Addr} {fd : FuncData} {ps ks : List Str} {sp : Sp} {x m : Str} {p pos apos : Pos} {o : Expr} {kws : List Keyword} {ta : TE} {t tk : TA} {ff : List Value → List Value → List Value} {fV : List V → List V → List V}
theorem run_makeX {pins : List (Addr × Obj)} {σ : L2.St} {H : Hp} {s : Shared} {Q : VK} {us ws : List Value} {vs zs : List V} (M : Mk X.K C f) (F : FnG X.prog X.w X.K X.mg X.base (L2N.CX X.prog X.w) k f fd ps sp) (hG : X.A.guards = some []) (hr : Room (k + 1) X.A) (hb : KBinds X.K fd ps ks ff fV)
    (tw : L2N.Takes X W) (I : Inv X pins σ H s) (r : Vals vs us) (rz : Vals zs ws)
    (h : ∀ x dx, H x = none → H dx = none → dx ≠ x → sp (fV (.ref x :: vs) zs) (upd (upd H dx (.own x)) x (.ins C dx [])) (fun v H2 => v = .non ∧ Q (.ref x) H2) (WE W σ)) :
    wpAny (model X.prog X.w) X.A (PySem.call (.ref C) us (ks.zip ws)) (EP X pins σ Q) X.xe s := by
  have hq := h (s.heap.objs.size + 1) s.heap.objs.size (I.hok.fresh (Nat.le_succ _)) (I.hok.fresh (Nat.le_refl _)) (Nat.ne_of_lt (Nat.lt_succ_self _))
  have I2 := Inv.made (C := C) I
  have r1 : Vals (V.ref (s.heap.objs.size + 1) :: vs) (Value.ref (s.heap.objs.size + 1) :: us) := .cons rfl r
  have r2 := hb.rel r1 rz
  have hl : (ff (Value.ref (s.heap.objs.size + 1) :: us) ws).length = ps.length := r2.length ▸ F.cnt _ _ _ _ hq
  refine wpAny_call (make_map (f := f) I.kIn M.makes M.init (beq_iff_eq.mp M.fn) (codeAny_mono (F.go _ X.stack _ _ ⟨Value.ref (s.heap.objs.size + 1) :: us, ks.zip ws⟩ (ff (Value.ref (s.heap.objs.size + 1) :: us) ws) _ _ (WE W σ) (guards_make hG C us (ks.zip ws)) (hr.make C us (ks.zip ws))
    (I2.env0.make C us (ks.zip ws)) (hb.to _ (Value.ref (s.heap.objs.size + 1) :: us) ws I2.kIn hl) r2 hq) fun r s' hq' => ?_))
  cases r with
  | error e => exact L2N.passAt tw σ pins _ _ e s' I2 hq'
  | ok fl =>
    cases fl with
    | ret u =>
      obtain ⟨v, H', I3, rv, ev, q3⟩ := I2.after hq'
      subst ev
      exact ⟨rv, ⟨V.ref (s.heap.objs.size + 1), H', I3, rfl, q3⟩⟩
    | next => exact False.elim hq'
    | brk => exact False.elim hq'
    | cont => exact False.elim hq'
/-- C(k = v, ..), whose __init__ may raise -/
def tMakeX (C : Addr) (sp : Sp) (fV : List V → List V → List V) (W : WX) (tk : TA) : TE := fun σ H Q => tk σ H fun zs H1 => ∀ x dx, H1 x = none → H1 dx = none → dx ≠ x → sp (fV [.ref x] zs) (upd (upd H1 dx (.own x)) x (.ins C dx [])) (fun v H2 => v = .non ∧ Q (.ref x) H2) fun cls d H' => W cls d σ H'
theorem pe_makeXK0 (M : Mk X.K C f) (F : FnG X.prog X.w X.K X.mg X.base (L2N.CX X.prog X.w) k f fd ps sp) (hG : X.A.guards = some []) (hr : Room (k + 1) X.A) (hg : Gl X x) (hm : X.mg x = some (.ref C)) (hb : KBinds X.K fd ps ks ff fV)
    (tw : L2N.Takes X W) (hkw : PK X kws tk) (hdb : (x == ("__debug__" : Str)) = false := by decide)
    (all' : (backToKw pos (keywordEach kws X.env)).all (·.1.isSome) = true := by rfl) (nms : (backToKw pos (keywordEach kws X.env)).filterMap (·.1) = ks := by rfl)
    (hpl : ((backTo pos (starEach [] X.env)).any (·.1) || (backToKw pos (keywordEach kws X.env)).any (·.1.isNone)) = false := by rfl) :
    PE X (.Call (.Name x p) [] kws pos) (tMakeX C sp fV W tk) := by
  subst nms
  exact ⟨fun pins s σ H Q I z => wpAny_Call_Name_kw (ld_glob I hg hm
    (PySem.W.callWith_KW0 (h₀ := X.base) I.ok.mod.kin M.kp all' (thn (hkw.run pos pins s σ H _ I z) fun ws s2 ⟨zs, H2, I2, rz, q2⟩ => ⟨I2.kIn, run_makeX M F hG hr hb tw I2 .nil rz q2⟩) hpl) hdb)⟩
/-- o.m(k = v, ..), which may raise -/
def tMethX (C : Addr) (m : Str) (sp : Sp) (fV : List V → List V → List V) (W : WX) (ta : TE) (tk : TA) : TE := fun σ H Q => ta σ H fun x H1 => ∃ a dx fs, x = .ref a ∧ H1 a = some (.ins C dx fs) ∧ fs.lookup m = none ∧ tk σ H1 fun zs H2 => sp (fV [x] zs) H2 Q fun cls d H' => W cls d σ H'
theorem pe_methXK0 {pl : Sem Bool} (he : PE X o ta) (c : Cls X.K C) (hm : Meth X.K C m f) (F : FnG X.prog X.w X.K X.mg X.base (L2N.CX X.prog X.w) k f fd ps sp) (hG : X.A.guards = some []) (hr : Room k X.A) (hb : KBinds X.K fd ps ks ff fV)
    (tw : L2N.Takes X W) (hkw : PK X kws tk)
    (all' : (backToKw pos (keywordEach kws X.env)).all (·.1.isSome) = true := by rfl) (nms : (backToKw pos (keywordEach kws X.env)).filterMap (·.1) = ks := by rfl)
    (hpl : ((backTo pos (starEach [] X.env)).any (·.1) || (backToKw pos (keywordEach kws X.env)).any (·.1.isNone)) = false := by rfl)
    (ht : eval (.Call (.Attribute o m apos) [] kws pos) X.env = (do
      let ov ← eval o X.env
      standAt apos.atName
      let (f, first) ← holding [ov] (getMethod ov m pl)
      callWith pos f first (backTo pos (starEach [] X.env)) (backToKw pos (keywordEach kws X.env))) := by rfl) :
    PE X (.Call (.Attribute o m apos) [] kws pos) (tMethX C m sp fV W ta tk) := by
  subst nms
  refine ⟨fun pins s σ H Q I h => ?_⟩
  refine PySem.W.methodCall_KW (pl := pl) (thn (he.run pins s σ H _ I h) fun u s1 ⟨x, H1, I1, rx, a, dx, fs, ex, ea, l, q⟩ => ?_) ht
  subst ex
  obtain rfl : u = Value.ref a := rx
  refine getmeth_ok I1 ea c hm l ?_
  refine PySem.W.callWith_KW0 (first := [.ref a]) (h₀ := X.base) I1.ok.mod.kin hm.kp all' (thn (hkw.run pos pins s1 σ H1 _ I1 q) fun ws s2 ⟨zs, H2, I2, rz, q2⟩ => ⟨I2.kIn, ?_⟩) hpl
  exact goXK (us := [.ref a]) (vs := [.ref a]) F hG hr hb tw I2 (.cons rfl .nil) rz q2
end
section
variable {K : PySem.W.Frag} {σ : L2.St} {H : Hp} {Q : VK} {C : Addr} {sp : Sp} {fV : List V → List V → List V} {W : WX} {ta : TE} {tk : TA} {m : Str}
theorem r_makeX (h : tk σ H fun zs H1 => ∀ x dx, H1 x = none → H1 dx = none → dx ≠ x → sp (fV [.ref x] zs) (upd (upd H1 dx (.own x)) x (.ins C dx [])) (fun v H2 => v = .non ∧ Q (.ref x) H2) fun cls d H' => W cls d σ H') : tMakeX C sp fV W tk σ H Q := h
theorem r_methX (h : ta σ H fun x H1 => ∃ a dx fs, x = .ref a ∧ H1 a = some (.ins C dx fs) ∧ fs.lookup m = none ∧ tk σ H1 fun zs H2 => sp (fV [x] zs) H2 Q fun cls d H' => W cls d σ H') : tMethX C m sp fV W ta tk σ H Q := h
end
/-! ### isinstance of a caught exception, by a tuple of classes -/
def rIsXT (K : PySem.W.Frag) (a : Addr) (cls : Value) (d : Option Addr) : List V → Hp → VK → Prop := fun xs H Q => ∃ (tp : Addr) (cs : List V) (us : List Value) (b : Bool) (D dd : Addr) (fs : List (Str × V)), xs = [.ref a, .ref tp] ∧ H tp = some (.tup cs) ∧ Paired ClsV cs us ∧ cls = .ref D ∧ d = some dd ∧ H dd = some (.xd fs) ∧ ExcC K D ∧ PySem.W.kitAny K (.ref D) us = some b ∧ Q (.bl b) H
theorem call_isXT {X : Cx} {q : Addr × Obj} {cls : Value} {d : Option Addr} (C : Caught X q cls d) : CallR X (.builtin "isinstance") (rIsXT X.K q.1 cls d) := by
  intro pins s σ H xs us Q I rel ⟨tp, cs, ws, b, D, dd, fs, ex, hT, kk, ec, ed, ea, T, kit, k⟩
  subst ex ec ed
  cases rel with
  | @cons _ u0 _ us0 r0 rest =>
  cases rest with
  | @cons _ u1 _ us1 r1 rest =>
  cases rest
  obtain rfl : u0 = Value.ref q.1 := r0
  obtain rfl : u1 = Value.ref tp := r1
  obtain ⟨_, its, rv, o, h1, h2, n, h3⟩ := (show ObjOk X.prog X.w H s.heap tp (.tup cs) from I.hok tp _ hT)
  have e3 := ClsV.all kk rv
  subst e3
  obtain ⟨oc, od', dt, sl⟩ := o
  simp only at h2 h3
  subst h2 h3
  have there := (I.pin q (List.mem_append_left _ C.mem)).1
  obtain ⟨mA, hns, hr⟩ : ObjOk X.prog X.w H s.heap dd (.xd fs) := I.hok dd _ ea
  obtain ⟨od, ho, hl⟩ := lookIn_ns hns
  have inst : PySem.W.InstAt s.heap q.1 q.2 D (some od) := ⟨there, C.zn.1, by obtain ⟨vs, hd⟩ := C.fld; unfold PySem.W.notCls; rw [hd], by rw [C.zn.2.1]; exact ho⟩
  have some_ : (PySem.W.clsIn X.K D).isSome = true := by
    obtain ⟨cd, hc, _⟩ := PySem.W.any_some T.hd
    rw [hc]; rfl
  exact PySem.W.kia_tup (PySem.W.kitx_exc some_ T.hg T.hk T.hs T.ha T.hn T.ht T.hm) I.kIn inst h1 kit (fun z => nomatch z) fun tk => ⟨.bl b, H, I.kept (t' := tk) fun _ _ g => g, rfl, k⟩
theorem r_isXT {K : PySem.W.Frag} {a tp D dd : Addr} {H : Hp} {Q : VK} {cs : List V} {us : List Value} {fs : List (Str × V)} {b : Bool} (hd : H dd = some (.xd fs)) (T : ExcC K D) (hT : H tp = some (.tup cs)) (kk : Paired ClsV cs us) (k : PySem.W.kitAny K (.ref D) us = some b) (q : Q (.bl b) H) : rIsXT K a (.ref D) (some dd) [.ref a, .ref tp] H Q :=
  ⟨tp, cs, us, b, D, dd, fs, rfl, hT, kk, rfl, rfl, hd, T, k, q⟩
section
variable {X : Cx}
/-- l.count(x), flat values -/
def rCntF (K : PySem.W.Frag) : V → List V → Hp → VK → Prop := fun x xs H Q => ∃ (p : Addr) (ys : List V) (y : V), x = .ref p ∧ xs = [y] ∧ SqL K H p ys ∧ flatV y = true ∧ ys.all flatV = true ∧ Q (.int (ys.countP (fun z => eqV z y) : Nat)) H
theorem cnt_eqU {x : V} : ∀ {xs : List V} {us : List Value}, Vals xs us → xs.all flatV = true → us.countP (eqU x) = xs.countP fun y => eqV y x
  | _, _, .nil, _ => rfl
  | y :: xs, u :: us, .cons r t, f => by
    rw [List.all_cons, Bool.and_eq_true] at f
    rw [List.countP_cons, List.countP_cons, cnt_eqU t f.2, eqU_of r f.1]
theorem mt_lcountF : MtR X "list.count" (rCntF X.K) := by
  intro pins s σ H x xs v us Q I rx rxs h
  obtain ⟨p, ys, y, rfl, rfl, hs, fy, fys, q⟩ := h
  cases rx
  obtain ⟨u, rfl, ru⟩ := rxs.one
  obtain ⟨its, rv, ⟨⟨cls, dd, data, sl⟩, n, ho, hc, hdn, hd⟩, hlen⟩ := I.list hs
  simp only at hc hd
  subst hc hd
  refine call_meets PySem.F.slot_list_count ⟨_, ho, rfl⟩ PySem.F.entry_list_count (PySem.F.args_list_count_2 _ _)
    (SeqAt.list_countAt p its.toArray n dd sl u (eqU y)) ⟨ho, fun z hz => mem_eqAt ru fy rv fys z (by simpa using hz), ?_⟩
  refine ⟨.int (ys.countP (fun z => eqV z y) : Nat), H, I.tok _, ⟨s.toks, ?_⟩, q⟩
  show Value.int ((its.toArray.toList.countP (eqU y) : Nat) : Int) s.toks = _
  rw [show its.toArray.toList = its from rfl, cnt_eqU rv fys]
theorem lcountF (K : PySem.W.Frag) (hK : X.K = K := by rfl) : MtR X "list.count" (rCntF K) := hK ▸ mt_lcountF
end
end Xk
local macro_rules | `(tactic| fail "ww1") => `(tactic| with_reducible first | refine Xk.r_makeX ?_ | refine Xk.r_methX ?_)

namespace My
/-! ### sorted lists -/
def ins (x : Int) : List Int → List Int
  | [] => [x]
  | y :: r => if x ≤ y then x :: y :: r else y :: ins x r
def srt : List Int → List Int
  | [] => []
  | x :: r => ins x (srt r)
theorem ins_perm (x : Int) : ∀ l : List Int, (ins x l).Perm (x :: l)
  | [] => List.Perm.refl _
  | y :: r => by
    unfold ins
    split
    · exact List.Perm.refl _
    · exact ((ins_perm x r).cons y).trans (List.Perm.swap x y r)
theorem srt_perm : ∀ l : List Int, (srt l).Perm l
  | [] => List.Perm.refl _
  | x :: r => (ins_perm x (srt r)).trans ((srt_perm r).cons x)
theorem ins_up (x : Int) : ∀ l : List Int, l.Pairwise (· ≤ ·) → (ins x l).Pairwise (· ≤ ·)
  | [], _ => List.pairwise_singleton _ _
  | y :: r, h => by
    have h1 := List.pairwise_cons.mp h
    unfold ins
    split
    · rename_i hxy
      exact List.pairwise_cons.mpr ⟨fun z hz => by
        rcases List.mem_cons.mp hz with e | e
        · rw [e]; exact hxy
        · exact Int.le_trans hxy (h1.1 z e), h⟩
    · refine List.pairwise_cons.mpr ⟨fun z hz => ?_, ins_up x r h1.2⟩
      rcases List.mem_cons.mp ((ins_perm x r).mem_iff.mp hz) with e | e
      · rw [e]; omega
      · exact h1.1 z e
theorem srt_up : ∀ l : List Int, (srt l).Pairwise (· ≤ ·)
  | [] => List.Pairwise.nil
  | x :: r => ins_up x _ (srt_up r)
theorem up_unique : ∀ {l m : List Int}, l.Perm m → l.Pairwise (· ≤ ·) → m.Pairwise (· ≤ ·) → l = m
  | [], m, h, _, _ => (h.nil_eq).symm ▸ rfl
  | x :: r, m, h, h1, h2 => by
    cases m with
    | nil => exact absurd h.eq_nil (by simp)
    | cons y t =>
      have a1 := List.pairwise_cons.mp h1
      have a2 := List.pairwise_cons.mp h2
      have e : x = y := by
        have hx : x ∈ y :: t := h.mem_iff.mp List.mem_cons_self
        have hy : y ∈ x :: r := h.mem_iff.mpr List.mem_cons_self
        rcases List.mem_cons.mp hx with q | q
        · exact q
        · rcases List.mem_cons.mp hy with q' | q'
          · exact q'.symm
          · have := a1.1 y q'; have := a2.1 x q; omega
      subst e
      rw [up_unique ((List.perm_cons x).mp h) a1.2 a2.2]
theorem srt_is {l m : List Int} (h : m.Perm l) (u : m.Pairwise (· ≤ ·)) : m = srt l := up_unique (h.trans (srt_perm l).symm) u (srt_up l)
theorem srt_len (l : List Int) : (srt l).length = l.length := (srt_perm l).length_eq
/-- the values at the places i to j sorted -/
def seg (l : List Int) (i j : Nat) : List Int := l.take (i - 1) ++ srt ((l.drop (i - 1)).take (j - (i - 1))) ++ l.drop j
theorem seg_perm {l : List Int} {i j : Nat} (h1 : i ≤ j) (_h2 : j ≤ l.length) : (seg l i j).Perm l := by
  unfold seg
  have e : l = l.take (i - 1) ++ (l.drop (i - 1)).take (j - (i - 1)) ++ l.drop j := by
    conv => lhs; rw [← List.take_append_drop (i - 1) l, ← List.take_append_drop (j - (i - 1)) (l.drop (i - 1)), List.drop_drop]
    rw [List.append_assoc, show i - 1 + (j - (i - 1)) = j by omega]
  conv => rhs; rw [e]
  exact ((srt_perm _).append_left _).append_right _
theorem seg_len {l : List Int} {i j : Nat} (h1 : i ≤ j) (h2 : j ≤ l.length) : (seg l i j).length = l.length := (seg_perm h1 h2).length_eq
abbrev Cmd := Nat × Nat
def step (l : List Int) (c : Cmd) : List Int := seg l c.1 c.2
def runM (l : List Int) (cs : List Cmd) : List Int := cs.foldl step l
/-- the commands fit rows of n places -/
def Fits (n : Nat) (cs : List Cmd) : Prop := ∀ c ∈ cs, 1 ≤ c.1 ∧ c.1 ≤ c.2 ∧ c.2 ≤ n
theorem runM_perm : ∀ (cs : List Cmd) (l : List Int), Fits l.length cs → (runM l cs).Perm l
  | [], l, _ => List.Perm.refl l
  | c :: r, l, h => by
    have hc := h c List.mem_cons_self
    have p := seg_perm hc.2.1 hc.2.2
    refine List.Perm.trans (runM_perm r (step l c) ?_) p
    show Fits (seg l c.1 c.2).length r
    rw [p.length_eq]
    exact fun d hd => h d (List.mem_cons_of_mem _ hd)
theorem runM_len {cs : List Cmd} {l : List Int} (h : Fits l.length cs) : (runM l cs).length = l.length := (runM_perm cs l h).length_eq
theorem runM_snoc (l : List Int) (cs : List Cmd) (c : Cmd) : runM l (cs ++ [c]) = step (runM l cs) c := by unfold runM; rw [List.foldl_append]; rfl
theorem runM_app (l : List Int) (cs ds : List Cmd) : runM l (cs ++ ds) = runM (runM l cs) ds := List.foldl_append ..
theorem Fits.take {n k : Nat} {cs : List Cmd} (h : Fits n cs) : Fits n (cs.take k) := fun c hc => h c (List.mem_of_mem_take hc)
theorem Fits.drop {n k : Nat} {cs : List Cmd} (h : Fits n cs) : Fits n (cs.drop k) := fun c hc => h c (List.mem_of_mem_drop hc)
end My
namespace My
def IsArr (l : List Int) : Prop := l.Nodup ∧ ∀ v ∈ l, 1 ≤ v ∧ v ≤ l.length
/-- how many of the first p values are at most q -/
def cnt (l : List Int) (p q : Nat) : Nat := ((l.take p).filter (fun v => decide (v ≤ (q : Int)))).length
theorem cnt_zero (l : List Int) (q : Nat) : cnt l 0 q = 0 := by simp [cnt]
theorem cnt_succ {l : List Int} {p : Nat} (h : p < l.length) (q : Nat) : cnt l (p + 1) q = cnt l p q + if l[p] ≤ (q : Int) then 1 else 0 := by
  unfold cnt
  rw [List.take_add_one, List.getElem?_eq_getElem h, List.filter_append, List.length_append]
  by_cases e : l[p] ≤ (q : Int) <;> simp [e]
def AtMost (a b : List Int) : Prop := ∀ p q : Nat, cnt b p q ≤ cnt a p q
theorem cnt_all {l : List Int} {p q : Nat} (h : ∀ v ∈ l, v ≤ (q : Int)) : cnt l p q = min p l.length := by
  unfold cnt
  rw [List.filter_eq_self.mpr fun v hv => decide_eq_true (h v (List.mem_of_mem_take hv)), List.length_take]
theorem cnt_none {l : List Int} {p : Nat} (h : ∀ v ∈ l, 1 ≤ v) : cnt l p 0 = 0 := by
  unfold cnt
  rw [List.length_eq_zero_iff, List.filter_eq_nil_iff]
  intro v hv
  have := h v (List.mem_of_mem_take hv)
  simp; omega
theorem cnt_over {l : List Int} {p q : Nat} (h : l.length ≤ p) : cnt l p q = cnt l l.length q := by
  unfold cnt
  rw [List.take_of_length_le h, List.take_of_length_le (Nat.le_refl _)]
/-- counts with limits below the size tell everything -/
theorem most_iff {a b : List Int} (ha : IsArr a) (hb : IsArr b) (hl : a.length = b.length) : AtMost a b ↔ ∀ p, p ≤ a.length → ∀ q, q < a.length → cnt b p q ≤ cnt a p q := by
  refine ⟨fun h p _ q _ => h p q, fun h p q => ?_⟩
  have key : ∀ p, p ≤ a.length → cnt b p q ≤ cnt a p q := fun p hp => by
    by_cases hq : q < a.length
    · exact h p hp q hq
    · rw [cnt_all fun v hv => Int.le_trans (hb.2 v hv).2 (by omega), cnt_all fun v hv => Int.le_trans (ha.2 v hv).2 (by omega), hl]
      exact Nat.le_refl _
  by_cases hp : p ≤ a.length
  · exact key p hp
  · rw [cnt_over (l := a) (by omega), cnt_over (l := b) (by omega), ← hl]
    exact key _ (Nat.le_refl _)
noncomputable instance (a b : List Int) : Decidable (AtMost a b) := Classical.propDecidable _
theorem arr_asc {l : List Int} {n : Nat} (h : l.Perm ((List.range n).map fun (i : Nat) => (1 + i : Int))) : IsArr l := by
  have hl : l.length = n := by rw [h.length_eq]; simp
  refine ⟨h.symm.nodup ?_, fun v hv => ?_⟩
  · rw [List.Nodup, List.pairwise_map]
    exact List.nodup_range.imp fun h q => h (by omega)
  · obtain ⟨k, hk, rfl⟩ := List.mem_map.mp (h.mem_iff.mp hv)
    have := List.mem_range.mp hk
    omega
/-- a row of numbers by a function of the place -/
def tab (n : Nat) (f : Nat → Int) : List Int := (List.range n).map f
theorem tab_len (n : Nat) (f : Nat → Int) : (tab n f).length = n := by simp [tab]
theorem tab_get {n : Nat} {f : Nat → Int} {k : Nat} (h : k < n) : (tab n f)[k]? = some (f k) := by simp [tab, h]
theorem tab_set {n : Nat} {f : Nat → Int} {k : Nat} {v : Int} : (tab n f).set k v = tab n fun q => if q = k then v else f q := by
  apply List.ext_getElem
  · simp [tab]
  · intro i h1 h2
    rw [List.getElem_set]
    simp only [tab, List.getElem_map, List.getElem_range]
    by_cases e : k = i
    · subst e; simp
    · rw [if_neg e, if_neg (fun q => e q.symm)]
theorem tab_congr {n : Nat} {f g : Nat → Int} (h : ∀ q, q < n → f q = g q) : tab n f = tab n g := by
  unfold tab
  exact List.map_congr_left fun q hq => h q (List.mem_range.mp hq)
theorem tab_const (n : Nat) (c : Int) : List.replicate n c = tab n fun _ => c := by
  apply List.ext_getElem <;> simp [tab]
end My
namespace My
/-! ### counts of small values ahead of a place -/
def zc (l : List Int) (t : Int) (p : Nat) : Nat := (l.take p).countP (fun v => decide (v ≤ t))
theorem zc_succ {l : List Int} {p : Nat} (h : p < l.length) (t : Int) : zc l t (p + 1) = zc l t p + if l[p] ≤ t then 1 else 0 := by
  unfold zc
  rw [List.take_add_one, List.getElem?_eq_getElem h, List.countP_append]
  by_cases g : l[p] ≤ t <;> simp [g]
theorem zc_le (l : List Int) (t : Int) (p : Nat) : zc l t p ≤ p := Nat.le_trans List.countP_le_length (by rw [List.length_take]; omega)
theorem zc_step (l : List Int) (t : Int) (p : Nat) : zc l t p ≤ zc l t (p + 1) ∧ zc l t (p + 1) ≤ zc l t p + 1 := by
  by_cases h : p < l.length
  · rw [zc_succ h]; split <;> omega
  · have : zc l t (p + 1) = zc l t p := by unfold zc; rw [List.take_of_length_le (by omega), List.take_of_length_le (by omega)]
    omega
theorem zc_mono {l : List Int} {t : Int} {p : Nat} : ∀ d, zc l t p ≤ zc l t (p + d) ∧ zc l t (p + d) ≤ zc l t p + d
  | 0 => by simp
  | d + 1 => by
    have h1 := zc_mono (l := l) (t := t) (p := p) d
    have h2 := zc_step l t (p + d)
    rw [show p + (d + 1) = p + d + 1 by omega]
    omega
theorem up_zc (t : Int) : ∀ (s : List Int) (k : Nat), s.Pairwise (· ≤ ·) → zc s t k = min k (s.countP (fun v => decide (v ≤ t)))
  | [], k, _ => by simp [zc]
  | x :: r, 0, _ => by simp [zc]
  | x :: r, k + 1, h => by
    have h1 := List.pairwise_cons.mp h
    have ih := up_zc t r k h1.2
    unfold zc at ih ⊢
    rw [List.take_succ_cons, List.countP_cons, List.countP_cons]
    by_cases g : x ≤ t
    · simp only [g, decide_true, if_true]; rw [ih]; omega
    · have z : r.countP (fun v => decide (v ≤ t)) = 0 := List.countP_eq_zero.mpr fun v hv => by have := h1.1 v hv; simp; omega
      rw [z] at ih ⊢
      simp only [g, decide_false, Bool.false_eq_true, if_false]; rw [ih]; simp
theorem zc_app (a b : List Int) (t : Int) (p : Nat) : zc (a ++ b) t p = zc a t p + zc b t (p - a.length) := by
  unfold zc; rw [List.take_append, List.countP_append]
theorem zc_all {l : List Int} {t : Int} {p : Nat} (h : l.length ≤ p) : zc l t p = l.countP (fun v => decide (v ≤ t)) := by unfold zc; rw [List.take_of_length_le h]
theorem zc_seg {l : List Int} {i j : Nat} (h1 : 1 ≤ i) (h2 : i ≤ j) (h3 : j ≤ l.length) (t : Int) (p : Nat) :
    zc (seg l i j) t p = if p < i ∨ j < p then zc l t p else min (zc l t (i - 1) + (p - (i - 1))) (zc l t j) := by
  obtain ⟨A, M, B, rfl, hA, hM⟩ : ∃ A M B, l = A ++ M ++ B ∧ A.length = i - 1 ∧ M.length = j - (i - 1) := by
    refine ⟨l.take (i - 1), (l.drop (i - 1)).take (j - (i - 1)), l.drop j, ?_, by rw [List.length_take]; omega, by rw [List.length_take, List.length_drop]; omega⟩
    conv => lhs; rw [← List.take_append_drop (i - 1) l, ← List.take_append_drop (j - (i - 1)) (l.drop (i - 1)), List.drop_drop]
    rw [List.append_assoc, show i - 1 + (j - (i - 1)) = j by omega]
  have e : seg (A ++ M ++ B) i j = A ++ srt M ++ B := by
    unfold seg
    have e1 : (A ++ M ++ B).take (i - 1) = A := by rw [List.append_assoc, ← hA, List.take_left]
    have e2 : (A ++ M ++ B).drop (i - 1) = M ++ B := by rw [List.append_assoc, ← hA, List.drop_left]
    have e3 : (A ++ M ++ B).drop j = B := by rw [show j = (A ++ M).length by rw [List.length_append]; omega, List.drop_left]
    rw [e1, e2, e3, ← hM, List.take_left]
  rw [e]
  have hs : (srt M).length = M.length := srt_len M
  have cM : (srt M).countP (fun v => decide (v ≤ t)) = M.countP (fun v => decide (v ≤ t)) := (srt_perm M).countP_eq _
  simp only [zc_app, List.length_append, hs, hA, hM]
  rw [zc_all (l := A) (p := j) (by omega), zc_all (l := M) (p := j - (i - 1)) (by omega), show j - (i - 1 + (j - (i - 1))) = 0 by omega]
  rw [zc_all (l := A) (p := i - 1) (by omega), show i - 1 - (i - 1) = 0 by omega, show i - 1 - (i - 1 + (j - (i - 1))) = 0 by omega]
  have z0 : ∀ b : List Int, zc b t 0 = 0 := fun b => by simp [zc]
  rw [z0, z0, up_zc t _ _ (srt_up M), cM]
  by_cases g : p < i ∨ j < p
  · rw [if_pos g]
    rcases g with g | g
    · rw [show p - (i - 1) = 0 by omega]; rw [z0]; simp
    · rw [zc_all (l := M) (p := p - (i - 1)) (by omega)]
      have := List.countP_le_length (p := fun v => decide (v ≤ t)) (l := M)
      omega
  · rw [if_neg g, zc_all (l := A) (p := p) (by omega), show p - (i - 1 + (j - (i - 1))) = 0 by omega, z0]
    omega
/-- rows of one length with the same counts are equal -/
theorem zc_ext {l m : List Int} (hl : l.length = m.length) (h : ∀ t p, p ≤ l.length → zc l t p = zc m t p) : l = m := by
  refine List.ext_getElem hl fun k h1 h2 => ?_
  have key : ∀ t, l[k] ≤ t ↔ m[k] ≤ t := fun t => by
    have a := h t (k + 1) (by omega)
    rw [zc_succ h1, zc_succ h2, h t k (by omega)] at a
    by_cases g : l[k] ≤ t <;> by_cases g' : m[k] ≤ t <;> simp [g, g'] at a ⊢
  have := (key l[k]).mp (Int.le_refl _)
  have := (key m[k]).mpr (Int.le_refl _)
  omega
def desc (n : Nat) : List Int := (List.range n).map fun (k : Nat) => ((n : Int) - k)
theorem desc_len (n : Nat) : (desc n).length = n := by simp [desc]
theorem desc_get {n k : Nat} (h : k < (desc n).length) : (desc n)[k] = (n : Int) - k := by simp [desc]
theorem zc_desc {n : Nat} (q : Nat) (hq : q ≤ n) : ∀ p, p ≤ n → zc (desc n) ((n : Int) - q) p = p - q
  | 0, _ => by simp [zc]
  | p + 1, h => by
    have h' : p < (desc n).length := by rw [desc_len]; omega
    rw [zc_succ h', zc_desc q hq p (by omega), desc_get]
    split <;> omega
/-- what a script makes of a row, told by what it makes of the descending arrangement -/
def Told (n : Nat) (l0 l e : List Int) : Prop := l.length = n ∧ e.length = n ∧ ∀ (t : Int) (p : Nat), p ≤ n →
  (∀ q, q ≤ n → zc l t p ≤ zc l0 t q + zc e ((n : Int) - q) p) ∧ ∃ q, q ≤ n ∧ zc l t p = zc l0 t q + zc e ((n : Int) - q) p
theorem told_nil {l : List Int} : Told l.length l l (desc l.length) := ⟨rfl, desc_len _, fun t p hp => ⟨fun q hq => by
    rw [zc_desc q hq p hp]
    by_cases g : q ≤ p
    · have := (zc_mono (l := l) (t := t) (p := q) (p - q)).2
      rw [show q + (p - q) = p by omega] at this
      exact this
    · have := (zc_mono (l := l) (t := t) (p := p) (q - p)).1
      rw [show p + (q - p) = q by omega] at this
      omega, p, hp, by rw [zc_desc p hp p hp]; omega⟩⟩
theorem told_step {n : Nat} {l0 l e : List Int} {c : Cmd} (h1 : 1 ≤ c.1) (h2 : c.1 ≤ c.2) (h3 : c.2 ≤ n) (h : Told n l0 l e) : Told n l0 (step l c) (step e c) := by
  obtain ⟨hl, he, h⟩ := h
  refine ⟨(seg_len h2 (by omega)).trans hl, (seg_len h2 (by omega)).trans he, fun t p hp => ?_⟩
  have key : zc (step l c) t p = if p < c.1 ∨ c.2 < p then zc l t p else min (zc l t (c.1 - 1) + (p - (c.1 - 1))) (zc l t c.2) := zc_seg (l := l) h1 h2 (by omega) t p
  have kee : ∀ q : Nat, zc (step e c) ((n : Int) - q) p = _ := fun q => zc_seg (l := e) h1 h2 (by omega) ((n : Int) - q) p
  by_cases g : p < c.1 ∨ c.2 < p
  · have a := h t p hp
    refine ⟨fun q hq => ?_, ?_⟩
    · rw [key, kee q, if_pos g, if_pos g]; exact a.1 q hq
    · obtain ⟨q, hq, e1⟩ := a.2
      exact ⟨q, hq, by rw [key, kee q, if_pos g, if_pos g]; exact e1⟩
  · have a := h t (c.1 - 1) (by omega)
    have b := h t c.2 h3
    refine ⟨fun q hq => ?_, ?_⟩
    · rw [key, kee q, if_neg g, if_neg g]
      have := a.1 q hq; have := b.1 q hq
      omega
    · by_cases w : zc l t (c.1 - 1) + (p - (c.1 - 1)) ≤ zc l t c.2
      · obtain ⟨q, hq, e1⟩ := a.2
        refine ⟨q, hq, ?_⟩
        rw [key, kee q, if_neg g, if_neg g]
        have := b.1 q hq
        omega
      · obtain ⟨q, hq, e1⟩ := b.2
        refine ⟨q, hq, ?_⟩
        rw [key, kee q, if_neg g, if_neg g]
        have := a.1 q hq
        omega
theorem told_run {n : Nat} {l0 : List Int} : ∀ (cs : List Cmd) (l e : List Int), Fits n cs → Told n l0 l e → Told n l0 (runM l cs) (runM e cs)
  | [], _, _, _, h => h
  | c :: r, l, e, f, h => told_run r (step l c) (step e c) (fun d hd => f d (List.mem_cons_of_mem _ hd))
      (told_step (f c List.mem_cons_self).1 (f c List.mem_cons_self).2.1 (f c List.mem_cons_self).2.2 h)
theorem told_one {n : Nat} {l0 l m e : List Int} (h : Told n l0 l e) (g : Told n l0 m e) : l = m :=
  zc_ext (h.1.trans g.1.symm) fun t p hp => by
    rw [h.1] at hp
    obtain ⟨q, hq, e1⟩ := (h.2.2 t p hp).2
    obtain ⟨q', hq', e2⟩ := (g.2.2 t p hp).2
    have := (h.2.2 t p hp).1 q' hq'
    have := (g.2.2 t p hp).1 q hq
    omega
/-- scripts with one effect do the same -/
theorem same_eff {cs ds : List Cmd} {l : List Int} (hc : Fits l.length cs) (hd : Fits l.length ds) (h : runM (desc l.length) cs = runM (desc l.length) ds) : runM l cs = runM l ds := by
  have a := told_run cs l (desc l.length) hc told_nil
  have b := told_run ds l (desc l.length) hd told_nil
  rw [← h] at b
  exact told_one a b
end My
namespace My
/-! ### exchanges of neighbours -/
theorem two_at {l : List Int} {k : Nat} (h1 : 1 ≤ k) (h2 : k < l.length) : ∃ A B, l = A ++ l[k - 1] :: l[k] :: B ∧ A.length = k - 1 := by
  refine ⟨l.take (k - 1), l.drop (k + 1), ?_, by rw [List.length_take]; omega⟩
  have e1 : l.drop (k - 1) = l[k - 1] :: l.drop k := by
    rw [List.drop_eq_getElem_cons (by omega)]
    simp only [show k - 1 + 1 = k by omega]
  have e2 : l.drop k = l[k] :: l.drop (k + 1) := List.drop_eq_getElem_cons h2
  rw [← e2, ← e1, List.take_append_drop]
theorem seg_two {A B : List Int} {a b : Int} {k : Nat} (h1 : 1 ≤ k) (hA : A.length = k - 1) : seg (A ++ a :: b :: B) k (k + 1) = if b < a then A ++ b :: a :: B else A ++ a :: b :: B := by
  unfold seg
  have e1 : (A ++ a :: b :: B).take (k - 1) = A := by rw [← hA, List.take_left]
  have e2 : (A ++ a :: b :: B).drop (k - 1) = a :: b :: B := by rw [← hA, List.drop_left]
  have e3 : (A ++ a :: b :: B).drop (k + 1) = B := by
    rw [show A ++ a :: b :: B = (A ++ [a, b]) ++ B by simp, show k + 1 = (A ++ [a, b]).length by rw [List.length_append]; show _ = A.length + 2; omega, List.drop_left]
  rw [e1, e2, e3, show k + 1 - (k - 1) = 2 by omega]
  have e4 : srt [a, b] = if a ≤ b then [a, b] else [b, a] := by simp [srt, ins]
  show A ++ srt [a, b] ++ B = _
  rw [e4]
  by_cases g : a ≤ b
  · rw [if_pos g, if_neg (by omega)]; simp
  · rw [if_neg g, if_pos (by omega)]; simp
/-- two neighbours exchanged -/
def swp (l : List Int) (k : Nat) (x y : Int) : List Int := (l.set (k - 1) x).set k y
theorem swp_two {A B : List Int} {a b x y : Int} {k : Nat} (h1 : 1 ≤ k) (hA : A.length = k - 1) : swp (A ++ a :: b :: B) k x y = A ++ x :: y :: B := by
  unfold swp
  rw [List.set_append_right _ _ (by omega), show k - 1 - A.length = 0 by omega]
  rw [List.set_append_right _ _ (by omega), show k - A.length = 1 by omega]
  rfl
theorem nb_gt {l : List Int} {k : Nat} (h1 : 1 ≤ k) (h2 : k < l.length) (g : l[k] < l[k - 1]) : seg l k (k + 1) = swp l k l[k] l[k - 1] := by
  obtain ⟨A, B, e, hA⟩ := two_at h1 h2
  generalize l[k] = b at e g; generalize l[k - 1] = a at e g
  rw [e, seg_two h1 hA, if_pos g, swp_two h1 hA]
theorem nb_le {l : List Int} {k : Nat} (h1 : 1 ≤ k) (h2 : k < l.length) (g : ¬ l[k] < l[k - 1]) : seg l k (k + 1) = l := by
  obtain ⟨A, B, e, hA⟩ := two_at h1 h2
  generalize l[k] = b at e g; generalize l[k - 1] = a at e g
  rw [e, seg_two h1 hA, if_neg g]
theorem swp_len {l : List Int} {k : Nat} {x y : Int} : (swp l k x y).length = l.length := by simp [swp]
theorem nb_back {l : List Int} {k : Nat} (h1 : 1 ≤ k) (h2 : k < l.length) (g : l[k - 1] < l[k]) : seg (swp l k l[k] l[k - 1]) k (k + 1) = l := by
  obtain ⟨A, B, e, hA⟩ := two_at h1 h2
  generalize l[k] = b at e g ⊢; generalize l[k - 1] = a at e g ⊢
  rw [e, swp_two h1 hA, seg_two h1 hA, if_pos g]
theorem swp_perm {l : List Int} {k : Nat} (h1 : 1 ≤ k) (h2 : k < l.length) : (swp l k l[k] l[k - 1]).Perm l := by
  obtain ⟨A, B, e, hA⟩ := two_at h1 h2
  generalize l[k] = b at e ⊢; generalize l[k - 1] = a at e ⊢
  rw [e, swp_two h1 hA]
  exact (List.Perm.swap _ _ _).append_left _
def nbs (l : List Int) (ps : List Nat) : List Int := runM l (ps.map fun k => (k, k + 1))
def Nb (n : Nat) (ps : List Nat) : Prop := ∀ k ∈ ps, 1 ≤ k ∧ k < n
theorem Nb.fits {n : Nat} {ps : List Nat} (h : Nb n ps) : Fits n (ps.map fun k => (k, k + 1)) := fun c hc => by
  obtain ⟨k, hk, rfl⟩ := List.mem_map.mp hc
  have := h k hk
  show 1 ≤ k ∧ k ≤ k + 1 ∧ k + 1 ≤ n
  omega
theorem nbs_cons (l : List Int) (k : Nat) (ps : List Nat) : nbs l (k :: ps) = nbs (seg l k (k + 1)) ps := rfl
theorem nbs_snoc (l : List Int) (k : Nat) (ps : List Nat) : nbs l (ps ++ [k]) = seg (nbs l ps) k (k + 1) := by unfold nbs; rw [List.map_append, runM_app]; rfl
theorem nbs_len {l : List Int} {ps : List Nat} (h : Nb l.length ps) : (nbs l ps).length = l.length := runM_len h.fits
theorem nbs_perm {l : List Int} {ps : List Nat} (h : Nb l.length ps) : (nbs l ps).Perm l := runM_perm _ _ h.fits
/-- the values ahead of place e, all but the one at place pl, do not rise -/
def Ins (l : List Int) (e pl : Nat) : Prop := ∀ a b, a < b → b ≤ e → b ≠ pl → l.getD b 0 ≤ l.getD a 0
def Down (l : List Int) (e : Nat) : Prop := ∀ a b, a < b → b < e → l.getD b 0 ≤ l.getD a 0
theorem swp_get {l : List Int} {k j : Nat} {x y : Int} (h1 : 1 ≤ k) (h2 : k < l.length) : (swp l k x y).getD j 0 = if j = k then y else if j = k - 1 then x else l.getD j 0 := by
  unfold swp
  simp only [List.getD_eq_getElem?_getD, List.getElem?_set, List.length_set]
  by_cases e1 : k = j
  · subst e1; simp [h2]
  · by_cases e2 : k - 1 = j
    · rw [if_neg e1, if_pos e2, if_pos (by omega), if_neg (Ne.symm e1), if_pos e2.symm]; rfl
    · rw [if_neg e1, if_neg e2, if_neg (Ne.symm e1), if_neg (Ne.symm e2)]
theorem getD_at {l : List Int} {k : Nat} (h : k < l.length) : l[k] = l.getD k 0 := by simp [List.getD, h]
theorem ins_step {l : List Int} {e pl : Nat} (h : Ins l e pl) (h1 : 1 ≤ pl) (h2 : pl < l.length) (h3 : pl ≤ e) (g : l[pl - 1] < l[pl]) : Ins (swp l pl l[pl] l[pl - 1]) e (pl - 1) := fun a b hab hb hne => by
  rw [swp_get h1 h2, swp_get h1 h2]
  rw [getD_at h2, getD_at (show pl - 1 < l.length by omega)] at *
  by_cases e1 : b = pl
  · rw [if_pos e1, if_neg (by omega)]
    split
    · omega
    · exact h a (pl - 1) (by omega) (by omega) (by omega)
  · rw [if_neg e1, if_neg hne]
    split
    · exact h (pl - 1) b (by omega) hb e1
    · split
      · exact h pl b (by omega) hb e1
      · exact h a b hab hb e1
theorem ins_done {l : List Int} {e pl : Nat} (h : Ins l e pl) (h2 : pl < l.length) (h3 : pl ≤ e) (g : pl = 0 ∨ ∃ h0 : 1 ≤ pl, ¬ l[pl - 1] < l[pl]) : Down l (e + 1) := fun a b hab hb => by
  by_cases e1 : b = pl
  · subst e1
    rcases g with g | ⟨h0, g⟩
    · omega
    · rw [getD_at h2, getD_at (show b - 1 < l.length by omega)] at g
      by_cases e2 : a = b - 1
      · rw [e2]; omega
      · have := h a (b - 1) (by omega) (by omega) (by omega)
        omega
  · exact h a b hab (by omega) e1
theorem ins_start {l : List Int} {e : Nat} (h : Down l e) : Ins l e e := fun a b hab hb hne => h a b hab (by omega)
def ascN (n : Nat) : List Int := (List.range n).map fun (i : Nat) => (1 + i : Int)
theorem desc_rev (n : Nat) : desc n = (ascN n).reverse := by
  refine List.ext_getElem (by simp [desc, ascN]) fun k h1 h2 => ?_
  have : k < n := by simpa [desc] using h1
  simp [desc, ascN]
  omega
theorem asc_up : ∀ n, (ascN n).Pairwise (· ≤ ·)
  | 0 => List.Pairwise.nil
  | n + 1 => by
    unfold ascN
    rw [List.range_succ, List.map_append]
    refine List.pairwise_append.mpr ⟨asc_up n, List.pairwise_singleton _ _, fun a ha b hb => ?_⟩
    obtain ⟨i, hi, rfl⟩ := List.mem_map.mp ha
    rw [List.map_singleton, List.mem_singleton] at hb
    have := List.mem_range.mp hi
    omega
theorem down_desc {l : List Int} {n : Nat} (hp : l.Perm (ascN n)) (h : Down l n) : l = desc n := by
  rw [desc_rev]
  have hl : l.length = n := by rw [hp.length_eq]; simp [ascN]
  have e : l.reverse = ascN n := up_unique ((List.reverse_perm l).trans hp) (by
    rw [List.pairwise_reverse, List.pairwise_iff_getElem]
    intro i j hi hj hij
    have := h i j hij (by omega)
    rw [← getD_at hi, ← getD_at hj] at this
    exact this) (asc_up n)
  rw [← e, List.reverse_reverse]
theorem desc_perm (n : Nat) : (desc n).Perm (ascN n) := by rw [desc_rev]; exact List.reverse_perm _
/-- each exchange changes the row at its turn -/
def Liv : List Int → List Nat → Prop
  | _, [] => True
  | l, k :: r => seg l k (k + 1) ≠ l ∧ Liv (seg l k (k + 1)) r
/-- the exchange places as they are found: one value sinks in -/
def bub : Nat → List Int → List Nat → List Int × List Nat
  | 0, l, ps => (l, ps)
  | k + 1, l, ps => if l.getD k 0 < l.getD (k + 1) 0 then bub k (swp l (k + 1) (l.getD (k + 1) 0) (l.getD k 0)) (ps ++ [k + 1]) else (l, ps)
def exU (E : List Int) : Nat → List Int × List Nat
  | 0 => (E, [])
  | i + 1 => bub (1 + i) (exU E i).1 (exU E i).2
def exM (E : List Int) : List Nat := (exU E (E.length - 1)).2.reverse
theorem bub_step {l : List Int} {k : Nat} {ps : List Nat} (h1 : 1 ≤ k) (h2 : k < l.length) (g : l[k - 1] < l[k]) : bub k l ps = bub (k - 1) (swp l k l[k] l[k - 1]) (ps ++ [k]) := by
  obtain ⟨j, rfl⟩ : ∃ j, k = j + 1 := ⟨k - 1, by omega⟩
  have a : l.getD j 0 = l[j] := (getD_at (by omega)).symm
  have b : l.getD (j + 1) 0 = l[j + 1] := (getD_at h2).symm
  rw [bub, a, b]
  exact if_pos g
theorem bub_done {l : List Int} {k : Nat} {ps : List Nat} (h2 : k < l.length) (g : k = 0 ∨ ∃ h0 : 1 ≤ k, ¬ l[k - 1] < l[k]) : bub k l ps = (l, ps) := by
  cases k with
  | zero => rfl
  | succ j =>
    rcases g with g | ⟨_, g⟩
    · omega
    have a : l.getD j 0 = l[j] := (getD_at (by omega)).symm
    have b : l.getD (j + 1) 0 = l[j + 1] := (getD_at h2).symm
    rw [bub, a, b]
    exact if_neg g
/-- a row on its way from an effect back to the descending arrangement -/
def Way (E l : List Int) (ps : List Nat) : Prop := l.Perm E ∧ Nb E.length ps ∧ nbs l ps.reverse = E ∧ Liv l ps.reverse
theorem way_nil (E : List Int) : Way E E [] := ⟨List.Perm.refl _, ⟨fun k hk => (by cases hk), rfl, trivial⟩⟩
theorem way_step {E l : List Int} {ps : List Nat} {k : Nat} (h : Way E l ps) (h1 : 1 ≤ k) (h2 : k < l.length) (g : l[k - 1] < l[k]) : Way E (swp l k l[k] l[k - 1]) (ps ++ [k]) := by
  refine ⟨(swp_perm h1 h2).trans h.1, fun j hj => ?_, ?_, ?_⟩
  · rcases List.mem_append.mp hj with z | z
    · exact h.2.1 j z
    · rw [List.mem_singleton.mp z, ← h.1.length_eq]; exact ⟨h1, h2⟩
  · rw [List.reverse_append]
    show nbs (seg (swp l k l[k] l[k - 1]) k (k + 1)) ps.reverse = E
    rw [nb_back h1 h2 g]
    exact h.2.2.1
  · rw [List.reverse_append]
    show seg (swp l k l[k] l[k - 1]) k (k + 1) ≠ swp l k l[k] l[k - 1] ∧ Liv (seg (swp l k l[k] l[k - 1]) k (k + 1)) ps.reverse
    rw [nb_back h1 h2 g]
    refine ⟨fun e => ?_, h.2.2.2⟩
    have e1 := swp_get (l := l) (k := k) (j := k) (x := l[k]) (y := l[k - 1]) h1 h2
    rw [← e, if_pos rfl, ← getD_at h2] at e1
    omega
/-- what stands for any script with an effect -/
def Stand (E : List Int) (ps : List Nat) : Prop := Nb E.length ps ∧ nbs (desc E.length) ps = E
theorem way_end {E l : List Int} {ps : List Nat} {n : Nat} (h : Way E l ps) (hE : E.Perm (ascN n)) (hd : Down l n) : Stand E ps.reverse := by
  have hn : E.length = n := by rw [hE.length_eq]; simp [ascN]
  refine ⟨fun k hk => h.2.1 k (List.mem_reverse.mp hk), ?_⟩
  rw [hn, ← down_desc (h.1.trans hE) hd]
  exact h.2.2.1
theorem way_liv {E l : List Int} {ps : List Nat} {n : Nat} (h : Way E l ps) (hE : E.Perm (ascN n)) (hd : Down l n) : Liv (desc n) ps.reverse := by
  rw [← down_desc (h.1.trans hE) hd]
  exact h.2.2.2
theorem stand_run {E l : List Int} {ps : List Nat} {cs : List Cmd} (h : Stand E ps) (hl : l.length = E.length) (hc : Fits E.length cs) (he : runM (desc E.length) cs = E) : nbs l ps = runM l cs := by
  refine same_eff (hl ▸ h.1.fits) (hl ▸ hc) ?_
  rw [hl, he]
  exact h.2
end My
namespace My
theorem seg_split {l : List Int} {i j : Nat} (h1 : i ≤ j) (h2 : j ≤ l.length) : ∃ A M B, l = A ++ M ++ B ∧ A.length = i - 1 ∧ M.length = j - (i - 1) ∧ seg l i j = A ++ srt M ++ B := by
  refine ⟨l.take (i - 1), (l.drop (i - 1)).take (j - (i - 1)), l.drop j, ?_, by rw [List.length_take]; omega, by rw [List.length_take, List.length_drop]; omega, rfl⟩
  conv => lhs; rw [← List.take_append_drop (i - 1) l, ← List.take_append_drop (j - (i - 1)) (l.drop (i - 1)), List.drop_drop]
  rw [List.append_assoc, show i - 1 + (j - (i - 1)) = j by omega]
theorem srt_id {l : List Int} (h : l.Pairwise (· ≤ ·)) : srt l = l := (srt_is (List.Perm.refl l) h).symm
theorem seg_app {A M B : List Int} {i j : Nat} (hA : A.length = i - 1) (hM : M.length = j - (i - 1)) (h : i ≤ j) : seg (A ++ M ++ B) i j = A ++ srt M ++ B := by
  unfold seg
  have e1 : (A ++ M ++ B).take (i - 1) = A := by rw [List.append_assoc, ← hA, List.take_left]
  have e2 : (A ++ M ++ B).drop (i - 1) = M ++ B := by rw [List.append_assoc, ← hA, List.drop_left]
  have e3 : (A ++ M ++ B).drop j = B := by rw [show j = (A ++ M).length by rw [List.length_append]; omega, List.drop_left]
  rw [e1, e2, e3, ← hM, List.take_left]
theorem step_twice {l : List Int} {c : Cmd} (h1 : c.1 ≤ c.2) (h2 : c.2 ≤ l.length) : step (step l c) c = step l c := by
  unfold step
  obtain ⟨A, M, B, _, hA, hM, e⟩ := seg_split h1 h2
  rw [e, seg_app hA (by rw [srt_len]; exact hM) h1, srt_id (srt_up M)]
end My
namespace My
/-- the values at the places of a command, falling -/
def dstep (l : List Int) (c : Cmd) : List Int := l.take (c.1 - 1) ++ (srt ((l.drop (c.1 - 1)).take (c.2 - (c.1 - 1)))).reverse ++ l.drop c.2
theorem dstep_perm {l : List Int} {c : Cmd} (h1 : c.1 ≤ c.2) (h2 : c.2 ≤ l.length) : (dstep l c).Perm l := by
  unfold dstep
  have e : l = l.take (c.1 - 1) ++ (l.drop (c.1 - 1)).take (c.2 - (c.1 - 1)) ++ l.drop c.2 := by
    conv => lhs; rw [← List.take_append_drop (c.1 - 1) l, ← List.take_append_drop (c.2 - (c.1 - 1)) (l.drop (c.1 - 1)), List.drop_drop]
    rw [List.append_assoc, show c.1 - 1 + (c.2 - (c.1 - 1)) = c.2 by omega]
  conv => rhs; rw [e]
  exact (((List.reverse_perm _).trans (srt_perm _)).append_left _).append_right _
def backR (rs : List Cmd) (l : List Int) : List Int := rs.foldl dstep l
def backM (cs : List Cmd) (l : List Int) : List Int := backR cs.reverse l
theorem backR_perm : ∀ (rs : List Cmd) (l : List Int), Fits l.length rs → (backR rs l).Perm l
  | [], l, _ => List.Perm.refl l
  | c :: r, l, h => by
    have hc := h c List.mem_cons_self
    have p := dstep_perm hc.2.1 hc.2.2
    refine List.Perm.trans (backR_perm r (dstep l c) ?_) p
    rw [p.length_eq]
    exact fun d hd => h d (List.mem_cons_of_mem _ hd)
theorem Fits.rev {n : Nat} {cs : List Cmd} (h : Fits n cs) : Fits n cs.reverse := fun c hc => h c (List.mem_reverse.mp hc)
theorem backM_perm {cs : List Cmd} {l : List Int} (h : Fits l.length cs) : (backM cs l).Perm l := backR_perm _ _ h.rev
theorem backR_snoc (l : List Int) (cs : List Cmd) (c : Cmd) : backR (cs ++ [c]) l = dstep (backR cs l) c := by unfold backR; rw [List.foldl_append]; rfl
theorem down_is {l m : List Int} (h : m.Perm l) (u : m.Pairwise (· ≥ ·)) : m = (srt l).reverse := by
  have := srt_is (l := l) (m := m.reverse) ((List.reverse_perm m).trans h) (List.pairwise_reverse.mpr u)
  rw [← this, List.reverse_reverse]
theorem srt_eq {l m : List Int} (h : l.Perm m) : srt l = srt m := srt_is ((srt_perm l).trans h) (srt_up l)
theorem srt_run {l : List Int} {cs : List Cmd} (h : Fits l.length cs) : srt (runM l cs) = srt l := srt_eq (runM_perm cs l h)
/-- the value behind the first descent -/
def witM : List Int → Option Int
  | [] => none
  | [_] => none
  | x :: y :: r => if y < x then some y else witM (y :: r)
theorem wit_none : ∀ {l : List Int}, witM l = none → l.Pairwise (· ≤ ·)
  | [], _ => List.Pairwise.nil
  | [x], _ => List.pairwise_singleton _ _
  | x :: y :: r, h => by
    unfold witM at h
    split at h
    · cases h
    · rename_i g
      have ih := wit_none h
      refine List.pairwise_cons.mpr ⟨fun z hz => ?_, ih⟩
      rcases List.mem_cons.mp hz with e | e
      · rw [e]; omega
      · have := (List.pairwise_cons.mp ih).1 z e; omega
theorem wit_some : ∀ {l : List Int} {v : Int}, witM l = some v → ¬ (l.map fun x => if v < x then (1 : Int) else 0).Pairwise (· ≤ ·)
  | x :: y :: r, v, h => by
    unfold witM at h
    intro hp
    rw [List.map_cons] at hp
    have hp1 := List.pairwise_cons.mp hp
    split at h
    · rename_i g
      cases h
      have := hp1.1 _ (List.mem_map.mpr ⟨y, List.mem_cons_self, rfl⟩)
      rw [if_pos g, if_neg (by omega)] at this
      omega
    · exact wit_some h hp1.2
theorem wit_up {l : List Int} (h : l.Pairwise (· ≤ ·)) : witM l = none := by
  cases e : witM l with
  | none => rfl
  | some v =>
    refine absurd ?_ (wit_some e)
    rw [List.pairwise_map]
    exact h.imp fun {a b} hab => by split <;> split <;> omega
theorem wit_sorted {l : List Int} : witM l = none ↔ l = srt l := ⟨fun h => srt_is (List.Perm.refl _) (wit_none h), fun h => wit_up (h ▸ srt_up l)⟩
/-- sorting heeds the order alone -/
theorem srt_map {f : Int → Int} (hf : ∀ a b, a ≤ b → f a ≤ f b) (l : List Int) : srt (l.map f) = (srt l).map f :=
  (srt_is ((srt_perm l).map f) (List.pairwise_map.mpr ((srt_up l).imp fun {a b} h => hf a b h))).symm
theorem step_map {f : Int → Int} (hf : ∀ a b, a ≤ b → f a ≤ f b) (l : List Int) (c : Cmd) : step (l.map f) c = (step l c).map f := by
  unfold step seg
  rw [List.map_append, List.map_append, ← List.map_drop, ← List.map_take, ← List.map_take, ← List.map_drop, srt_map hf]
theorem run_map {f : Int → Int} (hf : ∀ a b, a ≤ b → f a ≤ f b) : ∀ (cs : List Cmd) (l : List Int), runM (l.map f) cs = (runM l cs).map f
  | [], _ => rfl
  | c :: r, l => by
    show runM (step (l.map f) c) r = (runM (step l c) r).map f
    rw [step_map hf, run_map hf r]
theorem bit_mono (v : Int) : ∀ a b : Int, a ≤ b → (if v < a then (1 : Int) else 0) ≤ if v < b then 1 else 0 := fun a b h => by split <;> split <;> omega
end My
namespace My
theorem most_zc {a b : List Int} : AtMost a b ↔ ∀ p q : Nat, zc b q p ≤ zc a q p := by
  unfold AtMost cnt zc
  simp only [List.countP_eq_length_filter]
theorem zc_low {l : List Int} {t : Int} (h : ∀ v ∈ l, 1 ≤ v) (ht : t < 1) (p : Nat) : zc l t p = 0 := List.countP_eq_zero.mpr fun v hv => by
  have := h v (List.mem_of_mem_take hv)
  simp; omega
theorem zc_rev {s : List Int} (t : Int) (h : s.Pairwise (· ≤ ·)) {k : Nat} (hk : k ≤ s.length) : zc s.reverse t k = s.countP (fun v => decide (v ≤ t)) - (s.length - k) := by
  have e : zc s.reverse t k = (s.drop (s.length - k)).countP (fun v => decide (v ≤ t)) := by
    unfold zc
    rw [List.take_reverse, List.countP_reverse]
  have e2 : (s.take (s.length - k)).countP (fun v => decide (v ≤ t)) + (s.drop (s.length - k)).countP (fun v => decide (v ≤ t)) = s.countP (fun v => decide (v ≤ t)) := by
    rw [← List.countP_append, List.take_append_drop]
  have e3 := up_zc t s (s.length - k) h
  unfold zc at e3
  have e4 : (s.drop (s.length - k)).countP (fun v => decide (v ≤ t)) ≤ k := Nat.le_trans List.countP_le_length (by rw [List.length_drop]; omega)
  rw [e]
  omega
theorem zc_dseg {l : List Int} {c : Cmd} (h1 : 1 ≤ c.1) (h2 : c.1 ≤ c.2) (h3 : c.2 ≤ l.length) (t : Int) (p : Nat) :
    zc (dstep l c) t p = if p < c.1 ∨ c.2 < p then zc l t p else max (zc l t (c.1 - 1)) (zc l t c.2 - (c.2 - p)) := by
  obtain ⟨i, j⟩ := c
  simp only at h1 h2 h3 ⊢
  obtain ⟨A, M, B, rfl, hA, hM⟩ : ∃ A M B, l = A ++ M ++ B ∧ A.length = i - 1 ∧ M.length = j - (i - 1) := by
    refine ⟨l.take (i - 1), (l.drop (i - 1)).take (j - (i - 1)), l.drop j, ?_, by rw [List.length_take]; omega, by rw [List.length_take, List.length_drop]; omega⟩
    conv => lhs; rw [← List.take_append_drop (i - 1) l, ← List.take_append_drop (j - (i - 1)) (l.drop (i - 1)), List.drop_drop]
    rw [List.append_assoc, show i - 1 + (j - (i - 1)) = j by omega]
  have e : dstep (A ++ M ++ B) (i, j) = A ++ (srt M).reverse ++ B := by
    unfold dstep
    simp only
    have e1 : (A ++ M ++ B).take (i - 1) = A := by rw [List.append_assoc, ← hA, List.take_left]
    have e2 : (A ++ M ++ B).drop (i - 1) = M ++ B := by rw [List.append_assoc, ← hA, List.drop_left]
    have e3 : (A ++ M ++ B).drop j = B := by rw [show j = (A ++ M).length by rw [List.length_append]; omega, List.drop_left]
    rw [e1, e2, e3, ← hM, List.take_left]
  rw [e]
  have hs : (srt M).length = M.length := srt_len M
  have cM : (srt M).countP (fun v => decide (v ≤ t)) = M.countP (fun v => decide (v ≤ t)) := (srt_perm M).countP_eq _
  simp only [zc_app, List.length_append, List.length_reverse, hs, hA, hM]
  rw [zc_all (l := A) (p := j) (by omega), zc_all (l := M) (p := j - (i - 1)) (by omega), show j - (i - 1 + (j - (i - 1))) = 0 by omega]
  rw [zc_all (l := A) (p := i - 1) (by omega), show i - 1 - (i - 1) = 0 by omega, show i - 1 - (i - 1 + (j - (i - 1))) = 0 by omega]
  have z0 : ∀ b : List Int, zc b t 0 = 0 := fun b => by simp [zc]
  rw [z0, z0]
  have hle := List.countP_le_length (p := fun v => decide (v ≤ t)) (l := M)
  by_cases g : p < i ∨ j < p
  · rw [if_pos g]
    rcases g with g | g
    · rw [show p - (i - 1) = 0 by omega]; rw [z0, z0]
    · rw [zc_all (l := M) (p := p - (i - 1)) (by omega), zc_all (l := (srt M).reverse) (p := p - (i - 1)) (by rw [List.length_reverse]; omega), List.countP_reverse, cM]
  · rw [if_neg g, zc_all (l := A) (p := p) (by omega), show p - (i - 1 + (j - (i - 1))) = 0 by omega, z0, zc_rev t (srt_up M) (by omega), cM, hs]
    omega
theorem most_refl (a : List Int) : AtMost a a := fun p q => Nat.le_refl _
theorem most_trans {a b c : List Int} (h : AtMost a b) (g : AtMost b c) : AtMost a c := fun p q => Nat.le_trans (g p q) (h p q)
theorem step_mono {l m : List Int} {c : Cmd} (h1 : 1 ≤ c.1) (h2 : c.1 ≤ c.2) (h3 : c.2 ≤ l.length) (h4 : c.2 ≤ m.length) (h : AtMost l m) : AtMost (step l c) (step m c) := by
  rw [most_zc] at h ⊢
  intro p q
  have e1 : zc (step l c) q p = _ := zc_seg (l := l) h1 h2 h3 q p
  have e2 : zc (step m c) q p = _ := zc_seg (l := m) h1 h2 h4 q p
  rw [e1, e2]
  have a1 := h p q
  have a2 := h (c.1 - 1) q
  have a3 := h c.2 q
  split <;> omega
theorem step_le {l : List Int} {c : Cmd} (h1 : 1 ≤ c.1) (h2 : c.1 ≤ c.2) (h3 : c.2 ≤ l.length) : AtMost (step l c) l := by
  rw [most_zc]
  intro p q
  have e1 : zc (step l c) q p = _ := zc_seg (l := l) h1 h2 h3 q p
  rw [e1]
  split
  · exact Nat.le_refl _
  · rename_i g
    have m1 := zc_mono (l := l) (t := q) (p := c.1 - 1) (p - (c.1 - 1))
    have m2 := zc_mono (l := l) (t := q) (p := p) (c.2 - p)
    rw [show c.1 - 1 + (p - (c.1 - 1)) = p by omega] at m1
    rw [show p + (c.2 - p) = c.2 by omega] at m2
    omega
theorem gal_step {l m : List Int} {c : Cmd} (h1 : 1 ≤ c.1) (h2 : c.1 ≤ c.2) (h3 : c.2 ≤ l.length) (h4 : c.2 ≤ m.length) : AtMost (step l c) m ↔ AtMost l (dstep m c) := by
  rw [most_zc, most_zc]
  have e1 : ∀ (q p : Nat), zc (step l c) q p = _ := fun q p => zc_seg (l := l) h1 h2 h3 q p
  have e2 : ∀ (q p : Nat), zc (dstep m c) q p = _ := fun q p => zc_dseg (l := m) h1 h2 h4 q p
  constructor
  · intro h p q
    rw [e2]
    have a0 := h p q
    have a1 := h (c.1 - 1) q
    have a2 := h c.2 q
    rw [e1] at a0 a1 a2
    rw [if_pos (by omega)] at a1
    rw [if_neg (by omega)] at a2
    split
    · rename_i g
      rw [if_pos g] at a0
      exact a0
    · rename_i g
      have m1 := zc_mono (l := l) (t := q) (p := c.1 - 1) (p - (c.1 - 1))
      have m2 := zc_mono (l := l) (t := q) (p := p) (c.2 - p)
      rw [show c.1 - 1 + (p - (c.1 - 1)) = p by omega] at m1
      rw [show p + (c.2 - p) = c.2 by omega] at m2
      omega
  · intro h p q
    rw [e1]
    have a0 := h p q
    have a1 := h (c.1 - 1) q
    have a2 := h c.2 q
    rw [e2] at a0 a1 a2
    rw [if_pos (by omega)] at a1
    rw [if_neg (by omega)] at a2
    split
    · rename_i g
      rw [if_pos g] at a0
      exact a0
    · rename_i g
      have m1 := zc_mono (l := m) (t := q) (p := c.1 - 1) (p - (c.1 - 1))
      have m2 := zc_mono (l := m) (t := q) (p := p) (c.2 - p)
      rw [show c.1 - 1 + (p - (c.1 - 1)) = p by omega] at m1
      rw [show p + (c.2 - p) = c.2 by omega] at m2
      omega
theorem back_cons (c : Cmd) (r : List Cmd) (m : List Int) : backM (c :: r) m = dstep (backM r m) c := by
  unfold backM
  rw [List.reverse_cons, backR_snoc]
theorem back_app (a b : List Cmd) (m : List Int) : backM (a ++ b) m = backM a (backM b m) := by
  unfold backM backR
  rw [List.reverse_append, List.foldl_append]
theorem gal_run : ∀ (cs : List Cmd) {l m : List Int}, l.length = m.length → Fits m.length cs → (AtMost (runM l cs) m ↔ AtMost l (backM cs m))
  | [], _, _, _, _ => Iff.rfl
  | c :: r, l, m, hl, h => by
    have hc := h c List.mem_cons_self
    have hr : Fits m.length r := fun d hd => h d (List.mem_cons_of_mem _ hd)
    have hb : (backM r m).length = m.length := (backM_perm hr).length_eq
    have hs : (step l c).length = l.length := seg_len hc.2.1 (by omega)
    show AtMost (runM (step l c) r) m ↔ _
    rw [gal_run r (by rw [hs, hl]) hr, back_cons, gal_step hc.1 hc.2.1 (by omega) (by omega)]
theorem run_mono : ∀ (cs : List Cmd) {l m : List Int}, l.length = m.length → Fits m.length cs → AtMost l m → AtMost (runM l cs) (runM m cs)
  | [], _, _, _, _, h => h
  | c :: r, l, m, hl, hf, h => by
    have hc := hf c List.mem_cons_self
    have hs : (step l c).length = l.length := seg_len hc.2.1 (by omega)
    have hs2 : (step m c).length = m.length := seg_len hc.2.1 hc.2.2
    exact run_mono r (by rw [hs, hs2, hl]) (by rw [hs2]; exact fun d hd => hf d (List.mem_cons_of_mem _ hd)) (step_mono hc.1 hc.2.1 (by omega) (by omega) h)
theorem run_le : ∀ (cs : List Cmd) {l : List Int}, Fits l.length cs → AtMost (runM l cs) l
  | [], l, _ => most_refl l
  | c :: r, l, hf => by
    have hc := hf c List.mem_cons_self
    have hs : (step l c).length = l.length := seg_len hc.2.1 hc.2.2
    exact most_trans (run_le r (by rw [hs]; exact fun d hd => hf d (List.mem_cons_of_mem _ hd))) (step_le hc.1 hc.2.1 hc.2.2)
theorem perm_pos {l : List Int} {n : Nat} (h : l.Perm (ascN n)) : ∀ v ∈ l, 1 ≤ v := fun v hv => by
  obtain ⟨k, _, rfl⟩ := List.mem_map.mp (h.mem_iff.mp hv)
  omega
theorem most_anti {a b : List Int} {n : Nat} (ha : a.Perm (ascN n)) (hb : b.Perm (ascN n)) (h : AtMost a b) (g : AtMost b a) : a = b := by
  rw [most_zc] at h g
  refine zc_ext (ha.length_eq.trans hb.length_eq.symm) fun t p _ => ?_
  by_cases ht : t < 1
  · rw [zc_low (perm_pos ha) ht, zc_low (perm_pos hb) ht]
  · obtain ⟨q, rfl⟩ := Int.eq_ofNat_of_zero_le (show 0 ≤ t by omega)
    exact Nat.le_antisymm (g p q) (h p q)
theorem asc_least {m : List Int} {n : Nat} (h : m.Perm (ascN n)) : AtMost (ascN n) m := by
  rw [most_zc]
  intro p q
  rw [up_zc (q : Int) (ascN n) p (asc_up n), ← h.countP_eq]
  refine Nat.le_min.mpr ⟨zc_le m q p, ?_⟩
  exact (List.take_sublist p m).countP_le
theorem least_is {m : List Int} {n : Nat} (h : m.Perm (ascN n)) (g : AtMost m (ascN n)) : m = ascN n := most_anti h (List.Perm.refl _) g (asc_least h)
theorem ascN_length' (n : Nat) : (ascN n).length = n := by simp [ascN]
theorem run_perm_n {l : List Int} {n : Nat} {cs : List Cmd} (h : l.Perm (ascN n)) (hf : Fits n cs) : (runM l cs).Perm (ascN n) := (runM_perm cs l (by rw [h.length_eq, ascN_length']; exact hf)).trans h
theorem back_perm_n {l : List Int} {n : Nat} {cs : List Cmd} (h : l.Perm (ascN n)) (hf : Fits n cs) : (backM cs l).Perm (ascN n) := (backM_perm (by rw [h.length_eq, ascN_length']; exact hf)).trans h
theorem perm_len {l : List Int} {n : Nat} (h : l.Perm (ascN n)) : l.length = n := by rw [h.length_eq, ascN_length']
/-- a row gets sorted exactly if it is at most the greatest row that does -/
theorem sorted_iff {l : List Int} {n : Nat} {cs : List Cmd} (h : l.Perm (ascN n)) (hf : Fits n cs) : runM l cs = ascN n ↔ AtMost l (backM cs (ascN n)) := by
  rw [← gal_run cs (by rw [perm_len h, ascN_length']) (by rw [ascN_length']; exact hf)]
  exact ⟨fun e => e ▸ most_refl _, fun g => least_is (run_perm_n h hf) g⟩
/-- the greatest row before a row is led to at most it -/
theorem back_run {m : List Int} {n : Nat} {cs : List Cmd} (h : m.Perm (ascN n)) (hf : Fits n cs) : AtMost (runM (backM cs m) cs) m :=
  (gal_run cs (by rw [perm_len (back_perm_n h hf), perm_len h]) (by rw [perm_len h]; exact hf)).mpr (most_refl _)
theorem to_back {l : List Int} {n : Nat} {cs : List Cmd} (h : l.Perm (ascN n)) (hf : Fits n cs) : AtMost l (backM cs (runM l cs)) := by
  have hl := perm_len (run_perm_n h hf)
  exact (gal_run cs (by rw [hl, perm_len h]) (by rw [hl]; exact hf)).mp (most_refl _)
/-- what a script made is made of the greatest row before it -/
theorem made_back {l : List Int} {n : Nat} {cs : List Cmd} (h : l.Perm (ascN n)) (hf : Fits n cs) : runM (backM cs (runM l cs)) cs = runM l cs := by
  have hr := run_perm_n h hf
  have hb := back_perm_n hr hf
  refine most_anti (run_perm_n hb hf) hr (back_run hr hf) ?_
  exact run_mono cs (by rw [perm_len h, perm_len hb]) (by rw [perm_len hb]; exact hf) (to_back h hf)
theorem back_mono {l m : List Int} {n : Nat} {cs : List Cmd} (h : l.Perm (ascN n)) (g : m.Perm (ascN n)) (hf : Fits n cs) (a : AtMost l m) : AtMost (backM cs l) (backM cs m) := by
  have hb := back_perm_n h hf
  refine (gal_run cs (by rw [perm_len hb, perm_len g]) (by rw [perm_len g]; exact hf)).mp (most_trans (back_run h hf) a)
/-- every arrangement is at most the falling one -/
theorem desc_most {m : List Int} {n : Nat} (h : m.Perm (ascN n)) : AtMost m (desc n) := by
  have hl := perm_len h
  refine (most_iff (arr_asc h) (arr_asc (desc_perm n)) (by rw [hl, desc_len])).mpr fun p hp q hq => ?_
  rw [hl] at hp hq
  have cz : ∀ (l : List Int), cnt l p q = zc l q p := fun l => by unfold cnt zc; rw [List.countP_eq_length_filter]
  rw [cz, cz]
  have eq' : ((n : Int) - ((n - q : Nat) : Int)) = (q : Int) := by omega
  have d1 := zc_desc (n := n) (n - q) (by omega) p hp
  have d2 := zc_desc (n := n) (n - q) (by omega) n (Nat.le_refl _)
  rw [eq'] at d1 d2
  have e1 : zc m q n = zc (desc n) q n := by
    rw [zc_all (by rw [hl]; exact Nat.le_refl _), zc_all (by rw [desc_len]; exact Nat.le_refl _), (h.trans (desc_perm n).symm).countP_eq]
  have m1 := (zc_mono (l := m) (t := q) (p := p) (n - p)).2
  rw [show p + (n - p) = n by omega] at m1
  omega
/-- a script whose effect is at most another one's leads all rows to at most what the other one does -/
theorem eff_most {l : List Int} {n : Nat} {cs ds : List Cmd} (hl : l.length = n) (hc : Fits n cs) (hd : Fits n ds) (h : AtMost (runM (desc n) cs) (runM (desc n) ds)) : AtMost (runM l cs) (runM l ds) := by
  have a := told_run (n := n) (l0 := l) cs l (desc n) hc (by have := told_nil (l := l); rwa [hl] at this)
  have b := told_run (n := n) (l0 := l) ds l (desc n) hd (by have := told_nil (l := l); rwa [hl] at this)
  rw [most_zc] at h ⊢
  have key : ∀ p, p ≤ n → ∀ q : Nat, zc (runM l ds) q p ≤ zc (runM l cs) q p := fun p hp q => by
    obtain ⟨k, hk, e1⟩ := (a.2.2 q p hp).2
    have e2 := (b.2.2 q p hp).1 k hk
    have e3 := h p (n - k)
    rw [show (((n - k : Nat) : Nat) : Int) = (n : Int) - (k : Int) by omega] at e3
    omega
  intro p q
  by_cases hp : p ≤ n
  · exact key p hp q
  · have := key n (Nat.le_refl _) q
    rw [zc_all (l := runM l ds) (p := p) (by rw [b.1]; omega), zc_all (l := runM l cs) (p := p) (by rw [a.1]; omega)]
    rw [zc_all (l := runM l ds) (p := n) (by rw [b.1]; exact Nat.le_refl _), zc_all (l := runM l cs) (p := n) (by rw [a.1]; exact Nat.le_refl _)] at this
    exact this
theorem srt_asc {l : List Int} {n : Nat} (h : l.Perm (ascN n)) : srt l = ascN n := (srt_is h.symm (asc_up n)).symm
end My
namespace My
abbrev Pr := Int × Int
/-- the first number below n that p holds of -/
def firstN (p : Nat → Bool) (n : Nat) : Option Nat := ((List.range n).filter p).head?
theorem first_some {p : Nat → Bool} {n i : Nat} (hi : i < n) (h : p i = true) (hj : ∀ j, j < i → p j = false) : firstN p n = some i := by
  unfold firstN
  rw [show n = i + (n - i) by omega, List.range_add, List.filter_append, show (List.range i).filter p = [] from List.filter_eq_nil_iff.mpr fun j hm => by rw [hj j (List.mem_range.mp hm)]; decide, List.nil_append,
    show n - i = 1 + (n - i - 1) by omega, List.range_add, List.map_append, List.filter_append]
  simp [h]
theorem first_none {p : Nat → Bool} {n : Nat} (h : ∀ j, j < n → p j = false) : firstN p n = none := by
  unfold firstN
  rw [show (List.range n).filter p = [] from List.filter_eq_nil_iff.mpr fun j hm => by rw [h j (List.mem_range.mp hm)]; decide]
  rfl
theorem first_cases (p : Nat → Bool) (n : Nat) : (∃ i, firstN p n = some i ∧ i < n ∧ p i = true ∧ ∀ j, j < i → p j = false) ∨ (firstN p n = none ∧ ∀ j, j < n → p j = false) := by
  induction n with
  | zero => exact .inr ⟨rfl, fun j hj => absurd hj (Nat.not_lt_zero _)⟩
  | succ n ih =>
    rcases ih with ⟨i, e, hi, hp, hj⟩ | ⟨e, hj⟩
    · exact .inl ⟨i, first_some (by omega) hp hj, by omega, hp, hj⟩
    · cases h : p n with
      | true => exact .inl ⟨n, first_some (by omega) h hj, by omega, h, hj⟩
      | false =>
        have all : ∀ j, j < n + 1 → p j = false := fun j hm => by
          by_cases e : j = n
          · rw [e]; exact h
          · exact hj j (by omega)
        exact .inr ⟨first_none all, all⟩
theorem first_at {p : Nat → Bool} {n i : Nat} (h : firstN p n = some i) : i < n ∧ p i = true ∧ ∀ j, j < i → p j = false := by
  rcases first_cases p n with ⟨k, e, r⟩ | ⟨e, _⟩
  · rw [h] at e; cases e; exact r
  · rw [h] at e; cases e
theorem first_no {p : Nat → Bool} {n : Nat} (h : firstN p n = none) : ∀ j, j < n → p j = false := by
  rcases first_cases p n with ⟨k, e, _⟩ | ⟨_, r⟩
  · rw [h] at e; cases e
  · exact r
/-- a pair that fits -/
def FitW (n : Int) (c : Pr) : Prop := 1 ≤ c.1 ∧ c.1 ≤ c.2 ∧ c.2 ≤ n
instance (n : Int) (c : Pr) : Decidable (FitW n c) := by unfold FitW; infer_instance
/-- the first pair that does not fit -/
def wrW (n : Int) (ws : List Pr) (i : Nat) : Bool := !decide (FitW n (ws.getD i (0, 0)))
def eW (n : Int) (ws : List Pr) : Option Nat := firstN (wrW n ws) ws.length
/-- the first value that is no value of an arrangement -/
def wrR (ns : List Int) (i : Nat) : Bool := !decide (1 ≤ ns.getD i 0 ∧ ns.getD i 0 ≤ (ns.length : Int) ∧ ns.getD i 0 ∉ ns.take i)
def eR (ns : List Int) : Option Nat := firstN (wrR ns) ns.length
theorem wrW_at {n : Int} {ws : List Pr} {i : Nat} {c : Pr} (h : ws[i]? = some c) : wrW n ws i = !decide (FitW n c) := by
  unfold wrW; rw [List.getD_eq_getElem?_getD, h]; rfl
theorem wrR_at {ns : List Int} {i : Nat} (h : i < ns.length) : wrR ns i = !decide (1 ≤ ns[i] ∧ ns[i] ≤ (ns.length : Int) ∧ ns[i] ∉ ns.take i) := by
  unfold wrR; rw [List.getD_eq_getElem?_getD, List.getElem?_eq_getElem h]; rfl
theorem eW_fits {n : Int} {ws : List Pr} (h : eW n ws = none) : ∀ c ∈ ws, FitW n c := fun c hc => by
  obtain ⟨i, hi, e⟩ := List.getElem_of_mem hc
  have := first_no h i hi
  rw [wrW_at (c := c) (by rw [List.getElem?_eq_getElem hi, e])] at this
  simpa using this
def toW (c : Cmd) : Pr := ((c.1 : Int), (c.2 : Int))
/-- pairs that fit are commands -/
theorem fits_cmds {n : Nat} : ∀ {ws : List Pr}, (∀ c ∈ ws, FitW (n : Int) c) → ∃ cs : List Cmd, Fits n cs ∧ ws = cs.map toW
  | [], _ => ⟨[], fun _ h => (by cases h), rfl⟩
  | c :: r, h => by
    obtain ⟨cs, hf, e⟩ := fits_cmds (ws := r) fun c hc => h c (List.mem_cons_of_mem _ hc)
    have hc := h c List.mem_cons_self
    unfold FitW at hc
    refine ⟨(c.1.toNat, c.2.toNat) :: cs, fun d hd => ?_, ?_⟩
    · rcases List.mem_cons.mp hd with q | q
      · rw [q]
        have h1 : ((c.1.toNat, c.2.toNat) : Cmd).1 = c.1.toNat := rfl
        have h2 : ((c.1.toNat, c.2.toNat) : Cmd).2 = c.2.toNat := rfl
        rw [h1, h2]; omega
      · exact hf d q
    · rw [List.map_cons, ← e]
      congr 1
      unfold toW
      exact Prod.ext (by show c.1 = ((c.1.toNat : Nat) : Int); omega) (by show c.2 = ((c.2.toNat : Nat) : Int); omega)
theorem nodup_permX : ∀ {l m : List Int}, l.Nodup → (∀ v ∈ l, v ∈ m) → m.length = l.length → l.Perm m
  | [], m, _, _, h => by rw [List.eq_nil_of_length_eq_zero h]
  | x :: r, m, hn, hs, h => by
    have h1 := List.nodup_cons.mp hn
    have hx := hs x List.mem_cons_self
    have hp := List.perm_cons_erase hx
    have hl := hp.length_eq
    rw [List.length_cons] at hl h
    refine ((nodup_permX (m := m.erase x) h1.2 (fun v hv => ?_) (by omega)).cons x).trans hp.symm
    have hne : v ≠ x := fun e => h1.1 (e ▸ hv)
    exact (List.mem_erase_of_ne hne).mpr (hs v (List.mem_cons_of_mem _ hv))
theorem eR_arr {ns : List Int} (h : eR ns = none) : IsArr ns := by
  have g := first_no h
  have all : ∀ i (hi : i < ns.length), 1 ≤ ns[i] ∧ ns[i] ≤ (ns.length : Int) ∧ ns[i] ∉ ns.take i := fun i hi => by
    have := g i hi
    rw [wrR_at hi] at this
    simpa using this
  refine ⟨?_, fun v hv => ?_⟩
  · rw [List.Nodup, List.pairwise_iff_getElem]
    intro i j hi hj hij e
    refine (all j hj).2.2 ?_
    rw [← e]
    exact List.mem_take_iff_getElem.mpr ⟨i, by omega, rfl⟩
  · obtain ⟨i, hi, e⟩ := List.getElem_of_mem hv
    rw [← e]
    exact ⟨(all i hi).1, (all i hi).2.1⟩
theorem arr_eR {ns : List Int} (h : IsArr ns) : eR ns = none := first_none fun i hi => by
  rw [wrR_at hi]
  have h1 := h.2 _ (List.getElem_mem hi)
  have h2 : ns[i] ∉ ns.take i := fun hm => by
    obtain ⟨j, hj, e⟩ := List.mem_take_iff_getElem.mp hm
    have := List.pairwise_iff_getElem.mp (show ns.Pairwise (· ≠ ·) from h.1) j i (by omega) hi (by omega)
    exact this e
  simp [h1.1, h1.2, h2]
theorem arr_perm {ns : List Int} (h : IsArr ns) : ns.Perm (ascN ns.length) := nodup_permX h.1 (fun v hv => by
  have := h.2 v hv
  unfold ascN
  exact List.mem_map.mpr ⟨(v - 1).toNat, List.mem_range.mpr (by omega), by show (1 : Int) + ((v - 1).toNat : Int) = v; omega⟩) (by simp [ascN])
theorem toW_fit {n : Nat} {cs : List Cmd} (h : Fits n cs) : eW (n : Int) (cs.map toW) = none := first_none fun i hi => by
  have hi' : i < cs.length := by simpa using hi
  rw [wrW_at (c := toW cs[i]) (by rw [List.getElem?_map, List.getElem?_eq_getElem hi']; rfl)]
  have := h cs[i] (List.getElem_mem hi')
  have g : FitW (n : Int) (toW cs[i]) := by unfold FitW toW; refine ⟨?_, ?_, ?_⟩ <;> simp only <;> omega
  simp [g]
end My
namespace L43
open PySem PySem.Spec PyProof.Rows L2 Xk
def topS (i : Nat) : Stmt := PySem.Challenge.pw_sortstretches_k43_hidden_errors.main.body.getD i (.Pass ⟨0, 0, 0, 0⟩)
abbrev s_check_size : Stmt := topS 10
theorem sc_check_size : FnScope ["size"] ["size"] (defScope s_check_size) := ⟨rfl, rfl, rfl, by decide +kernel, rfl, by decide +kernel, by decide +kernel⟩
abbrev s_check_script : Stmt := topS 11
theorem sc_check_script : FnScope ["size", "commands", "index", "first", "last"] ["size", "commands"] (defScope s_check_script) := ⟨rfl, rfl, rfl, by decide +kernel, rfl, by decide +kernel, by decide +kernel⟩
abbrev s_check_sized_script : Stmt := topS 12
theorem sc_check_sized_script : FnScope ["size", "commands"] ["size", "commands"] (defScope s_check_sized_script) := ⟨rfl, rfl, rfl, by decide +kernel, rfl, by decide +kernel, by decide +kernel⟩
abbrev s_sort_stretches : Stmt := topS 14
theorem sc_sort_stretches : FnScope ["row", "commands", "present", "first", "last"] ["row", "commands"] (defScope s_sort_stretches) := ⟨rfl, rfl, rfl, by decide +kernel, rfl, by decide +kernel, by decide +kernel⟩
abbrev s_law_bag : Stmt := topS 18
theorem sc_law_bag : FnScope ["script", "blend", "great", "cell"] ["script"] (defScope s_law_bag) := ⟨rfl, rfl, rfl, by decide +kernel, rfl, by decide +kernel, by decide +kernel⟩
abbrev s_law_draw : Stmt := topS 19
theorem sc_law_draw : FnScope ["bag", "many", "drawn", "turn", "mixed"] ["bag", "many"] (defScope s_law_draw) := ⟨rfl, rfl, rfl, by decide +kernel, rfl, by decide +kernel, by decide +kernel⟩
abbrev s_law_commands : Stmt := topS 20
theorem sc_law_commands : FnScope ["bag", "many", "most", "found", "turn", "begin", "width"] ["bag", "many", "most"] (defScope s_law_commands) := ⟨rfl, rfl, rfl, by decide +kernel, rfl, by decide +kernel, by decide +kernel⟩
abbrev s_law_kind : Stmt := topS 28
theorem sc_law_kind : FnScope ["e", "flags", "others"] ["e"] (defScope s_law_kind) := ⟨rfl, rfl, rfl, by decide +kernel, rfl, by decide +kernel, by decide +kernel⟩
abbrev s_law_made : Stmt := topS 29
theorem sc_law_made : FnScope ["many", "moves", "e"] ["many", "moves"] (defScope s_law_made) := ⟨rfl, rfl, rfl, by decide +kernel, rfl, by decide +kernel, by decide +kernel⟩
abbrev s_law_asked : Stmt := topS 30
theorem sc_law_asked : FnScope ["hidden", "cells", "e"] ["hidden", "cells"] (defScope s_law_asked) := ⟨rfl, rfl, rfl, by decide +kernel, rfl, by decide +kernel, by decide +kernel⟩
abbrev s_law : Stmt := topS 31
theorem sc_law : FnScope ["script", "bag", "turn", "many", "moves", "spot", "bad", "due", "hidden", "length", "cells", "fault", "place"] ["script"] (defScope s_law) := ⟨rfl, rfl, rfl, by decide +kernel, rfl, by decide +kernel, by decide +kernel⟩
abbrev s_HiddenScript_init : Stmt := inClass (topS 16) 0
theorem sc_HiddenScript_init : FnScope ["self", "size", "commands"] ["self", "size", "commands"] (defScope s_HiddenScript_init) := ⟨rfl, rfl, rfl, by decide +kernel, rfl, by decide +kernel, by decide +kernel⟩
abbrev s_HiddenScript_size : Stmt := inClass (topS 16) 1
theorem sc_HiddenScript_size : FnScope ["self"] ["self"] (defScope s_HiddenScript_size) := ⟨rfl, rfl, rfl, by decide +kernel, rfl, by decide +kernel, by decide +kernel⟩
abbrev s_HiddenScript_questions : Stmt := inClass (topS 16) 2
theorem sc_HiddenScript_questions : FnScope ["self"] ["self"] (defScope s_HiddenScript_questions) := ⟨rfl, rfl, rfl, by decide +kernel, rfl, by decide +kernel, by decide +kernel⟩
abbrev s_HiddenScript_ask : Stmt := inClass (topS 16) 3
theorem sc_HiddenScript_ask : FnScope ["self", "row", "made"] ["self", "row"] (defScope s_HiddenScript_ask) := ⟨rfl, rfl, rfl, by decide +kernel, rfl, by decide +kernel, by decide +kernel⟩
abbrev s_InvalidCommand_i : Stmt := inClass (topS 3) 0
abbrev s_InvalidSize_i : Stmt := inClass (topS 2) 0
abbrev s_UnequalSizes_i : Stmt := inClass (topS 6) 0
theorem sc_InvalidCommand_i : FnScope ["self", "value"] ["self", "value"] (defScope s_InvalidCommand_i) := ⟨rfl, rfl, rfl, by decide +kernel, rfl, by decide +kernel, by decide +kernel⟩
theorem sc_InvalidSize_i : FnScope ["self", "value"] ["self", "value"] (defScope s_InvalidSize_i) := ⟨rfl, rfl, rfl, by decide +kernel, rfl, by decide +kernel, by decide +kernel⟩
theorem sc_UnequalSizes_i : FnScope ["self", "value"] ["self", "value"] (defScope s_UnequalSizes_i) := ⟨rfl, rfl, rfl, by decide +kernel, rfl, by decide +kernel, by decide +kernel⟩
structure Txt (K : PySem.W.Frag) (mg : Str → Option Value) where
  InvalidCommand_a : Addr
  InvalidCommand_g : mg "InvalidCommand" = some (.ref InvalidCommand_a)
  InvalidNumber_a : Addr
  InvalidNumber_g : mg "InvalidNumber" = some (.ref InvalidNumber_a)
  InvalidRow_a : Addr
  InvalidRow_g : mg "InvalidRow" = some (.ref InvalidRow_a)
  InvalidSize_a : Addr
  InvalidSize_g : mg "InvalidSize" = some (.ref InvalidSize_a)
  NothingToUndo_a : Addr
  NothingToUndo_g : mg "NothingToUndo" = some (.ref NothingToUndo_a)
  SortError_a : Addr
  SortError_g : mg "SortError" = some (.ref SortError_a)
  UnequalSizes_a : Addr
  UnequalSizes_g : mg "UnequalSizes" = some (.ref UnequalSizes_a)
  Unreadable_a : Addr
  Unreadable_g : mg "Unreadable" = some (.ref Unreadable_a)
  HiddenScript_a : Addr
  HiddenScript_g : mg "HiddenScript" = some (.ref HiddenScript_a)
  HiddenScript_cl : Cls K HiddenScript_a
  HiddenScript_n_commands : NoAttr K HiddenScript_a "_commands"
  HiddenScript_n_questions : NoAttr K HiddenScript_a "_questions"
  HiddenScript_n_size : NoAttr K HiddenScript_a "_size"
  InvalidCommand_i_a : Addr
  InvalidCommand_i_d : FuncData
  InvalidCommand_i_F : Fun K "__init__" "InvalidCommand.__init__" s_InvalidCommand_i InvalidCommand_i_a InvalidCommand_i_d
  InvalidCommand_i_b : Binds K InvalidCommand_i_d ["self", "value"] []
  InvalidCommand_X : ExcC K InvalidCommand_a
  InvalidCommand_is_InvalidCommand : PySem.W.kitOne K (.ref InvalidCommand_a) (.ref InvalidCommand_a) = some true
  InvalidCommand_is_InvalidNumber : PySem.W.kitOne K (.ref InvalidCommand_a) (.ref InvalidNumber_a) = some false
  InvalidCommand_is_InvalidRow : PySem.W.kitOne K (.ref InvalidCommand_a) (.ref InvalidRow_a) = some false
  InvalidCommand_is_InvalidSize : PySem.W.kitOne K (.ref InvalidCommand_a) (.ref InvalidSize_a) = some false
  InvalidCommand_is_NothingToUndo : PySem.W.kitOne K (.ref InvalidCommand_a) (.ref NothingToUndo_a) = some false
  InvalidCommand_is_UnequalSizes : PySem.W.kitOne K (.ref InvalidCommand_a) (.ref UnequalSizes_a) = some false
  InvalidCommand_is_Unreadable : PySem.W.kitOne K (.ref InvalidCommand_a) (.ref Unreadable_a) = some false
  InvalidCommand_is_ValueError : PySem.W.kitOne K (.ref InvalidCommand_a) (.type "ValueError") = some true
  InvalidCommand_E : ErrC K mg "InvalidCommand" SortError_a InvalidCommand_a InvalidCommand_i_a
  InvalidSize_i_a : Addr
  InvalidSize_i_d : FuncData
  InvalidSize_i_F : Fun K "__init__" "InvalidSize.__init__" s_InvalidSize_i InvalidSize_i_a InvalidSize_i_d
  InvalidSize_i_b : Binds K InvalidSize_i_d ["self", "value"] []
  InvalidSize_X : ExcC K InvalidSize_a
  InvalidSize_is_InvalidCommand : PySem.W.kitOne K (.ref InvalidSize_a) (.ref InvalidCommand_a) = some false
  InvalidSize_is_InvalidNumber : PySem.W.kitOne K (.ref InvalidSize_a) (.ref InvalidNumber_a) = some false
  InvalidSize_is_InvalidRow : PySem.W.kitOne K (.ref InvalidSize_a) (.ref InvalidRow_a) = some false
  InvalidSize_is_InvalidSize : PySem.W.kitOne K (.ref InvalidSize_a) (.ref InvalidSize_a) = some true
  InvalidSize_is_NothingToUndo : PySem.W.kitOne K (.ref InvalidSize_a) (.ref NothingToUndo_a) = some false
  InvalidSize_is_UnequalSizes : PySem.W.kitOne K (.ref InvalidSize_a) (.ref UnequalSizes_a) = some false
  InvalidSize_is_Unreadable : PySem.W.kitOne K (.ref InvalidSize_a) (.ref Unreadable_a) = some false
  InvalidSize_is_ValueError : PySem.W.kitOne K (.ref InvalidSize_a) (.type "ValueError") = some true
  InvalidSize_E : ErrC K mg "InvalidSize" SortError_a InvalidSize_a InvalidSize_i_a
  UnequalSizes_i_a : Addr
  UnequalSizes_i_d : FuncData
  UnequalSizes_i_F : Fun K "__init__" "UnequalSizes.__init__" s_UnequalSizes_i UnequalSizes_i_a UnequalSizes_i_d
  UnequalSizes_i_b : Binds K UnequalSizes_i_d ["self", "value"] []
  UnequalSizes_X : ExcC K UnequalSizes_a
  UnequalSizes_is_InvalidCommand : PySem.W.kitOne K (.ref UnequalSizes_a) (.ref InvalidCommand_a) = some false
  UnequalSizes_is_InvalidNumber : PySem.W.kitOne K (.ref UnequalSizes_a) (.ref InvalidNumber_a) = some false
  UnequalSizes_is_InvalidRow : PySem.W.kitOne K (.ref UnequalSizes_a) (.ref InvalidRow_a) = some false
  UnequalSizes_is_InvalidSize : PySem.W.kitOne K (.ref UnequalSizes_a) (.ref InvalidSize_a) = some false
  UnequalSizes_is_NothingToUndo : PySem.W.kitOne K (.ref UnequalSizes_a) (.ref NothingToUndo_a) = some false
  UnequalSizes_is_UnequalSizes : PySem.W.kitOne K (.ref UnequalSizes_a) (.ref UnequalSizes_a) = some true
  UnequalSizes_is_Unreadable : PySem.W.kitOne K (.ref UnequalSizes_a) (.ref Unreadable_a) = some false
  UnequalSizes_is_ValueError : PySem.W.kitOne K (.ref UnequalSizes_a) (.type "ValueError") = some true
  UnequalSizes_E : ErrC K mg "UnequalSizes" SortError_a UnequalSizes_a UnequalSizes_i_a
  check_size_a : Addr
  check_size_d : FuncData
  check_size_F : Fun K "check_size" "check_size" s_check_size check_size_a check_size_d
  check_size_b : Binds K check_size_d ["size"] []
  check_size_g : mg "check_size" = some (.ref check_size_a)
  check_script_a : Addr
  check_script_d : FuncData
  check_script_F : Fun K "check_script" "check_script" s_check_script check_script_a check_script_d
  check_script_b : Binds K check_script_d ["size", "commands"] []
  check_script_g : mg "check_script" = some (.ref check_script_a)
  check_sized_script_a : Addr
  check_sized_script_d : FuncData
  check_sized_script_F : Fun K "check_sized_script" "check_sized_script" s_check_sized_script check_sized_script_a check_sized_script_d
  check_sized_script_b : Binds K check_sized_script_d ["size", "commands"] []
  check_sized_script_g : mg "check_sized_script" = some (.ref check_sized_script_a)
  sort_stretches_a : Addr
  sort_stretches_d : FuncData
  sort_stretches_F : Fun K "sort_stretches" "sort_stretches" s_sort_stretches sort_stretches_a sort_stretches_d
  sort_stretches_b : Binds K sort_stretches_d ["row", "commands"] []
  sort_stretches_g : mg "sort_stretches" = some (.ref sort_stretches_a)
  law_bag_a : Addr
  law_bag_d : FuncData
  law_bag_F : Fun K "_law_bag" "_law_bag" s_law_bag law_bag_a law_bag_d
  law_bag_b : Binds K law_bag_d ["script"] []
  law_bag_g : mg "_law_bag" = some (.ref law_bag_a)
  law_draw_a : Addr
  law_draw_d : FuncData
  law_draw_F : Fun K "_law_draw" "_law_draw" s_law_draw law_draw_a law_draw_d
  law_draw_b : Binds K law_draw_d ["bag", "many"] []
  law_draw_g : mg "_law_draw" = some (.ref law_draw_a)
  law_commands_a : Addr
  law_commands_d : FuncData
  law_commands_F : Fun K "_law_commands" "_law_commands" s_law_commands law_commands_a law_commands_d
  law_commands_b : Binds K law_commands_d ["bag", "many", "most"] []
  law_commands_g : mg "_law_commands" = some (.ref law_commands_a)
  law_kind_a : Addr
  law_kind_d : FuncData
  law_kind_F : Fun K "_law_kind" "_law_kind" s_law_kind law_kind_a law_kind_d
  law_kind_b : Binds K law_kind_d ["e"] []
  law_kind_g : mg "_law_kind" = some (.ref law_kind_a)
  law_made_a : Addr
  law_made_d : FuncData
  law_made_F : Fun K "_law_made" "_law_made" s_law_made law_made_a law_made_d
  law_made_b : Binds K law_made_d ["many", "moves"] []
  law_made_g : mg "_law_made" = some (.ref law_made_a)
  law_asked_a : Addr
  law_asked_d : FuncData
  law_asked_F : Fun K "_law_asked" "_law_asked" s_law_asked law_asked_a law_asked_d
  law_asked_b : Binds K law_asked_d ["hidden", "cells"] []
  law_asked_g : mg "_law_asked" = some (.ref law_asked_a)
  law_a : Addr
  law_d : FuncData
  law_F : Fun K "law" "law" s_law law_a law_d
  law_b : Binds K law_d ["script"] []
  law_g : mg "law" = some (.ref law_a)
  HiddenScript_init_a : Addr
  HiddenScript_init_d : FuncData
  HiddenScript_init_F : Fun K "__init__" "HiddenScript.__init__" s_HiddenScript_init HiddenScript_init_a HiddenScript_init_d
  HiddenScript_init_b : Binds K HiddenScript_init_d ["self", "size", "commands"] []
  HiddenScript_mk : Mk K HiddenScript_a HiddenScript_init_a
  HiddenScript_size_a : Addr
  HiddenScript_size_d : FuncData
  HiddenScript_size_F : Fun K "size" "HiddenScript.size" s_HiddenScript_size HiddenScript_size_a HiddenScript_size_d
  HiddenScript_size_b : Binds K HiddenScript_size_d ["self"] []
  HiddenScript_size_p : Addr
  HiddenScript_size_P : PropOf K HiddenScript_a "size" HiddenScript_size_p HiddenScript_size_a
  HiddenScript_questions_a : Addr
  HiddenScript_questions_d : FuncData
  HiddenScript_questions_F : Fun K "questions" "HiddenScript.questions" s_HiddenScript_questions HiddenScript_questions_a HiddenScript_questions_d
  HiddenScript_questions_b : Binds K HiddenScript_questions_d ["self"] []
  HiddenScript_questions_p : Addr
  HiddenScript_questions_P : PropOf K HiddenScript_a "questions" HiddenScript_questions_p HiddenScript_questions_a
  HiddenScript_ask_a : Addr
  HiddenScript_ask_d : FuncData
  HiddenScript_ask_F : Fun K "ask" "HiddenScript.ask" s_HiddenScript_ask HiddenScript_ask_a HiddenScript_ask_d
  HiddenScript_ask_b : Binds K HiddenScript_ask_d ["self", "row"] []
  HiddenScript_ask_M : Meth K HiddenScript_a "ask" HiddenScript_ask_a
  k_HiddenScript_init_commands_size : KBinds K HiddenScript_init_d ["self", "size", "commands"] ["commands", "size"] (fun (us ws : List Value) => match us, ws with | [u0], [w0, w1] => [u0, w1, w0] | _, _ => []) (fun (us ws : List V) => match us, ws with | [u0], [w0, w1] => [u0, w1, w0] | _, _ => [])
  k_HiddenScript_ask_row : KBinds K HiddenScript_ask_d ["self", "row"] ["row"] (fun (us ws : List Value) => match us, ws with | [u0], [w0] => [u0, w0] | _, _ => []) (fun (us ws : List V) => match us, ws with | [u0], [w0] => [u0, w0] | _, _ => [])
  m_ValueError : mg "ValueError" = none
  m_abs : mg "abs" = none
  m_enumerate : mg "enumerate" = none
  m_int : mg "int" = none
  m_isinstance : mg "isinstance" = none
  m_len : mg "len" = none
  m_list : mg "list" = none
  m_max : mg "max" = none
  m_min : mg "min" = none
  m_range : mg "range" = none
  m_sorted : mg "sorted" = none
section
variable {P : Program} {w : World} {K : PySem.W.Frag} {mg : Str → Option Value} {base : Heap}
open My
theorem r_dget {td ty : TE} {σ : L2.St} {H : Hp} {Q : VK} (q : td σ H fun x H1 => ty σ H1 fun y H2 => ∃ a v, x = .ref a ∧ DGet H2 a y (some v) ∧ Q v H2) : tDGet td ty σ H Q := q
theorem r_dput {td ty tv : TE} {D : _} {σ : L2.St} {H : Hp} (q : tv σ H fun v H1 => td σ H1 fun x H2 => ty σ H2 fun y H3 => ∃ a H4, x = .ref a ∧ DPut H3 a y v H4 ∧ D.nx σ H4) : sDPut td ty tv D σ H := q
theorem r_daug {td ty tv : TE} {rd : V → V → Hp → VK → Prop} {D : _} {σ : L2.St} {H : Hp} (q : td σ H fun x H1 => ty σ H1 fun y H2 => ∃ a v, x = .ref a ∧ DGet H2 a y (some v) ∧
  tv σ H2 fun y2 H3 => rd v y2 H3 fun z H4 => ∃ H5, DPut H4 a y z H5 ∧ D.nx σ H5) : sDAug td ty tv rd D σ H := q
theorem r_disp {trs : List (TE × TE)} {σ : L2.St} {H : Hp} {Q : VK} (q : ∀ p, H p = none → tPairs trs σ (upd H p (.dK [])) fun ps H2 => H2 p = some (.dK []) ∧ ∃ kvs : List (Key × V), ps = kvs.map (fun kv => (kV kv.1, kv.2)) ∧ kvs.length ≤ 15 ∧ Q (.ref p) (upd H2 p (.dK (mergeK [] kvs)))) : tDisp trs σ H Q := q
theorem r_pairs {tk tv : TE} {r : List (TE × TE)} {σ : L2.St} {H : Hp} {Q : List (V × V) → Hp → Prop} (q : tk σ H fun x H1 => tv σ H1 fun y H2 => tPairs r σ H2 fun ps H3 => Q ((x, y) :: ps) H3) : tPairs ((tk, tv) :: r) σ H Q := q
theorem r_pairs0 {σ : L2.St} {H : Hp} {Q : List (V × V) → Hp → Prop} (q : Q [] H) : tPairs [] σ H Q := q
abbrev kk (s : String) : Key := .inr (Str.ofString s)
/-- the drawer's dict -/
def bagK (g : Addr) (l t b : Int) : List (Key × V) := [(kk "great", .ref g), (kk "left", .int l), (kk "turn", .int t), (kk "blend", .int b)]
section
variable {H : Hp} {r g : Addr} {l t b : Int}
theorem get_great (h : H r = some (.dK (bagK g l t b))) : DGet H r (.str (Str.ofString "great")) (some (.ref g)) := DGet.k (k := kk "great") h
theorem get_left (h : H r = some (.dK (bagK g l t b))) : DGet H r (.str (Str.ofString "left")) (some (.int l)) := DGet.k (k := kk "left") h
theorem get_turn (h : H r = some (.dK (bagK g l t b))) : DGet H r (.str (Str.ofString "turn")) (some (.int t)) := DGet.k (k := kk "turn") h
theorem get_blend (h : H r = some (.dK (bagK g l t b))) : DGet H r (.str (Str.ofString "blend")) (some (.int b)) := DGet.k (k := kk "blend") h
theorem put_left (h : H r = some (.dK (bagK g l t b))) (x : Int) : DPut H r (.str (Str.ofString "left")) (.int x) (upd H r (.dK (bagK g x t b))) := DPut.k (k := kk "left") h (size_lt (by show 4 < _; decide))
theorem put_turn (h : H r = some (.dK (bagK g l t b))) (x : Int) : DPut H r (.str (Str.ofString "turn")) (.int x) (upd H r (.dK (bagK g l x b))) := DPut.k (k := kk "turn") h (size_lt (by show 4 < _; decide))
end
/-- all but r and g kept -/
def Sy (r g : Addr) (H H' : Hp) : Prop := ∀ b o, b ≠ r → b ≠ g → H b = some o → H' b = some o
def Bag (H : Hp) (r g : Addr) (m : Nat) : Prop := ∃ (gs : List Int) (l t b : Int), H r = some (.dK (bagK g l t b)) ∧ H g = some (.lst (gs.map V.int)) ∧ (∀ x ∈ gs, 0 ≤ x) ∧ gs.length ≤ 63 ∧ 0 ≤ l ∧ 0 ≤ t ∧ t ≤ m ∧ 0 ≤ b ∧ b < 2 ^ 61
theorem Sy.refl {r g : Addr} {H : Hp} : Sy r g H H := fun _ _ _ _ h => h
theorem Sy.trans {r g : Addr} {H H1 H2 : Hp} (s : Sy r g H H1) (t : Sy r g H1 H2) : Sy r g H H2 := fun b o h1 h2 h => t b o h1 h2 (s b o h1 h2 h)
theorem Sy.same {r g : Addr} {H H1 H2 : Hp} (s : Sy r g H H1) (t : Same H1 H2) : Sy r g H H2 := fun b o h1 h2 h => t b o (s b o h1 h2 h)
theorem Sy.putr {r g : Addr} {H H1 : Hp} {o : HO} (s : Sy r g H H1) : Sy r g H (upd H1 r o) := fun b u h1 h2 h => upd_to h1 (s b u h1 h2 h)
theorem Sy.putg {r g : Addr} {H H1 : Hp} {o : HO} (s : Sy r g H H1) : Sy r g H (upd H1 g o) := fun b u h1 h2 h => upd_to h2 (s b u h1 h2 h)
theorem Bag.same {r g : Addr} {H H' : Hp} {m : Nat} (h : Bag H r g m) (s : Same H H') : Bag H' r g m := by
  obtain ⟨gs, l, t, b, h1, h2, h3⟩ := h
  exact ⟨gs, l, t, b, s _ _ h1, s _ _ h2, h3⟩
theorem Sy.new {r g a : Addr} {H : Hp} {o : HO} (np : H a = none) : Sy r g H (upd H a o) := fun b u _ _ h => upd_old np h
theorem Sy.old {r g a : Addr} {H H0 : Hp} {o : HO} (s : Sy r g H0 H) (n : H0 a = none) : Sy r g H0 (upd H a o) := fun b u h1 h2 h => upd_to (ne_of_none h n) (s b u h1 h2 h)
theorem Bag.ner {H : Hp} {r g p : Addr} {m : Nat} (h : Bag H r g m) (n : H p = none) : p ≠ r ∧ p ≠ g := by
  obtain ⟨gs, l, t, b, h1, h2, _⟩ := h
  exact ⟨(ne_of_none h1 n).symm, (ne_of_none h2 n).symm⟩
theorem Bag.le {H : Hp} {r g : Addr} {m n : Nat} (h : Bag H r g m) (e : m ≤ n) : Bag H r g n := by
  obtain ⟨gs, l, t, b, h1, h2, h3, h4, h5, h6, h7, h8⟩ := h
  exact ⟨gs, l, t, b, h1, h2, h3, h4, h5, h6, by omega, h8⟩
theorem Bag.other {H : Hp} {r g p : Addr} {m : Nat} {o : HO} (h : Bag H r g m) (n : p ≠ r ∧ p ≠ g) : Bag (upd H p o) r g m := by
  obtain ⟨gs, l, t, b, h1, h2, h3⟩ := h
  exact ⟨gs, l, t, b, upd_to n.1.symm h1, upd_to n.2.symm h2, h3⟩
theorem Bag.free {H H' : Hp} {r g p : Addr} {m : Nat} (h : Bag H' r g m) (s : Sy r g H H') (n : H' p = none) : H p = none := by
  have e := h.ner n
  cases q : H p with
  | none => rfl
  | some o => rw [s p o e.1 e.2 q] at n; cases n
local macro_rules | `(tactic| fail "one") => `(tactic| with_reducible first | refine r_dget ?_ | refine r_dput ?_ | refine r_daug ?_ | refine r_disp ?_ | refine r_pairs ?_ | refine r_pairs0 ?_)
open My
/-- at ts stand the commands cs, as tuples -/
structure Cm (H : Hp) (ts : List Addr) (cs : List Cmd) : Prop where
  len : ts.length = cs.length
  at_ : ∀ (i : Nat) (t : Addr), ts[i]? = some t → ∃ c, cs[i]? = some c ∧ H t = some (.tup [.int (c.1 : Nat), .int (c.2 : Nat)])
theorem Cm.same {H H' : Hp} {ts : List Addr} {cs : List Cmd} (h : Cm H ts cs) (s : Same H H') : Cm H' ts cs :=
  ⟨h.len, fun i t e => let ⟨c, e1, e2⟩ := h.at_ i t e; ⟨c, e1, s _ _ e2⟩⟩
theorem Cm.put {H : Hp} {ts : List Addr} {cs : List Cmd} {p : Addr} {xs : List V} {o : HO} (h : Cm H ts cs) (hp : H p = some (.lst xs)) : Cm (upd H p o) ts cs :=
  ⟨h.len, fun i t e => let ⟨c, e1, e2⟩ := h.at_ i t e; ⟨c, e1, upd_to (ne_of e2 hp (by intro z; cases z)) e2⟩⟩
theorem Cm.nil {H : Hp} : Cm H [] [] := ⟨rfl, fun i t e => by simp at e⟩
theorem Cm.snoc {H : Hp} {ts : List Addr} {cs : List Cmd} {t : Addr} {c : Cmd} (h : Cm H ts cs) (e : H t = some (.tup [.int (c.1 : Nat), .int (c.2 : Nat)])) : Cm H (ts ++ [t]) (cs ++ [c]) := by
  refine ⟨by rw [List.length_append, List.length_append, h.len]; rfl, fun i t' e' => ?_⟩
  by_cases q : i < ts.length
  · rw [List.getElem?_append_left q] at e'
    obtain ⟨c', e1, e2⟩ := h.at_ i t' e'
    exact ⟨c', by rw [List.getElem?_append_left (h.len ▸ q)]; exact e1, e2⟩
  · rw [List.getElem?_append_right (by omega)] at e'
    have e3 : i - ts.length = 0 := by
      cases hh : i - ts.length with
      | zero => rfl
      | succ k => rw [hh] at e'; simp at e'
    rw [e3] at e'
    cases e'
    exact ⟨c, by rw [List.getElem?_append_right (by have := h.len; omega), ← h.len, e3]; rfl, e⟩
theorem Cm.idx {H : Hp} {ts : List Addr} {cs : List Cmd} (h : Cm H ts cs) {i : Nat} (hi : i < cs.length) : ∃ t, ts[i]? = some t ∧ H t = some (.tup [.int (cs[i].1 : Nat), .int (cs[i].2 : Nat)]) := by
  have hi' : i < ts.length := by rw [h.len]; exact hi
  obtain ⟨c, e1, e2⟩ := h.at_ i _ (List.getElem?_eq_getElem hi')
  rw [List.getElem?_eq_getElem hi] at e1
  cases e1
  exact ⟨_, List.getElem?_eq_getElem hi', e2⟩
theorem Cm.take {H : Hp} {ts : List Addr} {cs : List Cmd} (h : Cm H ts cs) (k : Nat) : Cm H (ts.take k) (cs.take k) := by
  refine ⟨by rw [List.length_take, List.length_take, h.len], fun i t e => ?_⟩
  rw [List.getElem?_take] at e
  split at e
  · rename_i hk
    obtain ⟨c, e1, e2⟩ := h.at_ i t e
    exact ⟨c, by rw [List.getElem?_take, if_pos hk]; exact e1, e2⟩
  · cases e
theorem Cm.drop {H : Hp} {ts : List Addr} {cs : List Cmd} (h : Cm H ts cs) (k : Nat) : Cm H (ts.drop k) (cs.drop k) := by
  refine ⟨by rw [List.length_drop, List.length_drop, h.len], fun i t e => ?_⟩
  rw [List.getElem?_drop] at e
  obtain ⟨c, e1, e2⟩ := h.at_ _ t e
  exact ⟨c, by rw [List.getElem?_drop]; exact e1, e2⟩
/-! the data of a script -/
def dC1 (c : Cmd) : PyData := .tuple [.int (c.1 : Nat), .int (c.2 : Nat)]
abbrev dC (cs : List Cmd) : PyData := .list (cs.map dC1)
theorem dp_cmAll {K : PySem.W.Frag} {H : Hp} : ∀ {ts : List Addr} {cs : List Cmd}, Cm H ts cs → DpAll K H (ts.map V.ref) (cs.map dC1)
  | [], [], _ => .nil
  | [], _ :: _, h => nomatch h.len
  | _ :: _, [], h => nomatch h.len
  | t :: ts, c :: cs, h => by
    obtain ⟨c', e1, e2⟩ := h.at_ 0 t rfl
    cases e1
    refine .cons (.tup (sqT e2) (.cons (.int _) (.cons (.int _) .nil))) (dp_cmAll ⟨by have := h.len; simpa using this, fun i t' e => ?_⟩)
    exact h.at_ (i + 1) t' e
theorem dp_cm {K : PySem.W.Frag} {H : Hp} {a : Addr} {ts : List Addr} {cs : List Cmd} (h : SqL K H a (ts.map V.ref)) (hc : Cm H ts cs) : Dp K H (.ref a) (dC cs) := .lst h (dp_cmAll hc)
theorem lay_cm : ∀ cs : List Cmd, PyData.canLayAll0 (cs.map dC1) = true
  | [] => rfl
  | _ :: r => lay_cm r
theorem depth_cm : ∀ cs : List Cmd, PyData.depthAll (cs.map dC1) ≤ 1
  | [] => by decide
  | c :: r => by
    have := depth_cm r
    show max 1 (PyData.depthAll (r.map dC1)) ≤ 1
    omega
theorem depth_dC (cs : List Cmd) : (dC cs).depth ≤ 2 := by
  have := depth_cm cs
  show PyData.depthAll (cs.map dC1) + 1 ≤ 2
  omega
theorem shaped_dC (cs : List Cmd) : SeqAt.shaped (dC cs) = true := by
  unfold SeqAt.shaped
  rw [Bool.and_eq_true]
  refine ⟨lay_cm cs, ?_⟩
  have := depth_dC cs
  rw [decide_eq_true_eq]
  omega
theorem shaped_nil : SeqAt.shaped (.list []) = true := rfl
theorem r_neNilC {K : PySem.W.Frag} {H : Hp} {a b : Addr} {ts : List Addr} {cs : List Cmd} {Q : VK} (h : SqL K H a (ts.map V.ref)) (hc : Cm H ts cs) (g : SqL K H b []) (q : Q (.bl (!decide (cs = []))) H) : rNeD K (.ref a) (.ref b) H Q := by
  refine ⟨_, _, dp_cm h hc, .lst g .nil, shaped_dC cs, shaped_nil, ?_⟩
  have e : PyData.eqv (dC cs) (.list []) = decide (cs = []) := by cases cs <;> rfl
  rw [e]; exact q
theorem sh_dC {cs : List Cmd} {n : Nat} (h : ∀ c ∈ cs, c.1 ≤ n ∧ c.2 ≤ n) (hn : n ≤ 100000) : Sh (cs.length * 25 + 2) (dC cs) := by
  have := Sh.list (b := 23) (ds := cs.map dC1) fun d hd => by
    obtain ⟨c, hc, rfl⟩ := List.mem_map.mp hd
    have hb := h c hc
    refine (Sh.tuple (b := 8) fun e he => ?_).mono (by show 2 * (8 + 2) + 3 ≤ 23; decide)
    rcases List.mem_cons.mp he with e1 | e1
    · rw [e1]; exact (Sh.int (k := 7) (by decide) (by omega) (by decide)).mono (by decide)
    · rw [List.mem_singleton.mp e1]; exact (Sh.int (k := 7) (by decide) (by omega) (by decide)).mono (by decide)
  rw [List.length_map] at this
  exact this
theorem Cm.sy {H H' : Hp} {ts : List Addr} {cs : List Cmd} {r g : Addr} {m : Nat} (h : Cm H ts cs) (hR : Bag H r g m) (s : Sy r g H H') : Cm H' ts cs := by
  obtain ⟨gs, l, t, b, hr, hg, _⟩ := hR
  exact ⟨h.len, fun i t e => let ⟨c, e1, e2⟩ := h.at_ i t e; ⟨c, e1, s _ _ (ne_of e2 hr (by intro z; cases z)) (ne_of e2 hg (by intro z; cases z)) e2⟩⟩
theorem rg_ascN (n : Nat) : rgV 1 (n + 1) = (ascN n).map V.int := by
  unfold rgV ascN
  rw [show ((n : Int) + 1 - 1).toNat = n by omega, List.map_map]
  rfl
open My
theorem at_tab {n k : Nat} {f : Nat → Int} {z : Int} (e : z = (k : Int)) (h : k < n) : atI ((tab n f).map V.int) z = some (.int (f k)) := at_of e (by rw [List.getElem?_map, tab_get h]; rfl)
/-- at as stand rows -/
structure Rws (H : Hp) (as : List Addr) (ls : List (List Int)) : Prop where
  len : as.length = ls.length
  at_ : ∀ (i : Nat) (t : Addr), as[i]? = some t → ∃ l, ls[i]? = some l ∧ H t = some (.lst (l.map V.int))
theorem Rws.same {H H' : Hp} {as : List Addr} {ls : List (List Int)} (h : Rws H as ls) (s : Same H H') : Rws H' as ls :=
  ⟨h.len, fun i t e => let ⟨l, e1, e2⟩ := h.at_ i t e; ⟨l, e1, s _ _ e2⟩⟩
theorem Rws.nil {H : Hp} : Rws H [] [] := ⟨rfl, fun i t e => by simp at e⟩
theorem Rws.app {H : Hp} {ts us : List Addr} {cs ds : List (List Int)} (h : Rws H ts cs) (g : Rws H us ds) : Rws H (ts ++ us) (cs ++ ds) := by
  refine ⟨by rw [List.length_append, List.length_append, h.len, g.len], fun i p e => ?_⟩
  by_cases q : i < ts.length
  · rw [List.getElem?_append_left q] at e
    obtain ⟨c, e1, e2⟩ := h.at_ i p e
    exact ⟨c, by rw [List.getElem?_append_left (h.len ▸ q)]; exact e1, e2⟩
  · rw [List.getElem?_append_right (by omega)] at e
    obtain ⟨c, e1, e2⟩ := g.at_ _ p e
    exact ⟨c, by rw [List.getElem?_append_right (by have := h.len; omega), ← h.len]; exact e1, e2⟩
theorem Rws.one {H : Hp} {t : Addr} {l : List Int} (h : H t = some (.lst (l.map V.int))) : Rws H [t] [l] := ⟨rfl, fun i p e => by
  cases i with
  | zero => cases e; exact ⟨l, rfl, h⟩
  | succ i => simp at e⟩
theorem Rws.idx {H : Hp} {as : List Addr} {ls : List (List Int)} (h : Rws H as ls) {i : Nat} (hi : i < ls.length) : ∃ t, as[i]? = some t ∧ H t = some (.lst (ls[i].map V.int)) := by
  have hi' : i < as.length := by rw [h.len]; exact hi
  obtain ⟨c, e1, e2⟩ := h.at_ i _ (List.getElem?_eq_getElem hi')
  rw [List.getElem?_eq_getElem hi] at e1
  cases e1
  exact ⟨_, List.getElem?_eq_getElem hi', e2⟩
/-- kept if all rows are new and only what was there before, or p, is written -/
theorem Rws.upd_ {H : Hp} {as : List Addr} {ls : List (List Int)} {p : Addr} {o : HO} (h : Rws H as ls) (n : p ∉ as) : Rws (upd H p o) as ls :=
  ⟨h.len, fun i t e => let ⟨l, e1, e2⟩ := h.at_ i t e; ⟨l, e1, upd_to (fun q => n (q ▸ List.mem_of_getElem? e)) e2⟩⟩
def pI (ps : List Nat) : List Int := ps.map fun (k : Nat) => (k : Int)
/-- a row after so many rounds -/
def pwr (ps : List Nat) : Nat → List Int → List Int
  | 0, l => l
  | k + 1, l => pwr ps k (nbs l ps)
theorem pwr_fix {ps : List Nat} {l : List Int} (h : nbs l ps = l) : ∀ k, pwr ps k l = l
  | 0 => rfl
  | k + 1 => by show pwr ps k (nbs l ps) = l; rw [h]; exact pwr_fix h k
def rep (k : Nat) (cs : List Cmd) : List Cmd := (List.replicate k cs).flatten
theorem rep_succ (k : Nat) (cs : List Cmd) : rep (k + 1) cs = cs ++ rep k cs := by unfold rep; rw [List.replicate_succ, List.flatten_cons]
theorem rep_add (j k : Nat) (cs : List Cmd) : rep (j + k) cs = rep j cs ++ rep k cs := by unfold rep; rw [← List.flatten_append, List.replicate_append_replicate]
theorem fits_rep {n : Nat} {cs : List Cmd} (h : Fits n cs) (k : Nat) : Fits n (rep k cs) := fun c hc => by
  obtain ⟨l, h1, h2⟩ := List.mem_flatten.mp hc
  rw [List.eq_of_mem_replicate h1] at h2
  exact h c h2
theorem fits_app {n : Nat} {cs ds : List Cmd} (h : Fits n cs) (g : Fits n ds) : Fits n (cs ++ ds) := fun c hc => by
  rcases List.mem_append.mp hc with z | z
  · exact h c z
  · exact g c z
theorem pwr_run {E : List Int} {ps : List Nat} {cs : List Cmd} (hs : Stand E ps) (hc : Fits E.length cs) (he : runM (desc E.length) cs = E) : ∀ (k : Nat) (l : List Int), l.length = E.length → pwr ps k l = runM l (rep k cs)
  | 0, _, _ => rfl
  | k + 1, l, hl => by
    show pwr ps k (nbs l ps) = _
    rw [stand_run hs hl hc he, pwr_run hs hc he k _ (by rw [runM_len (by rw [hl]; exact hc)]; exact hl), rep_succ, runM_app]
theorem Cm.app {H : Hp} {ts us : List Addr} {cs ds : List Cmd} (h : Cm H ts cs) (g : Cm H us ds) : Cm H (ts ++ us) (cs ++ ds) := by
  refine ⟨by rw [List.length_append, List.length_append, h.len, g.len], fun i p e => ?_⟩
  by_cases q : i < ts.length
  · rw [List.getElem?_append_left q] at e
    obtain ⟨c, e1, e2⟩ := h.at_ i p e
    exact ⟨c, by rw [List.getElem?_append_left (h.len ▸ q)]; exact e1, e2⟩
  · rw [List.getElem?_append_right (by omega)] at e
    obtain ⟨c, e1, e2⟩ := g.at_ _ p e
    exact ⟨c, by rw [List.getElem?_append_right (by have := h.len; omega), ← h.len]; exact e1, e2⟩
theorem Cm.reps {H : Hp} {ts : List Addr} {cs : List Cmd} (h : Cm H ts cs) : ∀ k : Nat, Cm H (List.replicate k ts).flatten (rep k cs)
  | 0 => Cm.nil
  | k + 1 => by rw [List.replicate_succ, List.flatten_cons, rep_succ]; exact h.app (Cm.reps h k)
theorem pI_len (ps : List Nat) : (pI ps).length = ps.length := by simp [pI]
local macro_rules | `(tactic| fail "one") => `(tactic| with_reducible first | refine Xk.r_iRev ?_)
def witV (l : List Int) : V := match witM l with
  | none => .non
  | some x => .int x
/-- at ts stand the pairs ws, as tuples -/
structure Cw (H : Hp) (ts : List Addr) (ws : List Pr) : Prop where
  len : ts.length = ws.length
  at_ : ∀ (i : Nat) (t : Addr), ts[i]? = some t → ∃ c, ws[i]? = some c ∧ H t = some (.tup [.int c.1, .int c.2])
theorem Cw.same {H H' : Hp} {ts : List Addr} {ws : List Pr} (h : Cw H ts ws) (s : Same H H') : Cw H' ts ws :=
  ⟨h.len, fun i t e => let ⟨c, e1, e2⟩ := h.at_ i t e; ⟨c, e1, s _ _ e2⟩⟩
theorem Cw.idx {H : Hp} {ts : List Addr} {ws : List Pr} (h : Cw H ts ws) {i : Nat} (hi : i < ws.length) : ∃ t, ts[i]? = some t ∧ H t = some (.tup [.int ws[i].1, .int ws[i].2]) := by
  have hi' : i < ts.length := by rw [h.len]; exact hi
  obtain ⟨c, e1, e2⟩ := h.at_ i _ (List.getElem?_eq_getElem hi')
  rw [List.getElem?_eq_getElem hi] at e1
  cases e1
  exact ⟨_, List.getElem?_eq_getElem hi', e2⟩
theorem Cm.toCw {H : Hp} {ts : List Addr} {cs : List Cmd} (h : Cm H ts cs) : Cw H ts (cs.map toW) :=
  ⟨by rw [List.length_map]; exact h.len, fun i t e => let ⟨c, e1, e2⟩ := h.at_ i t e; ⟨toW c, by rw [List.getElem?_map, e1]; rfl, e2⟩⟩
theorem Cw.toCm {H : Hp} {ts : List Addr} {cs : List Cmd} (h : Cw H ts (cs.map toW)) : Cm H ts cs :=
  ⟨by have := h.len; rwa [List.length_map] at this, fun i t e => by
    obtain ⟨c, e1, e2⟩ := h.at_ i t e
    rw [List.getElem?_map] at e1
    cases g : cs[i]? with
    | none => rw [g] at e1; cases e1
    | some d => rw [g] at e1; cases e1; exact ⟨d, rfl, e2⟩⟩
/-- an exception of the class at c, its value y -/
def Err (H : Hp) (E : XK) (c : Addr) (y : V) : Prop := ∀ (H' : Hp) (d : Addr), Same H H' → H' d = none → E (.ref c) (some d) (upd H' d (.xd [(("value" : Str), y)]))
theorem Err.up {H H1 : Hp} {E : XK} {c : Addr} {y : V} (h : Err H E c y) (s : Same H H1) : Err H1 E c y := fun H' d s' hd => h H' d (s.trans s') hd
/-- what a script is wrong with, for a size -/
def BadRun (T : Txt K mg) (n : Int) (ws : List Pr) (c : Addr) (y : V) : Prop := (n < 1 ∧ c = T.InvalidSize_a ∧ y = .int n) ∨ (1 ≤ n ∧ ∃ i : Nat, eW n ws = some i ∧ c = T.InvalidCommand_a ∧ y = .int i)
/-- what a row and a script are wrong with -/
def BadGB (T : Txt K mg) (ns : List Int) (ws : List Pr) (c : Addr) (y : V) : Prop := (∃ i : Nat, eR ns = some i ∧ c = T.InvalidRow_a ∧ y = .int i) ∨ (eR ns = none ∧ ∃ i : Nat, eW ns.length ws = some i ∧ c = T.InvalidCommand_a ∧ y = .int i)
/-- the fields of a hidden script -/
def hidF (n : Nat) (l : Addr) (q : Nat) : List (Str × V) := [("_size", .int (n : Int)), ("_commands", .ref l), ("_questions", .int (q : Int))]
/-- a hidden script stands at x -/
theorem hidF_made (n : Nat) (l : Addr) : putF ("_questions" : Str) (.int 0) (putF ("_commands" : Str) (.ref l) (putF ("_size" : Str) (.int (n : Int)) [])) = hidF n l 0 := by
  have e1 : (("_size" : Str) = "_commands") = False := by decide +kernel
  have e2 : (("_size" : Str) = "_questions") = False := by decide +kernel
  have e3 : (("_commands" : Str) = "_questions") = False := by decide +kernel
  simp [putF, hidF, e1, e2, e3]
theorem hidF_size (n : Nat) (l : Addr) (q : Nat) : (hidF n l q).lookup ("_size" : Str) = some (.int (n : Int)) := by
  have e0 : (("_size" : Str) == "_size") = true := by decide +kernel
  simp [hidF, List.lookup, e0]
theorem hidF_comm (n : Nat) (l : Addr) (q : Nat) : (hidF n l q).lookup ("_commands" : Str) = some (.ref l) := by
  have e1 : (("_commands" : Str) == "_size") = false := by decide +kernel
  have e0 : (("_commands" : Str) == "_commands") = true := by decide +kernel
  simp [hidF, List.lookup, e0, e1]
theorem hidF_ques (n : Nat) (l : Addr) (q : Nat) : (hidF n l q).lookup ("_questions" : Str) = some (.int (q : Int)) := by
  have e1 : (("_questions" : Str) == "_size") = false := by decide +kernel
  have e2 : (("_questions" : Str) == "_commands") = false := by decide +kernel
  have e0 : (("_questions" : Str) == "_questions") = true := by decide +kernel
  simp [hidF, List.lookup, e0, e1, e2]
theorem hidF_put (n : Nat) (l : Addr) (q : Nat) : putF ("_questions" : Str) (.int ((q : Int) + 1)) (hidF n l q) = hidF n l (q + 1) := by
  have e2 : (("_size" : Str) = "_questions") = False := by decide +kernel
  have e3 : (("_commands" : Str) = "_questions") = False := by decide +kernel
  simp [putF, hidF, e2, e3]
theorem hidF_ask (n : Nat) (l : Addr) (q : Nat) : (hidF n l q).lookup ("ask" : Str) = none := by
  have e1 : (("ask" : Str) == "_size") = false := by decide +kernel
  have e2 : (("ask" : Str) == "_commands") = false := by decide +kernel
  have e3 : (("ask" : Str) == "_questions") = false := by decide +kernel
  simp [hidF, List.lookup, e1, e2, e3]
structure Hid (H : Hp) (C x l : Addr) (n : Nat) (cs : List Cmd) (q : Nat) : Prop where
  ob : ∃ dx ts, H x = some (.ins C dx (hidF n l q)) ∧ H l = some (.lst (ts.map V.ref)) ∧ Cm H ts cs
  fit : Fits n cs
  pos : 1 ≤ n
/-- commands stand though an object changes -/
theorem Cm.obj {H H' : Hp} {x C dx : Addr} {fs : List (Str × V)} {ts : List Addr} {cs : List Cmd} (h : Cm H ts cs) (hx : H x = some (.ins C dx fs)) (s : Sx x H H') : Cm H' ts cs :=
  ⟨h.len, fun i t e => let ⟨c, e1, e2⟩ := h.at_ i t e; ⟨c, e1, s t _ (ne_of e2 hx (by intro z; cases z)) e2⟩⟩
theorem Hid.same {H H' : Hp} {C x l : Addr} {n q : Nat} {cs : List Cmd} (h : Hid H C x l n cs q) (s : Same H H') : Hid H' C x l n cs q := by
  obtain ⟨⟨dx, ts, h1, h2, h3⟩, h4, h5⟩ := h
  exact ⟨⟨dx, ts, s _ _ h1, s _ _ h2, h3.same s⟩, h4, h5⟩
structure Kd3 (K : PySem.W.Frag) (T : Txt K mg) (D : Addr) (j : Nat) : Prop where
  k0 : PySem.W.kitOne K (.ref D) (.ref T.InvalidSize_a) = some (decide (j = 0))
  k1 : PySem.W.kitOne K (.ref D) (.ref T.InvalidCommand_a) = some (decide (j = 1))
  k2 : PySem.W.kitOne K (.ref D) (.ref T.UnequalSizes_a) = some (decide (j = 2))
  o0 : PySem.W.kitOne K (.ref D) (.ref T.InvalidNumber_a) = some false
  o1 : PySem.W.kitOne K (.ref D) (.ref T.InvalidRow_a) = some false
  o2 : PySem.W.kitOne K (.ref D) (.ref T.NothingToUndo_a) = some false
  o3 : PySem.W.kitOne K (.ref D) (.ref T.Unreadable_a) = some false
  v : PySem.W.kitOne K (.ref D) (.type "ValueError") = some true
  x : ExcC K D
  xf : XfC K D
  no : PySem.W.findIn K (.ref D) "value" = some none
  lt : j < 3
theorem kit4 {K : PySem.W.Frag} {T : Txt K mg} {D : Addr} {j : Nat} (h : Kd3 K T D j) : PySem.W.kitAny K (.ref D) [.ref T.InvalidNumber_a, .ref T.InvalidRow_a, .ref T.NothingToUndo_a, .ref T.Unreadable_a] = some false := by
  simp only [PySem.W.kitAny, h.o0, h.o1, h.o2, h.o3]
theorem kd_size {K : PySem.W.Frag} (T : Txt K mg) : Kd3 K T T.InvalidSize_a 0 :=
  ⟨T.InvalidSize_is_InvalidSize, T.InvalidSize_is_InvalidCommand, T.InvalidSize_is_UnequalSizes, T.InvalidSize_is_InvalidNumber, T.InvalidSize_is_InvalidRow, T.InvalidSize_is_NothingToUndo, T.InvalidSize_is_Unreadable, T.InvalidSize_is_ValueError, T.InvalidSize_X, T.InvalidSize_E.xf, T.InvalidSize_E.no, by decide⟩
theorem kd_command {K : PySem.W.Frag} (T : Txt K mg) : Kd3 K T T.InvalidCommand_a 1 :=
  ⟨T.InvalidCommand_is_InvalidSize, T.InvalidCommand_is_InvalidCommand, T.InvalidCommand_is_UnequalSizes, T.InvalidCommand_is_InvalidNumber, T.InvalidCommand_is_InvalidRow, T.InvalidCommand_is_NothingToUndo, T.InvalidCommand_is_Unreadable, T.InvalidCommand_is_ValueError, T.InvalidCommand_X, T.InvalidCommand_E.xf, T.InvalidCommand_E.no, by decide⟩
theorem kd_unequal {K : PySem.W.Frag} (T : Txt K mg) : Kd3 K T T.UnequalSizes_a 2 :=
  ⟨T.UnequalSizes_is_InvalidSize, T.UnequalSizes_is_InvalidCommand, T.UnequalSizes_is_UnequalSizes, T.UnequalSizes_is_InvalidNumber, T.UnequalSizes_is_InvalidRow, T.UnequalSizes_is_NothingToUndo, T.UnequalSizes_is_Unreadable, T.UnequalSizes_is_ValueError, T.UnequalSizes_X, T.UnequalSizes_E.xf, T.UnequalSizes_E.no, by decide⟩
def wordsD : List Str := ["size", "command", "unequal"]
/-- the pair of a word and a value, or None -/
def TwV (H H' : Hp) (v : V) (d : Option (Str × Option Int)) : Prop := match d with
  | none => v = .non
  | some (nm, i) => ∃ p : Addr, v = .ref p ∧ H p = none ∧ H' p = some (.tup [.str nm, match i with | some i => .int i | none => .non])
def dTw (d : Option (Str × Option Int)) : PyData := match d with
  | none => .none
  | some (nm, i) => .tuple [.str nm, match i with | some i => .int i | none => .none]
theorem dTw_shaped {d : Option (Str × Option Int)} (h : ∀ nm i, d = some (nm, i) → PySem.PyData.strOk nm = true) : SeqAt.shaped (dTw d) = true := by
  rcases d with _ | ⟨nm, _ | i⟩
  · rfl
  · unfold SeqAt.shaped
    rw [Bool.and_eq_true]
    refine ⟨?_, rfl⟩
    show (PySem.PyData.strOk nm && (true && true)) = true
    rw [h _ _ rfl]; rfl
  · unfold SeqAt.shaped
    rw [Bool.and_eq_true]
    refine ⟨?_, rfl⟩
    show (PySem.PyData.strOk nm && (true && true)) = true
    rw [h _ _ rfl]; rfl
/-- it stands so -/
def TwS (H : Hp) (v : V) (d : Option (Str × Option Int)) : Prop := match d with
  | none => v = .non
  | some (nm, i) => ∃ p : Addr, v = .ref p ∧ H p = some (.tup [.str nm, match i with | some i => .int i | none => .non])
theorem TwV.st {H H' : Hp} {v : V} {d : Option (Str × Option Int)} (h : TwV H H' v d) : TwS H' v d := by
  rcases d with _ | ⟨nm, i⟩
  · exact h
  · obtain ⟨p, e, _, g⟩ := h; exact ⟨p, e, g⟩
theorem TwS.same {H H' : Hp} {v : V} {d : Option (Str × Option Int)} (h : TwS H v d) (s : Same H H') : TwS H' v d := by
  rcases d with _ | ⟨nm, i⟩
  · exact h
  · obtain ⟨p, e, g⟩ := h; exact ⟨p, e, s _ _ g⟩
theorem TwS.dp {K : PySem.W.Frag} {H : Hp} {v : V} {d : Option (Str × Option Int)} (h : TwS H v d) : Dp K H v (dTw d) := by
  rcases d with _ | ⟨nm, _ | i⟩
  · obtain rfl : v = .non := h; exact .non
  · obtain ⟨p, rfl, g⟩ := h; exact .tup (sqT g) (.cons (.str _) (.cons .non .nil))
  · obtain ⟨p, rfl, g⟩ := h; exact .tup (sqT g) (.cons (.str _) (.cons (.int _) .nil))
theorem r_neTw {K : PySem.W.Frag} {H : Hp} {v w : V} {d : Option (Str × Option Int)} {Q : VK} (ok : ∀ nm i, d = some (nm, i) → PySem.PyData.strOk nm = true) (h : TwS H v d) (g : TwS H w d) (q : Q (.bl false) H) : rNeD K v w H Q :=
  ⟨_, _, h.dp, g.dp, dTw_shaped ok, dTw_shaped ok, by rw [SeqAt.eqv_refl _ (SeqAt.canLay_of_shaped (dTw_shaped ok))]; exact q⟩
def dueC (n : Int) (ws : List Pr) : Option (Str × Option Int) := match eW n ws with
  | some i => some ("command", some (i : Int))
  | none => none
def dueM (n : Int) (ws : List Pr) : Option (Str × Option Int) := if n < 1 then some ("size", some n) else dueC n ws
theorem dueM_ok {n : Int} {ws : List Pr} : ∀ nm i, dueM n ws = some (nm, i) → PySem.PyData.strOk nm = true := fun nm i e => by
  unfold dueM at e
  split at e
  · cases e; decide +kernel
  · unfold dueC at e
    split at e
    · cases e; decide +kernel
    · cases e
theorem ini_InvalidCommand (T : Txt K mg) : FnOk P w K mg base L2.CX0 1 T.InvalidCommand_i_a T.InvalidCommand_i_d ["self", "value"] (spIni K T.InvalidCommand_a) := by
  refine T.InvalidCommand_i_F.ok sc_InvalidCommand_i (fun vs H Q E h => ?_) (fun cdv A ou t H vs Q E hr h => ⟨_, pss_one (ps_ost (pv 0) (pv 1)), ini_read h⟩)
  obtain ⟨_, _, rfl, _⟩ := h; rfl
theorem ini_InvalidSize (T : Txt K mg) : FnOk P w K mg base L2.CX0 1 T.InvalidSize_i_a T.InvalidSize_i_d ["self", "value"] (spIni K T.InvalidSize_a) := by
  refine T.InvalidSize_i_F.ok sc_InvalidSize_i (fun vs H Q E h => ?_) (fun cdv A ou t H vs Q E hr h => ⟨_, pss_one (ps_ost (pv 0) (pv 1)), ini_read h⟩)
  obtain ⟨_, _, rfl, _⟩ := h; rfl
theorem ini_UnequalSizes (T : Txt K mg) : FnOk P w K mg base L2.CX0 1 T.UnequalSizes_i_a T.UnequalSizes_i_d ["self", "value"] (spIni K T.UnequalSizes_a) := by
  refine T.UnequalSizes_i_F.ok sc_UnequalSizes_i (fun vs H Q E h => ?_) (fun cdv A ou t H vs Q E hr h => ⟨_, pss_one (ps_ost (pv 0) (pv 1)), ini_read h⟩)
  obtain ⟨_, _, rfl, _⟩ := h; rfl
def sp_sort_stretches (K : PySem.W.Frag) : Sp := fun vs H Q _ => ∃ (a b : Addr) (ns : List Int) (ts : List Addr) (cs : List Cmd), vs = [.ref a, .ref b] ∧ SqL K H a (ns.map V.int) ∧ SqL K H b (ts.map V.ref) ∧ Cm H ts cs ∧ ns.length ≤ 1000 ∧ Fits ns.length cs ∧
  ∀ (H' : Hp) (p : Addr), Same H H' → H p = none → H' p = some (.lst ((runM ns cs).map V.int)) → Q (.ref p) H'
theorem okp_sort_stretches (T : Txt K mg) : FnOk P w K mg base CX0 1 T.sort_stretches_a T.sort_stretches_d ["row", "commands"] (sp_sort_stretches K) := by
  refine T.sort_stretches_F.ok sc_sort_stretches (fun vs H Q E h => ?_) (fun cdv A ou t H vs Q E hr h => ?_)
  · obtain ⟨_, _, _, _, _, rfl, _⟩ := h; rfl
  have nd := sc_sort_stretches.nd
  obtain ⟨a, b, ns, ts, cs, rfl, hS, hB, hC, hn2, hF, q⟩ := h
  refine ⟨_, (pss_cons (sset 2 nd (pe_callTy (listK K) (by rfl) T.m_list (by decide +kernel) (pa_cons (pv 0) pa_nil)))
      (pss_cons (ps_for PassesOwn.never rfl (pi_listK K (pv 1)) (pg_tupK K 2 rfl (pgs_cons (gset 3 nd) (pgs_cons (gset 4 nd) pgs_nil)))
        (pss_one (ps_asg (pe_callB (sortedK K) (by rfl) T.m_sorted (by decide +kernel) (pa_cons (pe_slice (sl_listK K) (pv 2) (po_some (pe_op op_sub (pv 3) pe_int)) (po_some (pv 4))) pa_nil)) (pg_slc (pv 2) (po_some (pe_op op_sub (pv 3) pe_int)) (po_some (pv 4))))))
      (pss_one (ps_ret (pv 2))))), ?_⟩
  fail "g"
  intro p np
  have hp : H p = none := np
  have s2 := same_new (o := .lst (ns.map V.int)) np
  have hB2 := s2.seq hB
  fail "g"
  refine forA (walk_list (xs := ts.map V.ref)) (fun i σ' H' => ∃ y3 y4, σ' = [some (.ref a), some (.ref b), some (.ref p), y3, y4] ∧ Same H H' ∧ H' p = some (.lst ((runM ns (cs.take i)).map V.int)))
    ⟨none, none, rfl, s2, upd_same⟩ (fun i σ' H' _ q => ?_) (fun i σ' H' hi q => ?_) (fun σ' H' q' => ?_)
  · obtain ⟨_, _, _, s, _⟩ := q; exact s.seq hB
  · obtain ⟨y3, y4, rfl, s, hP⟩ := q
    have hi' : i < cs.length := by rw [← hC.len]; simpa using hi
    obtain ⟨t0, et, ht⟩ := hC.idx hi'
    have e1 : (ts.map V.ref)[i] = .ref t0 := by
      have : (ts.map V.ref)[i]? = some (.ref t0) := by rw [List.getElem?_map, et]; rfl
      rw [List.getElem?_eq_getElem hi] at this
      exact Option.some.inj this
    rw [e1]
    have hc := hF cs[i] (List.getElem_mem hi')
    have ht1 := s _ _ ht
    have hlenP : (runM ns (cs.take i)).length = ns.length := runM_len hF.take
    fail "g"
    intro l0 n0
    rw [cut_mid (a := cs[i].1 - 1) (b := cs[i].2) (by omega) rfl (by rw [List.length_map]; omega), ← List.map_drop, ← List.map_take] at *
    fail "g"
    refine ⟨l0, _, rfl, sq upd_same, fun ns' l1 hperm hup n1 => ?_⟩
    have e2 := srt_is hperm hup
    subst e2
    fail "g"
    have hP2 := upd_old (o := .lst ((srt (((runM ns (cs.take i)).drop (cs[i].1 - 1)).take (cs[i].2 - (cs[i].1 - 1)))).map V.int)) n1 (upd_old (o := .lst ((((runM ns (cs.take i)).drop (cs[i].1 - 1)).take (cs[i].2 - (cs[i].1 - 1))).map V.int)) n0 hP)
    refine ⟨p, l1, _, _, _, _, rfl, rfl, rfl, rfl, hP2, upd_same, ne_of_none (upd_old n0 hP) n1, by omega, by omega, by rw [List.length_map]; omega, ?_, ?_⟩
    · rw [List.length_map, List.length_map, srt_len, List.length_take, List.length_drop]; exact size_le (by omega)
    · refine ⟨_, _, rfl, same_old ((s.trans (same_new n0)).trans (same_new n1)) hp, ?_⟩
      rw [upd_same, take_one hi', runM_snoc]
      rw [show ((cs[i].1 : Nat) - 1 : Int).toNat = cs[i].1 - 1 by omega, show ((cs[i].2 : Nat) : Int).toNat = cs[i].2 by omega, ← List.map_take, ← List.map_drop, ← List.map_append, ← List.map_append]
      rfl
  · obtain ⟨y3, y4, rfl, s, hP⟩ := q'
    fail "g"
    rw [List.take_of_length_le (by rw [List.length_map, hC.len]; exact Nat.le_refl _)] at hP
    exact q _ _ s hp hP
theorem ok_sort_stretches (T : Txt K mg) : FnG P w K mg base CX0 1 T.sort_stretches_a T.sort_stretches_d ["row", "commands"] (sp_sort_stretches K) := .of (okp_sort_stretches T)
def sp_law_bag (K : PySem.W.Frag) : Sp := fun vs H Q _ => ∃ (a : Addr) (ns : List Int), vs = [.ref a] ∧ SqL K H a (ns.map V.int) ∧ ns.length ≤ 63 ∧ ∀ H' r g, Same H H' → H r = none → H g = none → Bag H' r g 0 → Q (.ref r) H'
theorem ok_law_bag (T : Txt K mg) : FnG P w K mg base CX0 1 T.law_bag_a T.law_bag_d ["script"] (sp_law_bag K) := by
  refine okG T.law_bag_F sc_law_bag (fun vs H Q E h => ?_) (fun cdv A ou t H vs Q E hG hr h => ?_)
  · obtain ⟨_, _, rfl, _⟩ := h; rfl
  have nd := sc_law_bag.nd
  obtain ⟨a, ns, rfl, hS, hlen, q⟩ := h
  refine ⟨_, (pss_cons (ps_par (i := 1) (j := 2) (by rfl) nd rfl rfl (by decide) rfl rfl (pa_cons pe_int (pa_cons (pe_lst pa_nil) pa_nil)) (by rfl))
      (pss_cons (ps_for PassesOwn.never rfl (pi_listK K (pv 0)) (gset 3 nd)
        (pss_cons (sset 1 nd (pe_op op_mod (pe_op op_add (pe_op op_mulW (pv 1) pe_int) (pv 3)) pe_int))
      (pss_one (ps_if (pt_cmpR op_ge (pe_callB call_abs (by rfl) T.m_abs (by decide +kernel) (pa_cons (pv 3) pa_nil)) (pe_op op_powW pe_int pe_int) (nomark _))
        (pss_one (ps_expr (pe_bmK K PySem.F.plainAttrs_list PySem.F.slot_list_append PySem.F.type_list_append mt_append (pv 2) (pa_cons (pe_callB call_abs (by rfl) T.m_abs (by decide +kernel) (pa_cons (pv 3) pa_nil)) pa_nil))))
        pss_nil))))
      (pss_one (ps_ret (pe_disp (pps_cons pe_str (pv 2) (pps_cons pe_str pe_int (pps_cons pe_str pe_int (pps_cons pe_str (pv 1) pps_nil)))) (by rfl) (by rfl) (fun z => by cases z) (by decide)))))), ?_⟩
  fail "g"
  intro g ng
  have s1 := same_new (o := .lst []) ng
  have hS1 := s1.seq hS
  fail "g"
  refine forAI (walk_list (xs := ns.map V.int)) (fun i σ' H' => ∃ (b : Int) (gs : List Int) (y3 : Option V), σ' = [some (.ref a), some (.int b), some (.ref g), y3] ∧ Same H H' ∧ H' g = some (.lst (gs.map V.int)) ∧ (∀ x ∈ gs, 0 ≤ x) ∧ gs.length ≤ i ∧ 0 ≤ b ∧ b < 2 ^ 61)
    ⟨11, [], none, rfl, s1, upd_same, (fun x hx => by cases hx), Nat.le_refl _, by decide, by decide⟩ (fun i σ' H' _ p => ?_) (fun i σ' H' hi p' => ?_) (fun σ' H' p' => ?_)
  · obtain ⟨_, _, _, _, s, _⟩ := p; exact s.seq hS
  · obtain ⟨b, gs, y3, rfl, s, hG', hpos, hgl, hb0, hb1⟩ := p'
    fail "g"
    refine r_I (wide_mul (a := 61) (b := 20) (by omega) (by decide) (by decide) (by decide) (by decide)) ?_
    fail "g"
    generalize hb' : (b * 1000003 + ns[i]) % 2305843009213693951 = b'
    have hb0' : 0 ≤ b' := by omega
    have hb1' : b' < 2 ^ 61 := by omega
    refine r_dec (fun h => ?_) (fun h => ?_)
    · have hx : 0 ≤ (if ns[i] < 0 then -ns[i] else ns[i]) := by split <;> omega
      fail "g"
      refine r_append hG' (by rw [List.length_map]; exact size_lt (by omega)) ?_
      rw [map_snoc]
      fail "g"
      refine ⟨b', gs ++ [if ns[i] < 0 then -ns[i] else ns[i]], _, rfl, same_old s ng, upd_same, fun y hy => ?_, by rw [List.length_append]; show _ + 1 ≤ _; omega, hb0', hb1'⟩
      rcases List.mem_append.mp hy with z | z
      · exact hpos y z
      · rw [List.mem_singleton.mp z]; exact hx
    · fail "g"
      exact ⟨b', gs, _, rfl, s, hG', hpos, by omega, hb0', hb1'⟩
  · obtain ⟨b, gs, y3, rfl, s, hG', hpos, hgl, hb0, hb1⟩ := p'
    rw [List.length_map] at hgl
    fail "g"
    intro r nr
    fail "g"
    refine ⟨upd_same, [(kk "great", .ref g), (kk "left", .int 0), (kk "turn", .int 0), (kk "blend", .int b)], rfl, by show 4 ≤ 15; decide, ?_⟩
    have hr0 := s.free nr
    refine q _ r g (same_old (same_old s hr0) hr0) hr0 ng ⟨gs, 0, 0, b, upd_same.trans rfl, upd_to (ne_of_none hG' nr) (upd_old nr hG'), hpos, by omega, by decide, by decide, by decide, hb0, hb1⟩
def sp_law_draw (K : PySem.W.Frag) : Sp := fun vs H Q _ => ∃ (r g : Addr) (many : Int) (m : Nat), vs = [.ref r, .int many] ∧ Bag H r g m ∧ m < 2 ^ 60 ∧ 0 < many ∧ many < 2 ^ 200 ∧
  ∀ H' d, 0 ≤ d → d < many → Sy r g H H' → Bag H' r g (m + 1) → Q (.int d) H'
theorem ok_law_draw (T : Txt K mg) : FnG P w K mg base CX0 1 T.law_draw_a T.law_draw_d ["bag", "many"] (sp_law_draw K) := by
  refine okG T.law_draw_F sc_law_draw (fun vs H Q E h => ?_) (fun cdv A ou t H vs Q E hG hr h => ?_)
  · obtain ⟨_, _, _, _, rfl, _⟩ := h; rfl
  have nd := sc_law_draw.nd
  obtain ⟨r, g, many, m, rfl, ⟨gs, l, t, b, hr', hg, hpos, hgl, hl0, ht0, htm, hb0, hb1⟩, hm, hm0, hm1, q⟩ := h
  refine ⟨_, (C8.pss_cut (ps_if (PW.pt (pw_and (pt_cmpR op_lt (pe_dget (hu_of hr) (pv 0) pe_str (fun _ _ => rfl)) (pv 1) (nomark _)) (pw_and1 (pt_cmpR op_gt (pe_callB (lenK K) (by rfl) T.m_len PySem.boot_len (pa_cons (pe_dget (hu_of hr) (pv 0) pe_str (fun _ _ => rfl)) pa_nil)) pe_int (nomark _)))))
        (pss_one (ps_dput (hu_of hr) (pv 0) pe_str (pe_bmK K PySem.F.plainAttrs_list PySem.F.slot_list_pop PySem.F.type_list_pop mt_popAt (pe_dget (hu_of hr) (pv 0) pe_str (fun _ _ => rfl)) (pa_cons pe_int pa_nil)) rfl))
        pss_nil)
      (pss_cons (ps_if (pt_cmpR op_ge (pe_dget (hu_of hr) (pv 0) pe_str (fun _ _ => rfl)) (pv 1) (nomark _))
        (pss_cons (sset 2 nd (pe_op op_mod (pe_dget (hu_of hr) (pv 0) pe_str (fun _ _ => rfl)) (pv 1)))
      (pss_cons (ps_dput (hu_of hr) (pv 0) pe_str (pe_op op_fdivW (pe_dget (hu_of hr) (pv 0) pe_str (fun _ _ => rfl)) (pv 1)) rfl)
      (pss_one (ps_ret (pv 2)))))
        pss_nil)
      (pss_cons (ps_daug (hu_of hr) (pv 0) pe_str pe_int in_add (fun _ _ _ => rfl))
      (pss_cons (sset 3 nd (pe_dget (hu_of hr) (pv 0) pe_str (fun _ _ => rfl)))
      (pss_cons (sset 4 nd (pe_op op_add (pe_op op_mulW (pe_op op_add (pe_dget (hu_of hr) (pv 0) pe_str (fun _ _ => rfl)) (pe_op op_mulW pe_int (pv 3))) (pe_op op_powW (pe_op op_add (pv 3) pe_int) pe_int)) (pe_op op_mulW pe_int (pv 3))))
      (pss_one (ps_ret (pe_op op_mod (pe_op op_fdivW (pe_op op_mod (pe_op op_powW (pe_op op_mod (pv 4) pe_int) pe_int) (pe_op op_add (pe_op op_powW pe_int pe_int) pe_int)) pe_int) (pv 1))))))))), ?_⟩
  have hrg : r ≠ g := ne_of hr' hg (by intro z; cases z)
  fail "g"
  refine r_cut (fun σ' H' => ∃ (gs : List Int) (l : Int), σ' = [some (.ref r), some (.int many), none, none, none] ∧ Sy r g H H' ∧ H' r = some (.dK (bagK g l t b)) ∧ H' g = some (.lst (gs.map V.int)) ∧ (∀ x ∈ gs, 0 ≤ x) ∧ gs.length ≤ 63 ∧ 0 ≤ l) ?_ (fun σ' H' p => ?_)
  · fail "g"
    refine ⟨r, _, rfl, get_left hr', ?_⟩
    fail "g"
    refine r_dec (fun h1 => ?_) (fun h1 => ?_)
    · fail "g"
      refine ⟨r, _, rfl, get_great hr', ?_⟩
      fail "g"
      rw [List.length_map]
      refine r_dec (fun h2 => ?_) (fun h2 => ?_)
      · fail "g"
        have hp0 : 0 < gs.length := by omega
        refine ⟨r, _, rfl, get_great hr', ?_⟩
        fail "g"
        refine r_popAt (k := 0) hg rfl (y := .int gs[0]) (by simp [hp0]) (by omega) ?_
        rw [erase_map]
        have hr2 : (upd H g (.lst ((gs.eraseIdx 0).map V.int))) r = _ := upd_to hrg hr'
        fail "g"
        refine ⟨r, _, rfl, put_left hr2 _, ?_⟩
        fail "g"
        exact ⟨gs.eraseIdx 0, gs[0], rfl, Sy.refl.putg.putr, upd_same, upd_to (Ne.symm hrg) upd_same, (fun x hx => hpos x (List.mem_of_mem_eraseIdx hx)), by rw [List.length_eraseIdx]; split <;> omega, hpos _ (List.getElem_mem hp0)⟩
      · fail "g"
        exact ⟨gs, l, rfl, Sy.refl, hr', hg, hpos, hgl, hl0⟩
    · fail "g"
      exact ⟨gs, l, rfl, Sy.refl, hr', hg, hpos, hgl, hl0⟩
  · clear hr' hg hpos hgl hl0
    obtain ⟨gs, l, rfl, s, hr', hg, hpos, hgl, hl0⟩ := p
    fail "g"
    refine ⟨r, _, rfl, get_left hr', ?_⟩
    fail "g"
    refine r_dec (fun h1 => ?_) (fun h1 => ?_)
    · fail "g"
      refine ⟨r, _, rfl, get_left hr', ?_⟩
      fail "g"
      refine ⟨r, _, rfl, get_left hr', ?_⟩
      fail "g"
      refine r_I (wide_div hm0 (b := 200) (by omega) (by decide) (by decide)) ?_
      fail "g"
      refine ⟨r, _, rfl, put_left hr' _, ?_⟩
      fail "g"
      exact q _ _ (Int.emod_nonneg _ (by omega)) (Int.emod_lt_of_pos _ hm0) s.putr ⟨gs, _, t, b, upd_same, upd_to (Ne.symm hrg) hg, hpos, hgl, Int.ediv_nonneg hl0 (by omega), ht0, by omega, hb0, hb1⟩
    · fail "g"
      refine ⟨r, _, rfl, get_turn hr', ?_⟩
      fail "g"
      refine ⟨_, _, rfl, rfl, ?_⟩
      refine ⟨_, put_turn hr' _, ?_⟩
      have hg' : (upd H' r (.dK (bagK g l (t + 1) b))) g = _ := upd_to (Ne.symm hrg) hg
      have hr2 := upd_same (H := H') (a := r) (o := .dK (bagK g l (t + 1) b))
      have s2 : Sy r g H (upd H' r (.dK (bagK g l (t + 1) b))) := s.putr
      generalize upd H' r (.dK (bagK g l (t + 1) b)) = H2 at hg' hr2 s2 ⊢
      fail "g"
      refine ⟨r, _, rfl, get_turn hr2, ?_⟩
      fail "g"
      refine ⟨r, _, rfl, get_blend hr2, ?_⟩
      fail "g"
      refine r_I (wide_mul (a := 5) (b := 62) (by decide) (by omega) (by decide) (by decide) (by decide)) ?_
      fail "g"
      refine r_I (powW (n := 62) (by omega) (by decide) (by decide) (by decide)) ?_
      fail "g"
      have hT : ((t + 1 + 29) ^ Int.toNat 2).natAbs < 2 ^ 124 := by
        rw [Int.natAbs_pow]; exact Nat.lt_of_lt_of_le (Nat.pow_lt_pow_left (show (t + 1 + 29).natAbs < 2 ^ 62 by omega) (by decide)) (by decide)
      refine r_I (wide_mul (a := 70) (b := 124) (by omega) hT (by decide) (by decide) (by decide)) ?_
      fail "g"
      refine r_I (wide_mul (a := 13) (b := 62) (by decide) (by omega) (by decide) (by decide) (by decide)) ?_
      fail "g"
      refine r_I (powW (n := 61) (by omega) (by decide) (by decide) (by decide)) ?_
      fail "g"
      refine r_I ⟨by decide, by decide +kernel⟩ ?_
      fail "g"
      exact q _ _ (Int.emod_nonneg _ (by omega)) (Int.emod_lt_of_pos _ hm0) s2 ⟨gs, _, _, b, hr2, hg', hpos, hgl, hl0, by omega, by omega, hb0, hb1⟩
def spe_law_kind (K : PySem.W.Frag) (T : Txt K mg) : Addr → Value → Option Addr → Sp := fun a cls d vs H Q _ => ∃ (D dd : Addr) (j : Nat) (y : V), vs = [.ref a] ∧ cls = .ref D ∧ d = some dd ∧ H dd = some (.xd [(("value" : Str), y)]) ∧ Kd3 K T D j ∧
  ∀ (H' : Hp), Same H H' → Q (.str (wordsD.getD j "")) H'
theorem okE_law_kind (T : Txt K mg) : FnE P w K mg base 1 T.law_kind_a T.law_kind_d ["e"] (spe_law_kind K T) := by
  refine okE T.law_kind_F sc_law_kind (fun a cls d vs H Q E h => ?_) (fun cdv A ou t H vs Q E q cls d hG hr cg h => ?_)
  · obtain ⟨_, _, _, _, rfl, _⟩ := h; rfl
  have nd := sc_law_kind.nd
  obtain ⟨D, dd, j, y, rfl, rfl, rfl, hdd, kd, k⟩ := h
  refine ⟨_, (pss_cons (sset 1 nd (pe_lst (pa_cons (pe_callB (call_isX cg) (by rfl) T.m_isinstance (by decide +kernel) (pa_cons (pv 0) (pa_cons (pe_glob (v := .ref T.InvalidSize_a) (by rfl) T.InvalidSize_g rfl) pa_nil))) (pa_cons (pe_callB (call_isX cg) (by rfl) T.m_isinstance (by decide +kernel) (pa_cons (pv 0) (pa_cons (pe_glob (v := .ref T.InvalidCommand_a) (by rfl) T.InvalidCommand_g rfl) pa_nil))) (pa_cons (pe_callB (call_isX cg) (by rfl) T.m_isinstance (by decide +kernel) (pa_cons (pv 0) (pa_cons (pe_glob (v := .ref T.UnequalSizes_a) (by rfl) T.UnequalSizes_g rfl) pa_nil))) pa_nil)))))
      (pss_cons (sset 2 nd (pe_callB (call_isXT cg) (by rfl) T.m_isinstance (by decide +kernel) (pa_cons (pv 0) (pa_cons (pe_tup (pa_cons (pe_glob (v := .ref T.InvalidNumber_a) (by rfl) T.InvalidNumber_g rfl) (pa_cons (pe_glob (v := .ref T.InvalidRow_a) (by rfl) T.InvalidRow_g rfl) (pa_cons (pe_glob (v := .ref T.NothingToUndo_a) (by rfl) T.NothingToUndo_g rfl) (pa_cons (pe_glob (v := .ref T.Unreadable_a) (by rfl) T.Unreadable_g rfl) pa_nil))))) pa_nil))))
      (pss_cons (ps_if (PW.pt (pw_or (pt_cmpR op_ne (pe_bmK K PySem.F.plainAttrs_list PySem.F.slot_list_count PySem.F.type_list_count (lcountF K) (pv 1) (pa_cons pe_bl pa_nil)) pe_int (nomark _)) (pw_or (pt_val (pv 2)) (pw_or1 (pt_not (pt_val (pe_callB (call_isX cg) (by rfl) T.m_isinstance (by decide +kernel) (pa_cons (pv 0) (pa_cons (pe_bltn (v := .ty "ValueError") (u := .type "ValueError") (by rfl) T.m_ValueError (by decide +kernel) rfl) pa_nil)))))))))
        (pss_one (ps_ret pe_str))
        pss_nil)
      (pss_one (ps_ret (pe_ix (ix_tupK K) (pe_tup (pa_cons pe_str (pa_cons pe_str (pa_cons pe_str pa_nil)))) (pe_bmK K PySem.F.plainAttrs_list PySem.F.slot_list_index PySem.F.type_list_index (lindexK K) (pv 1) (pa_cons pe_bl pa_nil)) (fun _ _ => rfl))))))), ?_⟩
  fail "ww"
  refine r_isR hdd kd.x kd.k0 ?_
  fail "ww"
  refine r_isR hdd kd.x kd.k1 ?_
  fail "ww"
  refine r_isR hdd kd.x kd.k2 ?_
  fail "ww"
  refine new_ fun t0 H1 n1 s1 g0 => ?_
  fail "ww"
  refine new_ fun t1 H2 n2 s2 g2 => ?_
  fail "ww"
  have s12 := s1.trans s2
  refine r_isXT (s12 _ _ hdd) kd.x g2 (.cons (.own _) (.cons (.own _) (.cons (.own _) (.cons (.own _) .nil)))) (kit4 kd) ?_
  fail "ww"
  have g02 := s2 _ _ g0
  have hj := kd.lt
  have hd2 := s12 _ _ hdd
  have hc : ([V.bl (decide (j = 0)), V.bl (decide (j = 1)), V.bl (decide (j = 2))].countP fun z => eqV z (.bl true)) = 1 := by
    have : j = 0 ∨ j = 1 ∨ j = 2 := by omega
    rcases this with e | e | e <;> subst e <;> decide
  refine ⟨ty_list (sq g02), ?_⟩
  fail "ww"
  refine ⟨t0, _, .bl true, rfl, rfl, sq g02, rfl, rfl, ?_⟩
  rw [hc]
  fail "ww"
  refine r_itNF rfl ?_
  fail "ww"
  refine r_isT hd2 kd.x kd.v ?_
  fail "ww"
  refine new_ fun t2 H3 n3 s3 g3 => ?_
  fail "ww"
  have g03 := s3 _ _ g02
  refine ⟨t0, _, .bl true, j, .bl true, rfl, rfl, sq g03, rfl, rfl, ?_, rfl, ?_, ?_⟩
  · have : j = 0 ∨ j = 1 ∨ j = 2 := by omega
    rcases this with e | e | e <;> subst e <;> rfl
  · intro m z hm hz
    have : (j = 1 ∧ m = 0) ∨ (j = 2 ∧ m = 0) ∨ (j = 2 ∧ m = 1) := by omega
    rcases this with ⟨e, e2⟩ | ⟨e, e2⟩ | ⟨e, e2⟩ <;> subst e <;> subst e2 <;> cases hz <;> rfl
  · refine r_ixT (sqT g3) (show atI _ _ = some (V.str (wordsD.getD j "")) from ?_) ?_
    · have : j = 0 ∨ j = 1 ∨ j = 2 := by omega
      rcases this with e | e | e <;> subst e <;> rfl
    · fail "ww"
      exact k _ (s12.trans s3)
def sp_HiddenScript_size (K : PySem.W.Frag) (T : Txt K mg) : Sp := fun vs H Q _ => ∃ (x : Addr) (nq : Nat × Nat × List Cmd × Addr), vs = [.ref x] ∧ Hid H T.HiddenScript_a x nq.2.2.2 nq.1 nq.2.2.1 nq.2.1 ∧ ∀ H', Same H H' → Q (.int (nq.1 : Int)) H'
theorem okp_HiddenScript_size (T : Txt K mg) : FnOk P w K mg base CX0 1 T.HiddenScript_size_a T.HiddenScript_size_d ["self"] (sp_HiddenScript_size K T) := by
  refine T.HiddenScript_size_F.ok sc_HiddenScript_size (fun vs H Q E h => ?_) (fun cdv A ou t H vs Q E hr h => ?_)
  · obtain ⟨_, _, rfl, _⟩ := h; rfl
  have nd := sc_HiddenScript_size.nd
  obtain ⟨x, ⟨n, qn, cs, l⟩, rfl, ⟨⟨dx, ts, hx, hl, hC⟩, _, _⟩, k⟩ := h
  refine ⟨_, (pss_one (ps_ret (pe_fldK K (pv 0)))), ?_⟩
  fail "ww"
  refine ⟨x, T.HiddenScript_a, dx, _, _, rfl, hx, T.HiddenScript_cl, T.HiddenScript_n_size, hidF_size n l qn, ?_⟩
  exact k _ (Same.refl _)
theorem ok_HiddenScript_size (T : Txt K mg) : FnG P w K mg base CX0 1 T.HiddenScript_size_a T.HiddenScript_size_d ["self"] (sp_HiddenScript_size K T) := .of (okp_HiddenScript_size T)
def sp_HiddenScript_questions (K : PySem.W.Frag) (T : Txt K mg) : Sp := fun vs H Q _ => ∃ (x : Addr) (nq : Nat × Nat × List Cmd × Addr), vs = [.ref x] ∧ Hid H T.HiddenScript_a x nq.2.2.2 nq.1 nq.2.2.1 nq.2.1 ∧ ∀ H', Same H H' → Q (.int (nq.2.1 : Int)) H'
theorem okp_HiddenScript_questions (T : Txt K mg) : FnOk P w K mg base CX0 1 T.HiddenScript_questions_a T.HiddenScript_questions_d ["self"] (sp_HiddenScript_questions K T) := by
  refine T.HiddenScript_questions_F.ok sc_HiddenScript_questions (fun vs H Q E h => ?_) (fun cdv A ou t H vs Q E hr h => ?_)
  · obtain ⟨_, _, rfl, _⟩ := h; rfl
  have nd := sc_HiddenScript_questions.nd
  obtain ⟨x, ⟨n, qn, cs, l⟩, rfl, ⟨⟨dx, ts, hx, hl, hC⟩, _, _⟩, k⟩ := h
  refine ⟨_, (pss_one (ps_ret (pe_fldK K (pv 0)))), ?_⟩
  fail "ww"
  refine ⟨x, T.HiddenScript_a, dx, _, _, rfl, hx, T.HiddenScript_cl, T.HiddenScript_n_questions, hidF_ques n l qn, ?_⟩
  exact k _ (Same.refl _)
theorem ok_HiddenScript_questions (T : Txt K mg) : FnG P w K mg base CX0 1 T.HiddenScript_questions_a T.HiddenScript_questions_d ["self"] (sp_HiddenScript_questions K T) := .of (okp_HiddenScript_questions T)
def sp_law_commands (K : PySem.W.Frag) : Sp := fun vs H Q _ => ∃ (r g : Addr) (wide most m : Nat), vs = [.ref r, .int wide, .int most] ∧ Bag H r g m ∧ 1 ≤ wide ∧ wide ≤ 1000 ∧ most ≤ 10000 ∧ m < 2 ^ 40 ∧
  ∀ (H' : Hp) (p : Addr) (ts : List Addr) (cs : List Cmd), Sy r g H H' → H p = none → Bag H' r g (m + 1 + 5 * most) → H' p = some (.lst (ts.map V.ref)) → Cm H' ts cs → Fits wide cs → cs.length ≤ most → Q (.ref p) H'
theorem ok_law_commands (T : Txt K mg) : FnG P w K mg base CX0 2 T.law_commands_a T.law_commands_d ["bag", "many", "most"] (sp_law_commands K) := by
  refine okG T.law_commands_F sc_law_commands (fun vs H Q E h => ?_) (fun cdv A ou t H vs Q E hG hr h => ?_)
  · obtain ⟨_, _, _, _, _, rfl, _⟩ := h; rfl
  have nd := sc_law_commands.nd
  obtain ⟨r, g, wide, most, m, rfl, hR, hw1, hw, hmost, hm, q⟩ := h
  refine ⟨_, (pss_cons (sset 3 nd (pe_lst pa_nil))
      (pss_cons (ps_for PassesOwn.never rfl (pi_range1 (by rfl) T.m_range (pa_cons (pe_callG (ok_law_draw T) hG (hr.mono (by decide)) (by rfl) T.law_draw_g T.law_draw_F.kp T.law_draw_b .nil pass0 (pa_cons (pv 0) (pa_cons (pe_op op_add (pv 2) pe_int) pa_nil))) pa_nil)) (gset 4 nd)
        (pss_cons (sset 5 nd (pe_op op_add pe_int (pe_callG (ok_law_draw T) hG (hr.mono (by decide)) (by rfl) T.law_draw_g T.law_draw_F.kp T.law_draw_b .nil pass0 (pa_cons (pv 0) (pa_cons (pv 1) pa_nil)))))
      (pss_cons (sset 6 nd (pe_callG (ok_law_draw T) hG (hr.mono (by decide)) (by rfl) T.law_draw_g T.law_draw_F.kp T.law_draw_b .nil pass0 (pa_cons (pv 0) (pa_cons (pe_ix (ix_tupK K) (pe_tup (pa_cons pe_int (pa_cons pe_int (pa_cons (pv 1) pa_nil)))) (pe_callG (ok_law_draw T) hG (hr.mono (by decide)) (by rfl) T.law_draw_g T.law_draw_F.kp T.law_draw_b .nil pass0 (pa_cons (pv 0) (pa_cons pe_int pa_nil))) (fun _ _ => rfl)) pa_nil))))
      (pss_cons (ps_expr (pe_bmK K PySem.F.plainAttrs_list PySem.F.slot_list_append PySem.F.type_list_append mt_append (pv 3) (pa_cons (pe_tup (pa_cons (pv 5) (pa_cons (pe_callB (call_min2 rfl) (by rfl) T.m_min (by decide +kernel) (pa_cons (pv 1) (pa_cons (pe_op op_add (pv 5) (pv 6)) pa_nil))) pa_nil))) pa_nil)))
      (pss_one (ps_if (pt_cmpR op_eq (pe_callG (ok_law_draw T) hG (hr.mono (by decide)) (by rfl) T.law_draw_g T.law_draw_F.kp T.law_draw_b .nil pass0 (pa_cons (pv 0) (pa_cons pe_int pa_nil))) pe_int (nomark _))
        (pss_one (ps_expr (pe_bmK K PySem.F.plainAttrs_list PySem.F.slot_list_append PySem.F.type_list_append mt_append (pv 3) (pa_cons (pe_ix (ix_listK K) (pv 3) (pe_callG (ok_law_draw T) hG (hr.mono (by decide)) (by rfl) T.law_draw_g T.law_draw_F.kp T.law_draw_b .nil pass0 (pa_cons (pv 0) (pa_cons (pe_callB (lenK K) (by rfl) T.m_len PySem.boot_len (pa_cons (pv 3) pa_nil)) pa_nil))) (fun _ _ => rfl)) pa_nil))))
        pss_nil))))))
      (pss_one (ps_ret (pe_slice (sl_listK K) (pv 3) po_none (po_some (pv 2))))))), ?_⟩
  fail "g"
  intro p np
  fail "g"
  have hpr := hR.ner np
  have hR1 := hR.same (same_new (o := .lst []) np)
  have s1 := Sy.new (r := r) (g := g) (o := .lst []) np
  refine ⟨r, g, _, m, rfl, hR1, by omega, by omega, by omega, fun H2 n0 hn0 hn1 s2 hR2 => ?_⟩
  obtain ⟨n, rfl⟩ := Int.eq_ofNat_of_zero_le hn0
  have hP2 := s2 _ _ hpr.1 hpr.2 upd_same
  have s3 := s1.trans s2
  fail "g"
  refine ⟨by omega, by omega, ?_⟩
  refine forF walk_range (fun i σ' H' => ∃ (ts : List Addr) (cs : List Cmd) (y4 y5 y6 : Option V), σ' = [some (.ref r), some (.int wide), some (.int most), some (.ref p), y4, y5, y6] ∧ cs.length ≤ 2 * i ∧ H' p = some (.lst (ts.map V.ref)) ∧ Cm H' ts cs ∧ Fits wide cs ∧ Sy r g H H' ∧ Bag H' r g (m + 1 + 5 * i))
    ⟨[], [], none, none, none, rfl, Nat.zero_le _, hP2, Cm.nil, (fun c hc => by cases hc), s3, hR2⟩ (fun _ _ _ _ _ => trivial) (fun i σ' H' hi p' => ?_) (fun σ' H' p' => ?_)
  · obtain ⟨ts, cs, y4, y5, y6, rfl, hlen, hP, hC, hF, sH, hRi⟩ := p'
    fail "g"
    refine ⟨r, g, wide, _, rfl, hRi, by omega, by omega, by omega, fun H3 e0 he0 he1 s4 hR3 => ?_⟩
    obtain ⟨e, rfl⟩ := Int.eq_ofNat_of_zero_le he0
    have hP3 := s4 _ _ hpr.1 hpr.2 hP
    have hC3 := hC.sy hRi s4
    have sH3 := sH.trans s4
    fail "g"
    intro lx nx
    have sx := same_new (o := .tup [.int 2, .int 4, .int wide]) nx
    have hlr := hR3.ner nx
    have hR4 := hR3.same sx
    have hP4 := sx _ _ hP3
    have hC4 := hC3.same sx
    have sH4 := sH3.same sx
    have hlx := upd_same (H := H3) (a := lx) (o := .tup [.int 2, .int 4, .int wide])
    generalize upd H3 lx (.tup [.int 2, .int 4, .int wide]) = H4 at sx hR4 hP4 hC4 sH4 hlx ⊢
    fail "g"
    refine ⟨r, g, _, _, rfl, hR4, by omega, by decide, by decide, fun H6 d hd0 hd1 s6 hR6 => ?_⟩
    have hlx6 := s6 _ _ hlr.1 hlr.2 hlx
    obtain ⟨L, hat, hL1, hL2⟩ : ∃ L : Nat, atI [V.int 2, V.int 4, V.int wide] d = some (.int L) ∧ 1 ≤ L ∧ L ≤ 1000 := by
      have : d = 0 ∨ d = 1 ∨ d = 2 := by omega
      rcases this with h | h | h <;> subst h
      · exact ⟨2, rfl, by omega, by omega⟩
      · exact ⟨4, rfl, by omega, by omega⟩
      · exact ⟨wide, rfl, by omega, by omega⟩
    have hP6 := s6 _ _ hpr.1 hpr.2 hP4
    have hC6 := hC4.sy hR4 s6
    have sH6 := sH4.trans s6
    clear hP hC hP3 hC3 hP4 hC4 sH sH3 sH4
    fail "g"
    refine r_ixT (sqT hlx6) hat ?_
    fail "g"
    refine ⟨r, g, _, _, rfl, hR6, by omega, by omega, by omega, fun H7 f0 hf0 hf1 s7 hR7 => ?_⟩
    obtain ⟨f, rfl⟩ := Int.eq_ofNat_of_zero_le hf0
    have hP7 := s7 _ _ hpr.1 hpr.2 hP6
    have hC7 := hC6.sy hR6 s7
    have sH7 := sH6.trans s7
    obtain ⟨z, hz, hz1, hz2⟩ : ∃ z : Nat, (if 1 + (e : Int) + (f : Int) < (wide : Int) then 1 + (e : Int) + (f : Int) else (wide : Int)) = (z : Int) ∧ 1 + e ≤ z ∧ z ≤ wide := by
      split
      · exact ⟨1 + e + f, by omega, by omega, by omega⟩
      · exact ⟨wide, rfl, by omega, by omega⟩
    fail "g"
    rw [hz]
    intro t nt
    have st := same_new (o := .tup [.int (1 + (e : Int)), .int (z : Int)]) nt
    have hP8 := st _ _ hP7
    have hC8 := hC7.same st
    have sH8 := sH7.same st
    have hR8 := hR7.same st
    have ht8 := upd_same (H := H7) (a := t) (o := .tup [.int (1 + (e : Int)), .int (z : Int)])
    generalize upd H7 t (.tup [.int (1 + (e : Int)), .int (z : Int)]) = H8 at st hP8 hC8 sH8 hR8 ht8 ⊢
    clear hP6 hC6 sH6 hP7 hC7 sH7
    fail "g"
    refine r_append hP8 (by rw [List.length_map, hC8.len]; exact size_lt (by omega)) ?_
    have hP9 : (upd H8 p (.lst (ts.map V.ref ++ [.ref t]))) p = some (.lst ((ts ++ [t]).map V.ref)) := by rw [upd_same, List.map_append]; rfl
    have hC9 : Cm (upd H8 p (.lst (ts.map V.ref ++ [.ref t]))) (ts ++ [t]) (cs ++ [(1 + e, z)]) := (hC8.snoc (c := (1 + e, z)) (by rw [ht8, show ((1 + e : Nat) : Int) = 1 + (e : Int) by omega])).put hP8
    have hF9 : Fits wide (cs ++ [(1 + e, z)]) := fun c' hc' => by
      rcases List.mem_append.mp hc' with h | h
      · exact hF c' h
      · rw [List.mem_singleton.mp h]; exact ⟨by omega, hz1, hz2⟩
    have sH9 : Sy r g H (upd H8 p (.lst (ts.map V.ref ++ [.ref t]))) := sH8.old np
    have hR9 : Bag (upd H8 p (.lst (ts.map V.ref ++ [.ref t]))) r g _ := hR8.other hpr
    have hl9 : (cs ++ [(1 + e, z)]).length ≤ 2 * i + 1 := by rw [List.length_append]; show _ + 1 ≤ _; omega
    have hp9 : 0 < (cs ++ [(1 + e, z)]).length := by rw [List.length_append]; show 0 < _ + 1; omega
    generalize upd H8 p (.lst (ts.map V.ref ++ [.ref t])) = H9 at hP9 hC9 sH9 hR9 ⊢
    generalize ts ++ [t] = ts9 at hP9 hC9
    generalize cs ++ [(1 + e, z)] = cs9 at hC9 hF9 hl9 hp9
    fail "g"
    refine ⟨r, g, _, _, rfl, hR9, by omega, by decide, by decide, fun H10 d2 _ _ s10 hR10 => ?_⟩
    have hP10 := s10 _ _ hpr.1 hpr.2 hP9
    have hC10 := hC9.sy hR9 s10
    have sH10 := sH9.trans s10
    fail "g"
    refine r_dec (fun h => ?_) (fun h => ?_)
    · fail "g"
      rw [List.length_map, hC10.len]
      refine ⟨r, g, _, _, rfl, hR10, by omega, by omega, by omega, fun H11 d3 hd30 hd31 s11 hR11 => ?_⟩
      obtain ⟨j, rfl⟩ := Int.eq_ofNat_of_zero_le hd30
      have hP11 := s11 _ _ hpr.1 hpr.2 hP10
      have hC11 := hC10.sy hR10 s11
      have sH11 := sH10.trans s11
      obtain ⟨t2, et2, ht2⟩ := hC11.idx (i := j) (by omega)
      fail "g"
      refine r_ixL (sq hP11) (v := .ref t2) (at_of rfl (by rw [List.getElem?_map, et2]; rfl)) ?_
      fail "g"
      refine r_append hP11 (by rw [List.length_map, hC11.len]; exact size_lt (by omega)) ?_
      fail "g"
      refine ⟨ts9 ++ [t2], cs9 ++ [cs9[j]], _, _, _, rfl, by rw [List.length_append]; show _ + 1 ≤ _; omega, by rw [upd_same, List.map_append]; rfl, (hC11.snoc ht2).put hP11, fun c' hc' => ?_, sH11.old np, (hR11.other hpr).le (by omega)⟩
      rcases List.mem_append.mp hc' with h | h
      · exact hF9 c' h
      · rw [List.mem_singleton.mp h]; exact hF9 _ (List.getElem_mem _)
    · fail "g"
      exact ⟨ts9, cs9, _, _, _, rfl, by omega, hP10, hC10, hF9, sH10, hR10.le (by omega)⟩
  · obtain ⟨ts, cs, y4, y5, y6, rfl, hlen, hP, hC, hF, sH, hRi⟩ := p'
    rw [Int.toNat_natCast] at hlen hRi
    fail "g"
    intro p2 n2
    rw [cut_to (b := most) rfl, ← List.map_take] at *
    have s9 := same_new (o := .lst ((ts.take most).map V.ref)) n2
    exact q _ p2 _ (cs.take most) (sH.same s9) (hRi.free sH n2) ((hRi.same s9).le (by omega)) upd_same ((hC.take most).same s9) hF.take (by rw [List.length_take]; omega)
def sp_check_size (K : PySem.W.Frag) : Sp := fun vs H Q _ => ∃ (n : Nat), vs = [.int n] ∧ 1 ≤ n ∧ Q .non H
theorem okp_check_size (T : Txt K mg) : FnOk P w K mg base CX0 3 T.check_size_a T.check_size_d ["size"] (sp_check_size K) := by
  refine T.check_size_F.ok sc_check_size (fun vs H Q E h => ?_) (fun cdv A ou t H vs Q E hr h => ?_)
  · obtain ⟨_, rfl, _⟩ := h; rfl
  have nd := sc_check_size.nd
  obtain ⟨n, rfl, hn, q⟩ := h
  refine ⟨_, (pss_one (ps_if (pt_cmpR op_lt (pv 0) pe_int (nomark _))
        (pss_one ps_never)
        pss_nil)), ?_⟩
  fail "g"
  refine r_itDF (by omega) ?_
  fail "g"
  exact q
theorem ok_check_size (T : Txt K mg) : FnG P w K mg base CX0 3 T.check_size_a T.check_size_d ["size"] (sp_check_size K) := .of (okp_check_size T)
def spx_check_size (K : PySem.W.Frag) (T : Txt K mg) : Sp := fun vs H Q E => ∃ (n : Int), vs = [.int n] ∧ n < 1 ∧ Err H E T.InvalidSize_a (.int n)
theorem okx_check_size (T : Txt K mg) : FnG P w K mg base (L2N.CX P w) 3 T.check_size_a T.check_size_d ["size"] (spx_check_size K T) := by
  refine okX T.check_size_F sc_check_size (fun vs H Q E h => ?_) (fun cdv A ou t H vs Q E hG hr h => ?_)
  · obtain ⟨_, rfl, _⟩ := h; rfl
  have nd := sc_check_size.nd
  obtain ⟨n, rfl, hn, q⟩ := h
  refine ⟨_, (pss_one (ps_if (pt_cmpR op_lt (pv 0) pe_int (nomark _))
        (pss_one (ps_raiseV rfl (L2N.takes_of rfl rfl rfl rfl) T.InvalidSize_E (ini_InvalidSize T) (hr.mono (by decide)) T.InvalidSize_i_b (by rfl) (pa_cons (pv 0) pa_nil)))
        pss_nil)), ?_⟩
  fail "ww"
  refine r_itD hn ?_
  fail "ww"
  exact fun d hd => q _ d (Same.refl _) hd
def sp_check_script (K : PySem.W.Frag) : Sp := fun vs H Q _ => ∃ (n : Nat) (b : Addr) (ts : List Addr) (cs : List Cmd), vs = [.int n, .ref b] ∧ SqL K H b (ts.map V.ref) ∧ Cm H ts cs ∧ Fits n cs ∧ ∀ H', Same H H' → Q .non H'
theorem okp_check_script (T : Txt K mg) : FnOk P w K mg base CX0 3 T.check_script_a T.check_script_d ["size", "commands"] (sp_check_script K) := by
  refine T.check_script_F.ok sc_check_script (fun vs H Q E h => ?_) (fun cdv A ou t H vs Q E hr h => ?_)
  · obtain ⟨_, _, _, _, rfl, _⟩ := h; rfl
  have nd := sc_check_script.nd
  obtain ⟨n, b, ts, cs, rfl, hS, hC, hF, q⟩ := h
  refine ⟨_, (pss_one (ps_for PassesOwn.never rfl (pi_enumK K (by rfl) T.m_enumerate (pa_cons (pv 1) pa_nil)) (pg_tupK K 2 rfl (pgs_cons (gset 2 nd) (pgs_cons (pg_tupK K 2 rfl (pgs_cons (gset 3 nd) (pgs_cons (gset 4 nd) pgs_nil))) pgs_nil)))
        (pss_one (ps_if (PW.pt (pw_or (pt_cmpR op_lt (pv 3) pe_int (nomark _)) (pw_or (pt_cmpR op_lt (pv 4) (pv 3) (nomark _)) (pw_or1 (pt_cmpR op_gt (pv 4) (pv 0) (nomark _))))))
        (pss_one ps_never)
        pss_nil)))), ?_⟩
  fail "g"
  refine forP (walk_enum (xs := ts.map V.ref)) (fun i σ' H' => ∃ y2 y3 y4, σ' = [some (.int n), some (.ref b), y2, y3, y4] ∧ Same H H') ⟨none, none, none, rfl, Same.refl H⟩ (fun i σ' H' _ p => ?_) (fun i σ' H' T1 x y hi p e1 e2 nT => ?_) (fun σ' H' p => ?_)
  · obtain ⟨_, _, _, _, s⟩ := p; exact s.seq hS
  · obtain ⟨y2, y3, y4, rfl, s⟩ := p
    cases e1
    have hi' : i < cs.length := by rw [← hC.len]; simpa using hi
    obtain ⟨t0, et, ht⟩ := hC.idx hi'
    simp only [List.getElem?_map, et] at e2
    cases e2
    have hc := hF cs[i] (List.getElem_mem hi')
    have s1 := s.trans (same_new (o := .tup [.int (i : Nat), .ref t0]) nT)
    have ht1 := s1 _ _ ht
    fail "g"
    refine r_itDF (by omega) ?_
    fail "g"
    refine r_itDF (by omega) ?_
    fail "g"
    refine r_itDF (by omega) ?_
    fail "g"
    exact ⟨_, _, _, rfl, s1⟩
  · obtain ⟨y2, y3, y4, rfl, s⟩ := p
    fail "g"
    exact q _ s
theorem ok_check_script (T : Txt K mg) : FnG P w K mg base CX0 3 T.check_script_a T.check_script_d ["size", "commands"] (sp_check_script K) := .of (okp_check_script T)
def spx_check_script (K : PySem.W.Frag) (T : Txt K mg) : Sp := fun vs H Q E => ∃ (n : Int) (b : Addr) (ts : List Addr) (ws : List Pr) (i : Nat), vs = [.int n, .ref b] ∧ SqL K H b (ts.map V.ref) ∧ Cw H ts ws ∧ eW n ws = some i ∧ Err H E T.InvalidCommand_a (.int i)
theorem okx_check_script (T : Txt K mg) : FnG P w K mg base (L2N.CX P w) 3 T.check_script_a T.check_script_d ["size", "commands"] (spx_check_script K T) := by
  refine okX T.check_script_F sc_check_script (fun vs H Q E h => ?_) (fun cdv A ou t H vs Q E hG hr h => ?_)
  · obtain ⟨_, _, _, _, _, rfl, _⟩ := h; rfl
  have nd := sc_check_script.nd
  obtain ⟨n, b, ts, ws, i0, rfl, hS, hC, hI, q⟩ := h
  refine ⟨_, (pss_one (ps_for (passes_of rfl) rfl (pi_enumK K (by rfl) T.m_enumerate (pa_cons (pv 1) pa_nil)) (pg_tupK K 2 rfl (pgs_cons (gset 2 nd) (pgs_cons (pg_tupK K 2 rfl (pgs_cons (gset 3 nd) (pgs_cons (gset 4 nd) pgs_nil))) pgs_nil)))
        (pss_one (ps_if (PW.pt (pw_or (pt_cmpR op_lt (pv 3) pe_int (nomark _)) (pw_or (pt_cmpR op_lt (pv 4) (pv 3) (nomark _)) (pw_or1 (pt_cmpR op_gt (pv 4) (pv 0) (nomark _))))))
        (pss_one (ps_raiseV rfl (L2N.takes_of rfl rfl rfl rfl) T.InvalidCommand_E (ini_InvalidCommand T) (hr.mono (by decide)) T.InvalidCommand_i_b (by rfl) (pa_cons (pv 2) pa_nil)))
        pss_nil)))), ?_⟩
  obtain ⟨hi0, hb, hl⟩ := first_at hI
  fail "ww"
  refine forP (walk_enum (xs := ts.map V.ref)) (fun i σ' H' => ∃ y2 y3 y4, σ' = [some (.int n), some (.ref b), y2, y3, y4] ∧ Same H H' ∧ i ≤ i0) ⟨none, none, none, rfl, Same.refl H, Nat.zero_le _⟩ (fun i σ' H' _ p => ?_) (fun i σ' H' T1 x y hi p e1 e2 nT => ?_) (fun σ' H' p => ?_)
  · obtain ⟨_, _, _, _, s, _⟩ := p; exact s.seq hS
  · obtain ⟨y2, y3, y4, rfl, s, hle⟩ := p
    cases e1
    have hi' : i < ws.length := by rw [← hC.len]; simpa using hi
    obtain ⟨t0, et, ht⟩ := hC.idx hi'
    simp only [List.getElem?_map, et] at e2
    cases e2
    have s1 := s.trans (same_new (o := .tup [.int (i : Nat), .ref t0]) nT)
    have ht1 := s1 _ _ ht
    have hw := wrW_at (n := n) (ws := ws) (i := i) (List.getElem?_eq_getElem hi')
    have bad : ¬ FitW n ws[i] → i = i0 := fun g => by
      rcases Nat.lt_or_eq_of_le hle with z | z
      · have := hl i z
        rw [hw, decide_eq_false g] at this
        cases this
      · exact z
    have good : FitW n ws[i] → i + 1 ≤ i0 := fun g => by
      rcases Nat.lt_or_eq_of_le hle with z | z
      · exact z
      · rw [← z, hw, decide_eq_true g] at hb
        cases hb
    unfold FitW at bad good
    fail "ww"
    refine r_dec (fun g => ?_) (fun g => ?_)
    · fail "ww"
      rw [bad (by omega)] at *
      exact fun d hd => q _ d s1 hd
    fail "ww"
    refine r_dec (fun g2 => ?_) (fun g2 => ?_)
    · fail "ww"
      rw [bad (by omega)] at *
      exact fun d hd => q _ d s1 hd
    fail "ww"
    refine r_dec (fun g3 => ?_) (fun g3 => ?_)
    · fail "ww"
      rw [bad (by omega)] at *
      exact fun d hd => q _ d s1 hd
    fail "ww"
    exact ⟨_, _, _, rfl, s1, good (by omega)⟩
  · obtain ⟨y2, y3, y4, rfl, s, hle⟩ := p
    rw [List.length_map, hC.len] at hle
    omega
def sp_HiddenScript_ask (K : PySem.W.Frag) (T : Txt K mg) : Sp := fun vs H Q _ => ∃ (x a l : Addr) (n qn : Nat) (cs : List Cmd) (ns : List Int), vs = [.ref x, .ref a] ∧ Hid H T.HiddenScript_a x l n cs qn ∧ H a = some (.lst (ns.map V.int)) ∧ ns.length = n ∧ n ≤ 1000 ∧
  ∀ (H' : Hp) (p : Addr), (∀ c o, H c = some o → c ≠ x → H' c = some o) → Hid H' T.HiddenScript_a x l n cs (qn + 1) → H p = none → p ≠ x → H' p = some (.lst ((runM ns cs).map V.int)) → Q (.ref p) H'
theorem okp_HiddenScript_ask (T : Txt K mg) : FnOk P w K mg base CX0 3 T.HiddenScript_ask_a T.HiddenScript_ask_d ["self", "row"] (sp_HiddenScript_ask K T) := by
  refine T.HiddenScript_ask_F.ok sc_HiddenScript_ask (fun vs H Q E h => ?_) (fun cdv A ou t H vs Q E hr h => ?_)
  · obtain ⟨_, _, _, _, _, _, _, rfl, _⟩ := h; rfl
  have nd := sc_HiddenScript_ask.nd
  obtain ⟨x, a, l, n, qn, cs, ns, rfl, ⟨⟨dx, ts, hx, hl, hC⟩, hF, hp⟩, hA, hlen, hn, k⟩ := h
  refine ⟨_, (pss_cons (ps_if (pt_cmpR op_ne (pe_callB (lenK K) (by rfl) T.m_len PySem.boot_len (pa_cons (pv 1) pa_nil)) (pe_fldK K (pv 0)) (nomark _))
        (pss_one ps_never)
        pss_nil)
      (pss_cons (sset 2 nd (pe_call (okp_sort_stretches T) (hr.mono (by decide)) (by rfl) T.sort_stretches_g T.sort_stretches_F.kp T.sort_stretches_b .nil pass0 (pa_cons (pv 1) (pa_cons (pe_fldK K (pv 0)) pa_nil))))
      (pss_cons (ps_fldaugK K (pv 0) pe_int in_add)
      (pss_one (ps_ret (pv 2)))))), ?_⟩
  have hax : a ≠ x := ne_of hA hx (by intro z; cases z)
  have hlx : l ≠ x := ne_of hl hx (by intro z; cases z)
  fail "ww"
  refine ⟨x, T.HiddenScript_a, dx, _, _, rfl, hx, T.HiddenScript_cl, T.HiddenScript_n_size, hidF_size n l qn, ?_⟩
  rw [List.length_map, hlen]
  fail "ww"
  refine r_itNF rfl ?_
  fail "ww"
  refine ⟨x, T.HiddenScript_a, dx, _, _, rfl, hx, T.HiddenScript_cl, T.HiddenScript_n_commands, hidF_comm n l qn, ?_⟩
  fail "ww"
  refine ⟨a, l, ns, ts, cs, rfl, sq hA, sq hl, hC, by omega, by rw [hlen]; exact hF, fun H1 p s1 np hpp => ?_⟩
  fail "ww"
  have hx1 := s1 _ _ hx
  have hpx : p ≠ x := (ne_of_none hx np).symm
  refine ⟨x, T.HiddenScript_a, dx, _, _, rfl, hx1, T.HiddenScript_cl, T.HiddenScript_n_questions, hidF_ques n l qn, ?_⟩
  fail "ww"
  refine ⟨_, _, rfl, rfl, dx, _, hx1, by simp [hidF], ?_⟩
  rw [hidF_put]
  have s2 : Sx x H (upd H1 x (.ins T.HiddenScript_a dx (hidF n l (qn + 1)))) := (Sx.refl.same s1).trans Sx.put
  fail "ww"
  exact k _ p (fun c o e ne => s2 c o ne e) ⟨⟨dx, ts, upd_same, s2 _ _ hlx hl, hC.obj hx s2⟩, hF, hp⟩ np hpx (upd_to hpx hpp)
theorem ok_HiddenScript_ask (T : Txt K mg) : FnG P w K mg base CX0 3 T.HiddenScript_ask_a T.HiddenScript_ask_d ["self", "row"] (sp_HiddenScript_ask K T) := .of (okp_HiddenScript_ask T)
def spx_HiddenScript_ask (K : PySem.W.Frag) (T : Txt K mg) : Sp := fun vs H Q E => ∃ (x a l : Addr) (n : Nat) (qc : Nat × List Cmd) (ns : List Int), vs = [.ref x, .ref a] ∧ Hid H T.HiddenScript_a x l n qc.2 qc.1 ∧ H a = some (.lst (ns.map V.int)) ∧ ns.length ≠ n ∧ Err H E T.UnequalSizes_a .non
theorem okx_HiddenScript_ask (T : Txt K mg) : FnG P w K mg base (L2N.CX P w) 3 T.HiddenScript_ask_a T.HiddenScript_ask_d ["self", "row"] (spx_HiddenScript_ask K T) := by
  refine okX T.HiddenScript_ask_F sc_HiddenScript_ask (fun vs H Q E h => ?_) (fun cdv A ou t H vs Q E hG hr h => ?_)
  · obtain ⟨_, _, _, _, _, _, rfl, _⟩ := h; rfl
  have nd := sc_HiddenScript_ask.nd
  obtain ⟨x, a, l, n, ⟨qn, cs⟩, ns, rfl, ⟨⟨dx, ts, hx, hl, hC⟩, hF, hp⟩, hA, hlen, q⟩ := h
  refine ⟨_, (pss_cons (ps_if (pt_cmpR op_ne (pe_callB (lenK K) (by rfl) T.m_len PySem.boot_len (pa_cons (pv 1) pa_nil)) (pe_fldK K (pv 0)) (nomark _))
        (pss_one (ps_raiseV rfl (L2N.takes_of rfl rfl rfl rfl) T.UnequalSizes_E (ini_UnequalSizes T) (hr.mono (by decide)) T.UnequalSizes_i_b (by rfl) (pa_cons pe_non pa_nil)))
        pss_nil)
      (pss_cons (sset 2 nd (pe_call (okp_sort_stretches T) (hr.mono (by decide)) (by rfl) T.sort_stretches_g T.sort_stretches_F.kp T.sort_stretches_b .nil pass0 (pa_cons (pv 1) (pa_cons (pe_fldK K (pv 0)) pa_nil))))
      (pss_cons (ps_fldaugK K (pv 0) pe_int in_add)
      (pss_one (ps_ret (pv 2)))))), ?_⟩
  fail "ww"
  refine ⟨x, T.HiddenScript_a, dx, _, _, rfl, hx, T.HiddenScript_cl, T.HiddenScript_n_size, hidF_size n l qn, ?_⟩
  rw [List.length_map]
  fail "ww"
  rw [decide_eq_false (show ¬ ((ns.length : Nat) : Int) = (n : Int) by omega)]
  fail "ww"
  exact fun d hd => q _ d (Same.refl _) hd
def sp_check_sized_script (K : PySem.W.Frag) : Sp := fun vs H Q _ => ∃ (n : Nat) (b : Addr) (ts : List Addr) (cs : List Cmd), vs = [.int n, .ref b] ∧ 1 ≤ n ∧ SqL K H b (ts.map V.ref) ∧ Cm H ts cs ∧ Fits n cs ∧ ∀ H', Same H H' → Q .non H'
theorem okp_check_sized_script (T : Txt K mg) : FnOk P w K mg base CX0 4 T.check_sized_script_a T.check_sized_script_d ["size", "commands"] (sp_check_sized_script K) := by
  refine T.check_sized_script_F.ok sc_check_sized_script (fun vs H Q E h => ?_) (fun cdv A ou t H vs Q E hr h => ?_)
  · obtain ⟨_, _, _, _, rfl, _⟩ := h; rfl
  have nd := sc_check_sized_script.nd
  obtain ⟨n, b, ts, cs, rfl, hn, hS, hC, hF, q⟩ := h
  refine ⟨_, (pss_cons (ps_expr (pe_call (okp_check_size T) (hr.mono (by decide)) (by rfl) T.check_size_g T.check_size_F.kp T.check_size_b .nil pass0 (pa_cons (pv 0) pa_nil)))
      (pss_one (ps_expr (pe_call (okp_check_script T) (hr.mono (by decide)) (by rfl) T.check_script_g T.check_script_F.kp T.check_script_b .nil pass0 (pa_cons (pv 0) (pa_cons (pv 1) pa_nil)))))), ?_⟩
  fail "g"
  refine ⟨n, rfl, hn, ?_⟩
  fail "g"
  refine ⟨n, b, ts, cs, rfl, hS, hC, hF, fun H' s => ?_⟩
  fail "g"
  exact q _ s
theorem ok_check_sized_script (T : Txt K mg) : FnG P w K mg base CX0 4 T.check_sized_script_a T.check_sized_script_d ["size", "commands"] (sp_check_sized_script K) := .of (okp_check_sized_script T)
def spx_check_sized_script (K : PySem.W.Frag) (T : Txt K mg) : Sp := fun vs H Q E => ∃ (n : Int) (b : Addr) (ts : List Addr) (ws : List Pr) (cy : Addr × V), vs = [.int n, .ref b] ∧ SqL K H b (ts.map V.ref) ∧ Cw H ts ws ∧ BadRun T n ws cy.1 cy.2 ∧ Err H E cy.1 cy.2
theorem okx_check_sized_script (T : Txt K mg) : FnG P w K mg base (L2N.CX P w) 4 T.check_sized_script_a T.check_sized_script_d ["size", "commands"] (spx_check_sized_script K T) := by
  refine okX T.check_sized_script_F sc_check_sized_script (fun vs H Q E h => ?_) (fun cdv A ou t H vs Q E hG hr h => ?_)
  · obtain ⟨_, _, _, _, _, rfl, _⟩ := h; rfl
  have nd := sc_check_sized_script.nd
  obtain ⟨n, b, ts, ws, ⟨c, y⟩, rfl, hS, hC, bd, q⟩ := h
  refine ⟨_, (pss_cons (ps_expr (pe_callX ((ok_check_size T).lift.or (okx_check_size T)) hG (hr.mono (by decide)) (by rfl) T.check_size_g T.check_size_F.kp T.check_size_b (L2N.takes_of rfl rfl rfl rfl) (pa_cons (pv 0) pa_nil)))
      (pss_one (ps_expr (pe_callX ((ok_check_script T).lift.or (okx_check_script T)) hG (hr.mono (by decide)) (by rfl) T.check_script_g T.check_script_F.kp T.check_script_b (L2N.takes_of rfl rfl rfl rfl) (pa_cons (pv 0) (pa_cons (pv 1) pa_nil)))))), ?_⟩
  fail "ww"
  rcases bd with ⟨hn, e1, e2⟩ | ⟨hn, i, hi, e1, e2⟩
  · obtain rfl : c = _ := e1
    obtain rfl : y = _ := e2
    exact .inr ⟨n, rfl, hn, q⟩
  · obtain rfl : c = _ := e1
    obtain rfl : y = _ := e2
    obtain ⟨m, rfl⟩ := Int.eq_ofNat_of_zero_le (show 0 ≤ n by omega)
    refine .inl ⟨m, rfl, by omega, ?_⟩
    fail "ww"
    exact .inr ⟨_, b, ts, ws, i, rfl, hS, hC, hi, q⟩
def sp_law_asked (K : PySem.W.Frag) (T : Txt K mg) : Sp := fun vs H Q _ => ∃ (x a l : Addr) (n : Nat) (cs : List Cmd) (ns : List Int), vs = [.ref x, .ref a] ∧ Hid H T.HiddenScript_a x l n cs 0 ∧ n ≤ 1000 ∧ H a = some (.lst (ns.map V.int)) ∧
  ∀ (H' : Hp) (v : V), (∀ c o, H c = some o → c ≠ x → H' c = some o) → Hid H' T.HiddenScript_a x l n cs (if ns.length = n then 1 else 0) → TwV H H' v (if ns.length = n then none else some ("unequal", none)) → Q v H'
theorem ok_law_asked (T : Txt K mg) : FnG P w K mg base CX0 4 T.law_asked_a T.law_asked_d ["hidden", "cells"] (sp_law_asked K T) := by
  refine okG T.law_asked_F sc_law_asked (fun vs H Q E h => ?_) (fun cdv A ou t H vs Q E hG hr h => ?_)
  · obtain ⟨_, _, _, _, _, _, rfl, _⟩ := h; rfl
  have nd := sc_law_asked.nd
  obtain ⟨x, a, l, n, cs, ns, rfl, hid, hn, hA, k⟩ := h
  refine ⟨_, (pss_cons (L2N.ps_try_as (i := 2) rfl rfl nd rfl rfl ⟨rfl, by decide, .inl T.SortError_g⟩ takesN0 (fun W pn xe tk po => (pss_one (ps_expr (pe_methXK0 (pv 0) T.HiddenScript_cl T.HiddenScript_ask_M ((ok_HiddenScript_ask T).lift.or (okx_HiddenScript_ask T)) hG (hr.mono (by decide)) T.k_HiddenScript_ask_row tk (pk_cons (pv 1) pk_nil)))))
        (fun a oe cls d pn hz hf => (pss_one (ps_ret (pe_tup (pa_cons (pe_callES (okE_law_kind T) hz hf hG (hr.mono (by decide)) (by rfl) T.law_kind_g T.law_kind_F.kp T.law_kind_b (pa_cons (pv 2) pa_nil)) (pa_cons (pe_xfS hz hf (pv 2)) pa_nil)))))))
      (pss_one (ps_ret pe_non))), ?_⟩
  obtain ⟨⟨dx, ts, hx, hl, hC⟩, hF, hp⟩ := id hid
  fail "ww"
  refine ⟨x, dx, _, rfl, hx, hidF_ask n l _, ?_⟩
  fail "ww"
  by_cases e : ns.length = n
  · rw [if_pos e, if_pos e] at k
    refine .inl ⟨x, a, l, n, 0, cs, ns, rfl, hid, hA, e, hn, fun H1 p v1 hid1 _ _ _ => ?_⟩
    fail "ww"
    exact k _ _ v1 hid1 rfl
  · rw [if_neg e, if_neg e] at k
    refine .inr ⟨x, a, l, n, (0, cs), ns, rfl, hid, hA, e, fun H1 d s1 hd1 => ?_⟩
    refine ⟨true, T.UnequalSizes_E.te, fun _ x hx => ?_, fun z => by cases z⟩
    fail "ww"
    refine ⟨T.UnequalSizes_a, d, 2, .non, rfl, rfl, rfl, upd_same, kd_unequal T, fun H2 s2 => ?_⟩
    fail "ww"
    refine ⟨rfl, T.UnequalSizes_a, d, _, .non, rfl, rfl, (kd_unequal T).xf, (kd_unequal T).no, s2 _ _ upd_same, rfl, ?_⟩
    fail "ww"
    refine new_ fun p H3 n3 s3 h3 => ?_
    have s0 := (s1.trans (same_new hd1)).trans s2
    have s03 := s0.trans s3
    exact k _ _ (fun c o e _ => s03 _ _ e) (hid.same s03) ⟨p, rfl, s0.free n3, h3⟩
theorem Cw.put {H : Hp} {ts : List Addr} {ws : List Pr} {p : Addr} {xs : List V} {o : HO} (h : Cw H ts ws) (hp : H p = some (.lst xs)) : Cw (upd H p o) ts ws :=
  ⟨h.len, fun i t e => let ⟨c, e1, e2⟩ := h.at_ i t e; ⟨c, e1, upd_to (ne_of e2 hp (by intro z; cases z)) e2⟩⟩
theorem Cw.sy {H H' : Hp} {ts : List Addr} {ws : List Pr} {r g : Addr} {m : Nat} (h : Cw H ts ws) (hR : Bag H r g m) (s : Sy r g H H') : Cw H' ts ws := by
  obtain ⟨gs, l, t, b, hr, hg, _⟩ := hR
  exact ⟨h.len, fun i t e => let ⟨c, e1, e2⟩ := h.at_ i t e; ⟨c, e1, s _ _ (ne_of e2 hr (by intro z; cases z)) (ne_of e2 hg (by intro z; cases z)) e2⟩⟩
theorem Cw.set {H : Hp} {ts : List Addr} {ws : List Pr} (h : Cw H ts ws) {t : Addr} {c : Pr} (ht : H t = some (.tup [.int c.1, .int c.2])) (j : Nat) : Cw H (ts.set j t) (ws.set j c) :=
  ⟨by rw [List.length_set, List.length_set, h.len], fun i u e => by
    by_cases hij : j = i
    · subst hij
      have hl : j < ts.length := by
        have := (List.getElem?_eq_some_iff.mp e).1
        rwa [List.length_set] at this
      rw [List.getElem?_set_self hl] at e
      cases e
      exact ⟨c, List.getElem?_set_self (by rw [← h.len]; exact hl), ht⟩
    · rw [List.getElem?_set_ne hij] at e
      obtain ⟨d, e1, e2⟩ := h.at_ i u e
      exact ⟨d, by rw [List.getElem?_set_ne hij]; exact e1, e2⟩⟩
theorem Bag.neo {H : Hp} {r g x C dx : Addr} {fs : List (Str × V)} {m : Nat} (h : Bag H r g m) (hx : H x = some (.ins C dx fs)) : x ≠ r ∧ x ≠ g := by
  obtain ⟨gs, l, t, b, h1, h2, _⟩ := h
  exact ⟨ne_of hx h1 (by intro z; cases z), ne_of hx h2 (by intro z; cases z)⟩
theorem Hid.sy {H H' : Hp} {C x l r g : Addr} {n q m : Nat} {cs : List Cmd} (h : Hid H C x l n cs q) (hR : Bag H r g m) (hl : l ≠ r ∧ l ≠ g) (s : Sy r g H H') : Hid H' C x l n cs q := by
  obtain ⟨⟨dx, ts, h1, h2, h3⟩, h4, h5⟩ := h
  have hx := hR.neo h1
  exact ⟨⟨dx, ts, s _ _ hx.1 hx.2 h1, s _ _ hl.1 hl.2 h2, h3.sy hR s⟩, h4, h5⟩
def sp_HiddenScript_init (K : PySem.W.Frag) (T : Txt K mg) : Sp := fun vs H Q _ => ∃ (x dx : Addr) (n : Nat) (b : Addr) (tc : List Addr × List Cmd), vs = [.ref x, .int n, .ref b] ∧ H x = some (.ins T.HiddenScript_a dx []) ∧ 1 ≤ n ∧ n ≤ 1000 ∧ H b = some (.lst (tc.1.map V.ref)) ∧ Cm H tc.1 tc.2 ∧ Fits n tc.2 ∧
  ∀ (H' : Hp) (l : Addr), (∀ c o, H c = some o → c ≠ x → H' c = some o) → H l = none → Hid H' T.HiddenScript_a x l n tc.2 0 → Q .non H'
theorem okp_HiddenScript_init (T : Txt K mg) : FnOk P w K mg base CX0 5 T.HiddenScript_init_a T.HiddenScript_init_d ["self", "size", "commands"] (sp_HiddenScript_init K T) := by
  refine T.HiddenScript_init_F.ok sc_HiddenScript_init (fun vs H Q E h => ?_) (fun cdv A ou t H vs Q E hr h => ?_)
  · obtain ⟨_, _, _, _, _, rfl, _⟩ := h; rfl
  have nd := sc_HiddenScript_init.nd
  obtain ⟨x, dx, n, b, ⟨ts, cs⟩, rfl, hx, hn, hn2, hB, hC, hF, k⟩ := h
  refine ⟨_, (pss_cons (ps_expr (pe_call (okp_check_sized_script T) (hr.mono (by decide)) (by rfl) T.check_sized_script_g T.check_sized_script_F.kp T.check_sized_script_b .nil pass0 (pa_cons (pv 1) (pa_cons (pv 2) pa_nil))))
      (pss_cons (ps_fldK K (pv 0) (pv 1))
      (pss_cons (ps_fldK K (pv 0) (pe_callTy (listK K) (by rfl) T.m_list (by decide +kernel) (pa_cons (pv 2) pa_nil)))
      (pss_one (ps_fldK K (pv 0) pe_int))))), ?_⟩
  fail "ww"
  refine ⟨n, b, ts, cs, rfl, hn, sq hB, hC, hF, fun H1 s1 => ?_⟩
  fail "ww"
  refine ⟨x, T.HiddenScript_a, dx, _, rfl, s1 _ _ hx, T.HiddenScript_cl, T.HiddenScript_n_size, by decide, ?_⟩
  have s2 : Sx x H (upd H1 x (.ins T.HiddenScript_a dx (putF "_size" (.int (n : Int)) []))) := (Sx.refl.same s1).trans Sx.put
  have hx2 := upd_same (H := H1) (a := x) (o := .ins T.HiddenScript_a dx (putF "_size" (.int (n : Int)) []))
  have hbx : b ≠ x := ne_of hB hx (by intro z; cases z)
  have hB2 := s2 _ _ hbx hB
  have hC2 := hC.obj hx s2
  generalize upd H1 x (.ins T.HiddenScript_a dx (putF "_size" (.int (n : Int)) [])) = H2 at *
  fail "ww"
  refine new_ fun l H3 nl s3 hl => ?_
  fail "ww"
  have hlx : l ≠ x := (ne_of_none hx2 nl).symm
  have nl0 : H l = none := s2.free hx2 nl
  refine ⟨x, T.HiddenScript_a, dx, _, rfl, s3 _ _ hx2, T.HiddenScript_cl, T.HiddenScript_n_commands, by simp [putF], ?_⟩
  have s4 : Sx x H (upd H3 x (.ins T.HiddenScript_a dx (putF "_commands" (.ref l) (putF "_size" (.int (n : Int)) [])))) := (s2.same s3).trans Sx.put
  have hl4 := upd_to (o := .ins T.HiddenScript_a dx (putF "_commands" (.ref l) (putF "_size" (.int (n : Int)) []))) hlx hl
  have hx4 := upd_same (H := H3) (a := x) (o := .ins T.HiddenScript_a dx (putF "_commands" (.ref l) (putF "_size" (.int (n : Int)) [])))
  generalize upd H3 x (.ins T.HiddenScript_a dx (putF "_commands" (.ref l) (putF "_size" (.int (n : Int)) []))) = H4 at *
  fail "ww"
  refine ⟨x, T.HiddenScript_a, dx, _, rfl, hx4, T.HiddenScript_cl, T.HiddenScript_n_questions, ?_, ?_⟩
  · have : (putF ("_commands" : Str) (.ref l) (putF ("_size" : Str) (.int (n : Int)) [])).length ≤ 2 := by
      simp only [putF]
      split <;> simp
    omega
  rw [hidF_made]
  fail "ww"
  have s5 : Sx x H (upd H4 x (.ins T.HiddenScript_a dx (hidF n l 0))) := s4.trans Sx.put
  exact k _ l (fun c o e ne => s5 c o ne e) nl0 ⟨⟨dx, ts, upd_same, upd_to hlx hl4, hC.obj hx s5⟩, hF, hn⟩
theorem ok_HiddenScript_init (T : Txt K mg) : FnG P w K mg base CX0 5 T.HiddenScript_init_a T.HiddenScript_init_d ["self", "size", "commands"] (sp_HiddenScript_init K T) := .of (okp_HiddenScript_init T)
def spx_HiddenScript_init (K : PySem.W.Frag) (T : Txt K mg) : Sp := fun vs H Q E => ∃ (x b : Addr) (n : Int) (tw : List Addr × List Pr) (cy : Addr × V), vs = [.ref x, .int n, .ref b] ∧ SqL K H b (tw.1.map V.ref) ∧ Cw H tw.1 tw.2 ∧ BadRun T n tw.2 cy.1 cy.2 ∧ Err H E cy.1 cy.2
theorem okx_HiddenScript_init (T : Txt K mg) : FnG P w K mg base (L2N.CX P w) 5 T.HiddenScript_init_a T.HiddenScript_init_d ["self", "size", "commands"] (spx_HiddenScript_init K T) := by
  refine okX T.HiddenScript_init_F sc_HiddenScript_init (fun vs H Q E h => ?_) (fun cdv A ou t H vs Q E hG hr h => ?_)
  · obtain ⟨_, _, _, _, _, rfl, _⟩ := h; rfl
  have nd := sc_HiddenScript_init.nd
  obtain ⟨x, b, n, ⟨ts, ws⟩, cy, rfl, hB, hC, bd, q⟩ := h
  refine ⟨_, (pss_cons (ps_expr (pe_callX ((ok_check_sized_script T).lift.or (okx_check_sized_script T)) hG (hr.mono (by decide)) (by rfl) T.check_sized_script_g T.check_sized_script_F.kp T.check_sized_script_b (L2N.takes_of rfl rfl rfl rfl) (pa_cons (pv 1) (pa_cons (pv 2) pa_nil))))
      (pss_cons (ps_fldK K (pv 0) (pv 1))
      (pss_cons (ps_fldK K (pv 0) (pe_callTy (listK K) (by rfl) T.m_list (by decide +kernel) (pa_cons (pv 2) pa_nil)))
      (pss_one (ps_fldK K (pv 0) pe_int))))), ?_⟩
  fail "ww"
  exact .inr ⟨n, b, ts, ws, cy, rfl, hB, hC, bd, q⟩
def sp_law_made (K : PySem.W.Frag) : Sp := fun vs H Q _ => ∃ (n : Int) (b : Addr) (ts : List Addr) (ws : List Pr), vs = [.int n, .ref b] ∧ n ≤ 1000 ∧ H b = some (.lst (ts.map V.ref)) ∧ Cw H ts ws ∧
  ∀ (H' : Hp) (v : V), Same H H' → TwV H H' v (dueM n ws) → Q v H'
theorem ok_law_made (T : Txt K mg) : FnG P w K mg base CX0 7 T.law_made_a T.law_made_d ["many", "moves"] (sp_law_made K) := by
  refine okG T.law_made_F sc_law_made (fun vs H Q E h => ?_) (fun cdv A ou t H vs Q E hG hr h => ?_)
  · obtain ⟨_, _, _, _, rfl, _⟩ := h; rfl
  have nd := sc_law_made.nd
  obtain ⟨n, b, ts, ws, rfl, hn, hB, hC, k⟩ := h
  refine ⟨_, (pss_cons (L2N.ps_try_as (i := 2) rfl rfl nd rfl rfl ⟨rfl, by decide, .inl T.SortError_g⟩ takesN0 (fun W pn xe tk po => (pss_one (ps_expr (pe_makeXK0 T.HiddenScript_mk ((ok_HiddenScript_init T).lift.or (okx_HiddenScript_init T)) hG (hr.mono (by decide)) (by rfl) T.HiddenScript_g T.k_HiddenScript_init_commands_size tk (pk_cons (pv 1) (pk_cons (pv 0) pk_nil))))))
        (fun a oe cls d pn hz hf => (pss_one (ps_ret (pe_tup (pa_cons (pe_callES (okE_law_kind T) hz hf hG (hr.mono (by decide)) (by rfl) T.law_kind_g T.law_kind_F.kp T.law_kind_b (pa_cons (pv 2) pa_nil)) (pa_cons (pe_xfS hz hf (pv 2)) pa_nil)))))))
      (pss_one (ps_ret pe_non))), ?_⟩
  fail "ww"
  intro x dx nx nd1 ne
  have u1 : Same H (upd (upd H dx (.own x)) x (.ins T.HiddenScript_a dx [])) := fun b o e => by
    rw [upd_ne (ne_of_none e nx), upd_ne (ne_of_none e nd1)]; exact e
  have hx : upd (upd H dx (.own x)) x (.ins T.HiddenScript_a dx []) x = some (.ins T.HiddenScript_a dx []) := upd_same
  generalize upd (upd H dx (.own x)) x (.ins T.HiddenScript_a dx []) = H1 at u1 hx ⊢
  have fin : ∀ (c : Addr) (j : Nat) (i : Int), PySem.W.exmOne K (.ref c) (.ref T.SortError_a) = some true → Kd3 K T c j → dueM n ws = some (wordsD.getD j "", some i) → Err H1 (fun cls d H' => wAs K (.ref T.SortError_a) 2 (fun a cls d => tRet (tTup (tCons (tCallE (spe_law_kind K T a cls d) (tCons (tVar 2) tNil)) (tCons (tXfA K a cls d "value" (tVar 2)) tNil)))) (fun _ _ _ _ => False) { nx := tRet (tC .non) { nx := fun _ H' => Q V.non H', rt := Q }, rt := Q } cls d (L2.start ["many", "moves", "e"] [V.int n, V.ref b]) H') c (.int i) := fun c j i te kd e H' d s hd' => by
    refine ⟨true, te, fun _ x hx => ?_, fun z => by cases z⟩
    fail "ww"
    refine ⟨c, d, j, .int i, rfl, rfl, rfl, upd_same, kd, fun H2 s2 => ?_⟩
    fail "ww"
    refine ⟨rfl, c, d, _, .int i, rfl, rfl, kd.xf, kd.no, s2 _ _ upd_same, rfl, ?_⟩
    fail "ww"
    refine new_ fun p H3 n3 s3 h3 => ?_
    have s0 := ((u1.trans s).trans (same_new hd')).trans s2
    refine k _ _ (s0.trans s3) ?_
    rw [e]
    exact ⟨p, rfl, s0.free n3, h3⟩
  by_cases hm : n < 1
  · exact .inr ⟨x, b, n, (ts, ws), (_, _), rfl, sq (u1 _ _ hB), hC.same u1, .inl ⟨hm, rfl, rfl⟩, fin _ _ _ T.InvalidSize_E.te (kd_size T) (by unfold dueM; rw [if_pos hm]; rfl)⟩
  · rcases first_cases (wrW n ws) ws.length with ⟨i, e, _⟩ | ⟨e, _⟩
    · have e : eW n ws = some i := e
      exact .inr ⟨x, b, n, (ts, ws), (_, _), rfl, sq (u1 _ _ hB), hC.same u1, .inr ⟨by omega, i, e, rfl, rfl⟩, fin _ _ _ T.InvalidCommand_E.te (kd_command T) (by unfold dueM dueC; rw [if_neg hm, e]; rfl)⟩
    · have e : eW n ws = none := e
      obtain ⟨r, rfl⟩ := Int.eq_ofNat_of_zero_le (show 0 ≤ n by omega)
      obtain ⟨cs, hf, ew⟩ := fits_cmds (n := r) (eW_fits e)
      refine .inl ⟨x, dx, r, b, (ts, cs), rfl, hx, by omega, by omega, u1 _ _ hB, ((ew ▸ hC).toCm).same u1, hf, fun H2 l v2 _ _ => ⟨rfl, ?_⟩⟩
      fail "ww"
      refine k _ _ (fun c o e => v2 c o (u1 _ _ e) (ne_of_none e nx)) ?_
      have : dueM (r : Int) ws = none := by unfold dueM dueC; rw [if_neg hm, e]
      rw [this]
      rfl
def sp_law (K : PySem.W.Frag) : Sp := fun vs H Q _ => ∃ (a : Addr) (ns : List Int), vs = [.ref a] ∧ SqL K H a (ns.map V.int) ∧ ns.length ≤ 63 ∧ ∀ H', Q (.bl true) H'
theorem ok_law (T : Txt K mg) : FnG P w K mg base CX0 8 T.law_a T.law_d ["script"] (sp_law K) := by
  refine okG T.law_F sc_law (fun vs H Q E h => ?_) (fun cdv A ou t H vs Q E hG hr h => ?_)
  · obtain ⟨_, _, rfl, _⟩ := h; rfl
  have nd := sc_law.nd
  obtain ⟨a, ns, rfl, hS, hlen, q⟩ := h
  refine ⟨_, (pss_cons (sset 1 nd (pe_callG (ok_law_bag T) hG (hr.mono (by decide)) (by rfl) T.law_bag_g T.law_bag_F.kp T.law_bag_b .nil pass0 (pa_cons (pv 0) pa_nil)))
      (pss_cons (ps_for PassesOwn.never rfl (pi_range1 (by rfl) T.m_range (pa_cons (pe_op op_add pe_int (pe_callB (call_min2 rfl) (by rfl) T.m_min (by decide +kernel) (pa_cons pe_int (pa_cons (pe_callB (lenK K) (by rfl) T.m_len PySem.boot_len (pa_cons (pv 0) pa_nil)) pa_nil)))) pa_nil)) (gset 2 nd)
        (pss_cons (sset 3 nd (pe_op op_sub (pe_callG (ok_law_draw T) hG (hr.mono (by decide)) (by rfl) T.law_draw_g T.law_draw_F.kp T.law_draw_b .nil pass0 (pa_cons (pv 1) (pa_cons pe_int pa_nil))) pe_int))
      (pss_cons (sset 4 nd (pe_callG (ok_law_commands T) hG (hr.mono (by decide)) (by rfl) T.law_commands_g T.law_commands_F.kp T.law_commands_b .nil pass0 (pa_cons (pv 1) (pa_cons (pe_callB (call_max2 rfl) (by rfl) T.m_max (by decide +kernel) (pa_cons pe_int (pa_cons (pv 3) pa_nil))) (pa_cons pe_int pa_nil)))))
      (pss_cons (ps_for PassesOwn.never rfl (pi_range1 (by rfl) T.m_range (pa_cons (pe_callB (lenK K) (by rfl) T.m_len PySem.boot_len (pa_cons (pv 4) pa_nil)) pa_nil)) (gset 5 nd)
        (pss_one (ps_if (pt_cmpR op_eq (pe_callG (ok_law_draw T) hG (hr.mono (by decide)) (by rfl) T.law_draw_g T.law_draw_F.kp T.law_draw_b .nil pass0 (pa_cons (pv 1) (pa_cons pe_int pa_nil))) pe_int (nomark _))
        (pss_one (ps_asg (pe_ix (ix_tupK K) (pe_tup (pa_cons (pe_tup (pa_cons pe_int (pa_cons pe_int pa_nil))) (pa_cons (pe_tup (pa_cons pe_int (pa_cons pe_int pa_nil))) (pa_cons (pe_tup (pa_cons pe_int (pa_cons (pe_op op_add (pv 3) pe_int) pa_nil))) (pa_cons (pe_tup (pa_cons (pe_un un_neg pe_int) (pa_cons (pe_un un_neg pe_int) pa_nil))) pa_nil))))) (pe_callG (ok_law_draw T) hG (hr.mono (by decide)) (by rfl) T.law_draw_g T.law_draw_F.kp T.law_draw_b .nil pass0 (pa_cons (pv 1) (pa_cons pe_int pa_nil))) (fun _ _ => rfl)) (pg_sub (pv 4) (pv 5) set_list)))
        pss_nil)))
      (pss_cons (ps_setLc (i := 6) (hy := rfl) (hyl := rfl) (hsw := sw_true rfl rfl rfl (by decide +kernel)) (own := [("spot", 5)]) (hc := rfl) (hN := nd) (hi := (pi_range1 (by rfl) T.m_range (pa_cons (pe_callB (lenK K) (by rfl) T.m_len PySem.boot_len (pa_cons (pv 4) pa_nil)) pa_nil))) (ok := blkOk_by (by rfl)) (hg := fun _ _ _ _ _ => (gset 5 nd)) (ht := (fun _ _ _ _ _ => pts_one (pt_not (pt_chain3 op_le op_le op_le pe_int (pe_ix (ix_tupK K) (pe_ix (ix_listK K) (pv 4) (pv 5) (fun _ _ => rfl)) pe_int (fun _ _ => rfl)) (pe_ix (ix_tupK K) (pe_ix (ix_listK K) (pv 4) (pv 5) (fun _ _ => rfl)) pe_int (fun _ _ => rfl)) (pv 3))))) (he := fun _ _ _ _ _ => (pv 5)))
      (pss_cons (sset 7 nd pe_non)
      (C8.pss_cut (ps_if (pt_cmpR op_gt (pe_callB (lenK K) (by rfl) T.m_len PySem.boot_len (pa_cons (pv 6) pa_nil)) pe_int (nomark _))
        (pss_one (sset 7 nd (pe_tup (pa_cons pe_str (pa_cons (pe_ix (ix_listK K) (pv 6) pe_int (fun _ _ => rfl)) pa_nil)))))
        pss_nil)
      (C8.pss_cut (ps_if (pt_cmpR op_lt (pv 3) pe_int (nomark _))
        (pss_one (sset 7 nd (pe_tup (pa_cons pe_str (pa_cons (pv 3) pa_nil)))))
        pss_nil)
      (pss_cons (ps_if (pt_cmpR (neDK K hr.units) (pe_callG (ok_law_made T) hG (hr.mono (by decide)) (by rfl) T.law_made_g T.law_made_F.kp T.law_made_b .nil pass0 (pa_cons (pv 3) (pa_cons (pv 4) pa_nil))) (pv 7) (nomark _))
        (pss_one (ps_ret pe_bl))
        pss_nil)
      (pss_one (ps_if (pt_cmpR op_isN (pv 7) pe_non (nomark _))
        (pss_cons (sset 8 nd (pe_make T.HiddenScript_mk (okp_HiddenScript_init T) (hr.mono (by decide)) (by rfl) T.HiddenScript_g T.HiddenScript_init_b .nil pass0 (pa_cons (pv 3) (pa_cons (pv 4) pa_nil))))
      (pss_cons (sset 9 nd (pe_callG (ok_law_draw T) hG (hr.mono (by decide)) (by rfl) T.law_draw_g T.law_draw_F.kp T.law_draw_b .nil pass0 (pa_cons (pv 1) (pa_cons pe_int pa_nil))))
      (pss_cons (ps_setLc (i := 10) (hy := rfl) (hyl := rfl) (hsw := sw_true rfl rfl rfl (by decide +kernel)) (own := [("place", 12)]) (hc := rfl) (hN := nd) (hi := (pi_range1 (by rfl) T.m_range (pa_cons (pv 9) pa_nil))) (ok := blkOk_by (by rfl)) (hg := fun _ _ _ _ _ => (gset 12 nd)) (ht := (fun _ _ _ _ _ => pts_nil)) (he := fun _ _ _ _ _ => (pe_callG (ok_law_draw T) hG (hr.mono (by decide)) (by rfl) T.law_draw_g T.law_draw_F.kp T.law_draw_b .nil pass0 (pa_cons (pv 1) (pa_cons pe_int pa_nil)))))
      (pss_cons (sset 11 nd pe_non)
      (pss_cons (ps_if (pt_cmpR op_ne (pv 9) (pv 3) (nomark _))
        (pss_one (sset 11 nd (pe_tup (pa_cons pe_str (pa_cons pe_non pa_nil)))))
        pss_nil)
      (pss_one (ps_if (PW.pt (pw_or (pt_cmpR (neDK K hr.units) (pe_callG (ok_law_asked T) hG (hr.mono (by decide)) (by rfl) T.law_asked_g T.law_asked_F.kp T.law_asked_b .nil pass0 (pa_cons (pv 8) (pa_cons (pv 10) pa_nil))) (pv 11) (nomark _)) (pw_or1 (pt_cmpR op_ne (pe_prop (pv 8) T.HiddenScript_cl T.HiddenScript_questions_P (okp_HiddenScript_questions T) (hr.mono (by decide)) T.HiddenScript_questions_b .nil pass0 rfl) (pe_callTy call_int1 (by rfl) T.m_int (by decide +kernel) (pa_cons (pe_cmpR op_eq (pv 9) (pv 3) (nomark _)) pa_nil)) (nomark _)))))
        (pss_one (ps_ret pe_bl))
        pss_nil)))))))
        pss_nil)))))))))))
      (pss_one (ps_ret pe_bl)))), ?_⟩
  fail "ww"
  refine ⟨a, ns, rfl, hS, hlen, fun H1 r g s1 hr0 hg0 hR => ?_⟩
  fail "ww"
  rw [List.length_map]
  obtain ⟨n, hn, hn2⟩ : ∃ n : Nat, (8 + (if ((ns.length : Nat) : Int) < 16 then ((ns.length : Nat) : Int) else 16)) = (n : Int) ∧ n ≤ 24 := by
    split
    · exact ⟨8 + ns.length, by omega, by omega⟩
    · exact ⟨24, by omega, by omega⟩
  rw [hn]
  refine ⟨by omega, by omega, ?_⟩
  refine forF walk_range (fun i σ' H' => ∃ y2 y3 y4 y5 y6 y7 y8 y9 y10 y11 y12, σ' = [some (.ref a), some (.ref r), y2, y3, y4, y5, y6, y7, y8, y9, y10, y11, y12] ∧ Bag H' r g (100 * i))
    ⟨none, none, none, none, none, none, none, none, none, none, none, rfl, hR⟩ (fun _ _ _ _ _ => trivial) (fun i σ' H' hi p => ?_) (fun σ' H' p => ?_)
  · clear hR
    obtain ⟨y2, y3, y4, y5, y6, y7, y8, y9, y10, y11, y12, rfl, hR0⟩ := p
    have hi24 : i < 24 := by omega
    fail "ww"
    refine ⟨r, g, 8, _, rfl, hR0, by omega, by decide, by decide, fun H2 d0 hd00 hd01 s2 hR2 => ?_⟩
    fail "ww"
    obtain ⟨many, hmd, hm1, hm2⟩ : ∃ m : Int, d0 - 1 = m ∧ -1 ≤ m ∧ m ≤ 6 := ⟨_, rfl, by omega, by omega⟩
    rw [hmd]
    clear s2 hR0 hmd hd00 hd01
    fail "ww"
    obtain ⟨wide, hwd, hw1, hw2⟩ : ∃ w : Nat, (if many > 1 then many else 1) = (w : Int) ∧ 1 ≤ w ∧ w ≤ 6 := by
      split
      · exact ⟨many.toNat, by omega, by omega, by omega⟩
      · exact ⟨1, rfl, by decide, by decide⟩
    rw [hwd]
    fail "ww"
    refine ⟨r, g, wide, 4, _, rfl, hR2, hw1, by omega, by omega, by omega, fun H3 pm us ms s3 nm hR3 hM hMc hMf hml => ?_⟩
    have hmr := hR2.ner nm
    clear s3 nm hR2 hwd
    fail "ww"
    rw [List.length_map, hMc.len]
    refine ⟨by omega, by omega, ?_⟩
    refine forF walk_range (fun j σ' H' => ∃ y5 ts ws, σ' = [some (.ref a), some (.ref r), some (.int (0 + (i : Int))), some (.int many), some (.ref pm), y5, y6, y7, y8, y9, y10, y11, y12] ∧ Bag H' r g (100 * i + 1 + 1 + 5 * 4 + 2 * j) ∧ H' pm = some (.lst (ts.map V.ref)) ∧ Cw H' ts ws ∧ ws.length = ms.length)
      ⟨y5, us, ms.map toW, rfl, hR3, hM, hMc.toCw, by rw [List.length_map]⟩ (fun _ _ _ _ _ => trivial) (fun j σ' H4 hj p => ?_) (fun σ' H4 p => ?_)
    · clear hR3 hM hMc hMf y5
      obtain ⟨y5, ts, ws, rfl, hR, hP, hC, hwl⟩ := p
      rw [Int.toNat_natCast] at hj
      fail "ww"
      refine ⟨r, g, 6, _, rfl, hR, by omega, by decide, by decide, fun H5 e0 he0 he1 s5 hR5 => ?_⟩
      have hP5 := s5 _ _ hmr.1 hmr.2 hP
      have hC5 := hC.sy hR s5
      clear s5 hR hP hC
      fail "ww"
      refine r_dec (fun hz => ?_) (fun hz => ?_)
      · fail "ww"
        refine new_ fun t0 H6 n6 s6 g0 => ?_
        fail "ww"
        refine new_ fun t1 H7 n7 s7 g1 => ?_
        fail "ww"
        refine new_ fun t2 H8 n8 s8 g2 => ?_
        fail "ww"
        refine new_ fun t3 H9 n9 s9 g3 => ?_
        fail "ww"
        refine new_ fun tt H10 n10 s10 gt => ?_
        fail "ww"
        have s510 := s6.trans (s7.trans (s8.trans (s9.trans s10)))
        have h0 := s10 _ _ (s9 _ _ (s8 _ _ (s7 _ _ g0)))
        have h1 := s10 _ _ (s9 _ _ (s8 _ _ g1))
        have h2 := s10 _ _ (s9 _ _ g2)
        have h3 := s10 _ _ g3
        have hP10 := s510 _ _ hP5
        have hC10 := hC5.same s510
        have hR10 := hR5.same s510
        have htr := (hR5.same (s6.trans (s7.trans (s8.trans s9)))).ner n10
        clear s6 s7 s8 s9 s10 s510 g0 g1 g2 g3 n6 n7 n8 n9 n10 hP5 hC5 hR5
        refine ⟨r, g, 4, _, rfl, hR10, by omega, by decide, by decide, fun H11 e1 he10 he11 s11 hR11 => ?_⟩
        obtain ⟨t, c, hat, ht⟩ : ∃ (t : Addr) (c : Pr), atI [V.ref t0, V.ref t1, V.ref t2, V.ref t3] e1 = some (.ref t) ∧ H10 t = some (.tup [.int c.1, .int c.2]) := by
          have : e1 = 0 ∨ e1 = 1 ∨ e1 = 2 ∨ e1 = 3 := by omega
          rcases this with e | e | e | e <;> subst e
          · exact ⟨t0, (0, 1), rfl, h0⟩
          · exact ⟨t1, (2, 1), rfl, h1⟩
          · exact ⟨t2, (1, many + 1), rfl, h2⟩
          · exact ⟨t3, (-1, -1), rfl, h3⟩
        refine r_ixT (sqT (s11 _ _ htr.1 htr.2 gt)) hat ?_
        have hC11 := hC10.sy hR10 s11
        have hP11 := s11 _ _ hmr.1 hmr.2 hP10
        have ht11 : H11 t = some (.tup [.int c.1, .int c.2]) := by
          have q : t ≠ r ∧ t ≠ g := by
            obtain ⟨gs, l, t', b, hr, hg, _⟩ := hR10
            exact ⟨ne_of ht hr (by intro z; cases z), ne_of ht hg (by intro z; cases z)⟩
          exact s11 _ _ q.1 q.2 ht
        clear h0 h1 h2 h3 hP10 hC10 hR10 s11 gt ht hat
        fail "ww"
        refine r_setL hP11 (n := j) (ix_of (by omega) (by rw [List.length_map, hC11.len]; omega)) ?_
        rw [← List.map_set]
        exact ⟨_, ts.set j t, ws.set j c, rfl, (hR11.other hmr).le (by omega), upd_same, (hC11.set ht11 j).put hP11, by rw [List.length_set]; exact hwl⟩
      · fail "ww"
        exact ⟨_, ts, ws, rfl, hR5.le (by omega), hP5, hC5, hwl⟩
    · clear hR3 hM hMc hMf y5
      obtain ⟨y5, ts, ws, rfl, hR, hP, hC, hwl⟩ := p
      rw [Int.toNat_natCast] at hR
      fail "ww"
      rw [List.length_map, hC.len]
      refine ⟨by omega, by omega, fun D nD => ?_⟩
      refine lc_it walk_range (fun j Hh => Same H4 Hh ∧ Hh D = some (.lst (((List.range j).filter (wrW many ws)).map fun (j : Nat) => V.int (j : Int)))) ⟨same_new nD, upd_same⟩ (fun _ _ _ _ => trivial) (fun j x Hh0 Hh hj pp z => ?_) (fun H5 pp => ?_)
      · obtain ⟨rfl, rfl⟩ := z
        rw [Int.toNat_natCast] at hj
        obtain ⟨t0, et, ht⟩ := hC.idx hj
        have hw := wrW_at (n := many) (ws := ws) (i := j) (List.getElem?_eq_getElem hj)
        rw [List.range_succ, List.filter_append, List.map_append]
        have ht1 := pp.1 _ _ ht
        have hP1 := pp.1 _ _ hP
        generalize ws[j] = c at *
        have len : ((List.range j).filter (wrW many ws)).length ≤ 100000 := Nat.le_trans (List.length_filter_le _ _) (by rw [List.length_range]; omega)
        have skip : FitW many c → Same H4 Hh ∧ Hh D = some (.lst ((((List.range j).filter (wrW many ws)).map fun (j : Nat) => V.int (j : Int)) ++ ((([j] : List Nat).filter (wrW many ws)).map fun (j : Nat) => V.int (j : Int)))) := fun g => by
          rw [List.filter_cons_of_neg (by rw [hw, decide_eq_true g]; decide), List.filter_nil, List.map_nil, List.append_nil]
          exact pp
        have take_ : ¬ FitW many c → ∃ l, Hh D = some (.lst l) ∧ l.length < sizeLine ∧ Same H4 (upd Hh D (.lst (l ++ [.int (j : Nat)]))) ∧
            (upd Hh D (.lst (l ++ [.int (j : Nat)]))) D = some (.lst ((((List.range j).filter (wrW many ws)).map fun (j : Nat) => V.int (j : Int)) ++ ((([j] : List Nat).filter (wrW many ws)).map fun (j : Nat) => V.int (j : Int)))) := fun g => by
          rw [List.filter_cons_of_pos (by rw [hw, decide_eq_false g]; decide)]
          exact lc_add pp (Same.refl _) nD rfl (by rw [List.length_map]; exact size_lt (by omega))
        unfold FitW at skip take_
        fail "ww"
        refine ⟨rfl, ?_⟩
        fail "ww"
        have hP2 : SqL K Hh pm (ts.map V.ref) := sq hP1
        have ix : atI (ts.map V.ref) (0 + (j : Int)) = some (.ref t0) := at_of (j := j) (by omega) (by rw [List.getElem?_map, et]; rfl)
        refine r_ixL hP2 ix ?_
        fail "ww"
        refine r_ixT (sqT ht1) (show atI _ (0 : Int) = some (V.int c.1) from rfl) ?_
        fail "ww"
        refine r_dec (fun g => ?_) (fun g => ?_)
        · fail "ww"
          refine r_ixL hP2 ix ?_
          fail "ww"
          refine r_ixT (sqT ht1) (show atI _ (1 : Int) = some (V.int c.2) from rfl) ?_
          fail "ww"
          refine r_dec (fun g2 => ?_) (fun g2 => ?_)
          · fail "ww"
            by_cases g3 : c.2 ≤ many
            · rw [decide_eq_true g3]
              fail "ww"
              exact skip ⟨g, g2, g3⟩
            · rw [decide_eq_false g3]
              fail "ww"
              simp only [Int.zero_add]
              exact take_ (fun z => g3 z.2.2)
          · fail "ww"
            simp only [Int.zero_add]
            exact take_ (fun z => g2 z.2.1)
        · fail "ww"
          simp only [Int.zero_add]
          exact take_ (fun z => g z.1)
      · obtain ⟨s5, hD⟩ := pp
        rw [Int.toNat_natCast] at hD
        have hR5 := hR.same s5
        have hP5 := s5 _ _ hP
        have hC5 := hC.same s5
        clear s5 hR hP hC nD
        fail "ww"
        refine r_cut (fun σ' H' => ∃ (v7 : V), σ' = [some (.ref a), some (.ref r), some (.int (0 + (i : Int))), some (.int many), some (.ref pm), y5, some (.ref D), some v7, y8, y9, y10, y11, y12] ∧ Same H5 H' ∧ TwS H' v7 (dueC many ws)) ?_ (fun σ' H6 p => ?_)
        · fail "ww"
          have eD : ((List.range ws.length).filter (wrW many ws)).map (fun (j : Nat) => V.int (j : Int)) = (((List.range ws.length).filter (wrW many ws)).map fun (j : Nat) => (j : Int)).map V.int := by rw [List.map_map]; rfl
          rcases first_cases (wrW many ws) ws.length with ⟨i0, e, _⟩ | ⟨e, hno⟩
          · have e' : eW many ws = some i0 := e
            rw [show dueC many ws = some (("command" : Str), some (i0 : Int)) by unfold dueC; rw [e']]
            unfold firstN at e
            obtain ⟨rr, er⟩ : ∃ r, (List.range ws.length).filter (wrW many ws) = i0 :: r := by
              cases g : (List.range ws.length).filter (wrW many ws) with
              | nil => rw [g] at e; cases e
              | cons x r => rw [g] at e; cases e; exact ⟨r, rfl⟩
            rw [er] at hD ⊢
            rw [decide_eq_true (by simp)]
            fail "ww"
            refine r_ixL (sq hD) (at_of (j := 0) rfl rfl) ?_
            fail "ww"
            refine new_ fun l1 H6 n6 s6 h6 => ?_
            exact ⟨_, rfl, s6, l1, rfl, h6⟩
          · have e' : eW many ws = none := e
            rw [show dueC many ws = none by unfold dueC; rw [e']]
            have er : (List.range ws.length).filter (wrW many ws) = [] := List.filter_eq_nil_iff.mpr fun j hj => by rw [hno j (List.mem_range.mp hj)]; decide
            rw [er, decide_eq_false (by simp)]
            fail "ww"
            exact ⟨Same.refl _, rfl⟩
        · obtain ⟨v7, rfl, s6, hv7⟩ := p
          refine r_cut (fun σ' H' => ∃ (v7 : V), σ' = [some (.ref a), some (.ref r), some (.int (0 + (i : Int))), some (.int many), some (.ref pm), y5, some (.ref D), some v7, y8, y9, y10, y11, y12] ∧ Same H5 H' ∧ TwS H' v7 (dueM many ws)) ?_ (fun σ' H7 p => ?_)
          · fail "ww"
            refine r_dec (fun g1 => ?_) (fun g1 => ?_)
            · fail "ww"
              refine new_ fun q G m e k => ?_
              refine ⟨_, rfl, s6.trans e, ?_⟩
              have : dueM many ws = some (("size" : Str), some many) := by unfold dueM; rw [if_pos g1]
              rw [this]
              exact ⟨q, rfl, k⟩
            · fail "ww"
              refine ⟨s6, ?_⟩
              have : dueM many ws = dueC many ws := by unfold dueM; rw [if_neg g1]
              rw [this]
              exact hv7
          · obtain ⟨w7, rfl, s7, hw7⟩ := p
            clear hv7 s6 v7
            fail "ww"
            refine ⟨many, pm, ts, ws, rfl, by omega, s7 _ _ hP5, hC5.same s7, fun H8 v8 s8 hv8 => ?_⟩
            fail "ww"
            refine r_neTw dueM_ok hv8.st (hw7.same s8) ?_
            fail "ww"
            refine ⟨rfl, ?_⟩
            fail "ww"
            have hw8 := hw7.same s8
            have hP8 := s8 _ _ (s7 _ _ hP5)
            have hC8 := (hC5.same s7).same s8
            have hR8 := (hR5.same s7).same s8
            clear hw7 s7 s8 hP5 hC5 hR5 hv8 hD
            cases hdm : dueM many ws with
            | some nd =>
              obtain ⟨nm, vi⟩ := nd
              rw [hdm] at hw8
              obtain ⟨q7, rfl, hq7⟩ := hw8
              rw [decide_eq_false (by intro z; cases z)]
              fail "ww"
              exact ⟨_, _, _, _, _, _, _, _, _, _, _, rfl, hR8.le (by omega)⟩
            | none =>
              rw [hdm] at hw8
              obtain rfl : w7 = .non := hw8
              have hm1 : 1 ≤ many := by
                apply Classical.byContradiction
                intro h
                unfold dueM at hdm
                rw [if_pos (by omega)] at hdm
                cases hdm
              have heW : eW many ws = none := by
                unfold dueM dueC at hdm
                rw [if_neg (by omega)] at hdm
                cases h : eW many ws with
                | none => rfl
                | some i => rw [h] at hdm; cases hdm
              obtain ⟨sz, rfl⟩ := Int.eq_ofNat_of_zero_le (show 0 ≤ many by omega)
              obtain ⟨cs, hf, ew⟩ := fits_cmds (n := sz) (eW_fits heW)
              have hCm : Cm H8 ts cs := (ew ▸ hC8).toCm
              rw [decide_eq_true rfl]
              fail "ww"
              intro x1 dx1 nx1 nd1 ne1
              have u1 : Same H8 (upd (upd H8 dx1 (.own x1)) x1 (.ins T.HiddenScript_a dx1 [])) := fun b o e => by
                rw [upd_ne (ne_of_none e nx1), upd_ne (ne_of_none e nd1)]; exact e
              refine ⟨x1, dx1, sz, pm, (ts, cs), rfl, upd_same, by omega, by omega, u1 _ _ hP8, hCm.same u1, hf, fun H10 l10 v10 nl10 hid10 => ⟨rfl, ?_⟩⟩
              have s10 : Same H8 H10 := fun b o e => v10 b o (u1 _ _ e) (ne_of_none e nx1)
              have hx1r := hR8.ner nx1
              have hl10r : l10 ≠ r ∧ l10 ≠ g := (hR8.same u1).ner nl10
              have hR10 := hR8.same s10
              clear u1 v10 nl10 nx1 nd1 ne1 s10 hP8 hC8 hR8 hCm
              fail "ww"
              refine ⟨r, g, 9, _, rfl, hR10, by omega, by decide, by decide, fun H11 d1 hd10 hd11 s11 hR11 => ?_⟩
              obtain ⟨len, rfl⟩ := Int.eq_ofNat_of_zero_le hd10
              have hid11 : Hid H11 T.HiddenScript_a x1 l10 sz cs 0 := by
                obtain ⟨⟨dx, ts, h1, h2, h3⟩, h4, h5⟩ := hid10
                obtain ⟨gs, l, t, b, hr, hg, _⟩ := hR10
                exact ⟨⟨dx, ts, s11 _ _ hx1r.1 hx1r.2 h1, s11 _ _ hl10r.1 hl10r.2 h2, ⟨h3.len, fun i t e => let ⟨c, e1, e2⟩ := h3.at_ i t e; ⟨c, e1, s11 _ _ (ne_of e2 hr (by intro z; cases z)) (ne_of e2 hg (by intro z; cases z)) e2⟩⟩⟩, h4, h5⟩
              clear hid10 s11 hR10
              fail "ww"
              refine ⟨by omega, by omega, fun D2 nD2 => ?_⟩
              have hDr := hR11.ner nD2
              refine lc_it walk_range (fun i2 Hh => ∃ ds : List Int, ds.length = i2 ∧ Hh D2 = some (.lst (ds.map V.int)) ∧ Sy r g H11 Hh ∧ Bag Hh r g (100 * i + 1 + 1 + 5 * 4 + 2 * ms.length + 1 + i2)) ?_ (fun _ _ _ _ => trivial) (fun i2 y Hh Hh' hi2 p z => ?_) (fun Hh p => ?_)
              · exact ⟨[], rfl, upd_same, Sy.refl.old nD2, hR11.other hDr⟩
              · obtain ⟨rfl, rfl⟩ := z
                obtain ⟨ds, hds, hD, s3, hR3⟩ := p
                fail "ww"
                refine ⟨rfl, ?_⟩
                fail "ww"
                refine ⟨r, g, 4, _, rfl, hR3, by omega, by decide, by decide, fun H5 e he0 he1 s5 hR5 => ?_⟩
                refine ⟨_, s5 _ _ hDr.1 hDr.2 hD, by rw [List.length_map]; exact size_lt (by omega), ?_⟩
                rw [map_snoc]
                exact ⟨ds ++ [_], by rw [List.length_append, hds]; rfl, upd_same, (s3.trans s5).old nD2, hR5.other hDr⟩
              · obtain ⟨ds, hds, hD, s3, hR3⟩ := p
                rw [Int.toNat_natCast] at hds hR3
                have hid12 := hid11.sy hR11 hl10r s3
                clear s3 hid11 hR11
                fail "ww"
                by_cases e : len = sz
                · rw [decide_eq_true (show ((len : Nat) : Int) = (sz : Int) by omega)]
                  fail "ww"
                  refine ⟨x1, D2, l10, sz, cs, ds, rfl, hid12, by omega, hD, fun H14 v14 k14 hid14 hv14 => ?_⟩
                  rw [if_pos (show ds.length = sz by omega)] at hid14 hv14
                  fail "ww"
                  refine r_neTw (d := none) (fun _ _ z => by cases z) hv14.st rfl ?_
                  fail "ww"
                  obtain ⟨⟨dx, tl, hx, hl, hCl⟩, _, _⟩ := id hid14
                  have hR15 : Bag H14 r g (100 * i + 1 + 1 + 5 * 4 + 2 * ms.length + 1 + len) := by
                    obtain ⟨gs, l, t, b, h1, h2, h3⟩ := hR3
                    exact ⟨gs, l, t, b, k14 _ _ h1 hx1r.1.symm, k14 _ _ h2 hx1r.2.symm, h3⟩
                  refine ⟨x1, dx, _, rfl, hx, x1, (sz, 1, cs, l10), rfl, hid14, fun H15 s15 => ?_⟩
                  fail "ww"
                  rw [decide_eq_true (show ((len : Nat) : Int) = (sz : Int) by omega)]
                  fail "ww"
                  refine r_itNF rfl ?_
                  fail "ww"
                  exact ⟨_, _, _, _, _, _, _, _, _, _, _, rfl, (hR15.same s15).le (by omega)⟩
                · rw [decide_eq_false (show ¬ ((len : Nat) : Int) = (sz : Int) by omega)]
                  fail "ww"
                  refine new_ fun q13 H13 n13 s13 h13 => ?_
                  fail "ww"
                  refine ⟨x1, D2, l10, sz, cs, ds, rfl, hid12.same s13, by omega, s13 _ _ hD, fun H14 v14 k14 hid14 hv14 => ?_⟩
                  rw [if_neg (show ¬ ds.length = sz by omega)] at hid14 hv14
                  fail "ww"
                  have hq13 : q13 ≠ x1 := by
                    obtain ⟨⟨dx, tl, hx, hl, hCl⟩, _, _⟩ := id hid12
                    exact (ne_of_none hx n13).symm
                  refine r_neTw (d := some (("unequal" : Str), none)) (fun _ _ z => by cases z; decide +kernel) hv14.st ⟨q13, rfl, k14 _ _ h13 hq13⟩ ?_
                  fail "ww"
                  obtain ⟨⟨dx, tl, hx, hl, hCl⟩, _, _⟩ := id hid14
                  have hR15 : Bag H14 r g (100 * i + 1 + 1 + 5 * 4 + 2 * ms.length + 1 + len) := by
                    obtain ⟨gs, l, t, b, h1, h2, h3⟩ := hR3.same s13
                    exact ⟨gs, l, t, b, k14 _ _ h1 hx1r.1.symm, k14 _ _ h2 hx1r.2.symm, h3⟩
                  refine ⟨x1, dx, _, rfl, hx, x1, (sz, 0, cs, l10), rfl, hid14, fun H15 s15 => ?_⟩
                  fail "ww"
                  rw [decide_eq_false (show ¬ ((len : Nat) : Int) = (sz : Int) by omega)]
                  fail "ww"
                  refine r_itNF rfl ?_
                  fail "ww"
                  exact ⟨_, _, _, _, _, _, _, _, _, _, _, rfl, (hR15.same s15).le (by omega)⟩
  · obtain ⟨y2, y3, y4, y5, y6, y7, y8, y9, y10, y11, y12, rfl, hR0⟩ := p
    fail "ww"
    exact q _
end
theorem all_mk {w : World} {K : PySem.W.Frag} {h : Heap} {mg : Str → Option Value} {l : PySem.W.OpenLaw} {fa f_sort_stretches f_law_bag f_law_draw f_law_kind f_HiddenScript_size f_HiddenScript_questions f_law_commands f_check_size f_check_script f_HiddenScript_ask f_check_sized_script f_law_asked f_HiddenScript_init f_law_made f_law : Addr} {C_HiddenScript : Addr} (X : K.In h) (G : h.Ns mainGlobals mg) (hfa : mg "law" = some (.ref fa))
    {od0 an0 od1 an1 od2 an2 od3 an3 od4 an4 od5 an5 od6 an6 od7 an7 od8 an8 od9 an9 od10 an10 od11 an11 od12 an12 od13 an13 od14 an14 : Option Addr} {sl0 sl1 sl2 sl3 sl4 sl5 sl6 sl7 sl8 sl9 sl10 sl11 sl12 sl13 sl14 : Array (Option Value)} {oc0 kV0 dc0 pm0 cd0 ct0 oc1 kV1 dc1 pm1 cd1 ct1 oc2 kV2 dc2 pm2 cd2 ct2 oc3 kV3 dc3 pm3 cd3 ct3 oc4 kV4 dc4 pm4 cd4 ct4 oc5 kV5 dc5 pm5 cd5 ct5 oc6 kV6 dc6 pm6 cd6 ct6 oc7 kV7 dc7 pm7 cd7 ct7 oc8 kV8 dc8 pm8 cd8 ct8 oc9 kV9 dc9 pm9 cd9 ct9 oc10 kV10 dc10 pm10 cd10 ct10 oc11 kV11 dc11 pm11 cd11 ct11 oc12 kV12 dc12 pm12 cd12 ct12 oc13 kV13 dc13 pm13 cd13 ct13 oc14 kV14 dc14 pm14 cd14 ct14 : Value}
    (a0 : PySem.W.nsIn K mainGlobals "sort_stretches" = some (some (.ref f_sort_stretches)))
    (l0 : K.lookup f_sort_stretches = some ⟨oc0, od0, .func (PySem.W.fnOf "sort_stretches" "sort_stretches" (defArgs s_sort_stretches) (defBody s_sort_stretches) (defScope s_sort_stretches) .none kV0 dc0 pm0 an0 cd0 ct0), sl0⟩) (c0 : PySem.W.codeIn K cd0 "sort_stretches" = true) (k0 : PySem.W.keepIn K (.ref f_sort_stretches) = true)
    (a1 : PySem.W.nsIn K mainGlobals "_law_bag" = some (some (.ref f_law_bag)))
    (l1 : K.lookup f_law_bag = some ⟨oc1, od1, .func (PySem.W.fnOf "_law_bag" "_law_bag" (defArgs s_law_bag) (defBody s_law_bag) (defScope s_law_bag) .none kV1 dc1 pm1 an1 cd1 ct1), sl1⟩) (c1 : PySem.W.codeIn K cd1 "_law_bag" = true) (k1 : PySem.W.keepIn K (.ref f_law_bag) = true)
    (a2 : PySem.W.nsIn K mainGlobals "_law_draw" = some (some (.ref f_law_draw)))
    (l2 : K.lookup f_law_draw = some ⟨oc2, od2, .func (PySem.W.fnOf "_law_draw" "_law_draw" (defArgs s_law_draw) (defBody s_law_draw) (defScope s_law_draw) .none kV2 dc2 pm2 an2 cd2 ct2), sl2⟩) (c2 : PySem.W.codeIn K cd2 "_law_draw" = true) (k2 : PySem.W.keepIn K (.ref f_law_draw) = true)
    (a3 : PySem.W.nsIn K mainGlobals "_law_kind" = some (some (.ref f_law_kind)))
    (l3 : K.lookup f_law_kind = some ⟨oc3, od3, .func (PySem.W.fnOf "_law_kind" "_law_kind" (defArgs s_law_kind) (defBody s_law_kind) (defScope s_law_kind) .none kV3 dc3 pm3 an3 cd3 ct3), sl3⟩) (c3 : PySem.W.codeIn K cd3 "_law_kind" = true) (k3 : PySem.W.keepIn K (.ref f_law_kind) = true)
    {p_HiddenScript_size : Addr} {rs_HiddenScript_size : List Value} (a4 : PySem.W.findIn K (.ref C_HiddenScript) "size" = some (some (.ref p_HiddenScript_size))) (pg_HiddenScript_size : PySem.W.specialIn K (.ref p_HiddenScript_size) "__get__" = some (some (.builtin "property.__get__"))) (pt_HiddenScript_size : PySem.W.takesIn K (.ref p_HiddenScript_size) = some true) (pr_HiddenScript_size : PySem.W.recIn K p_HiddenScript_size "property" = some (.ref f_HiddenScript_size :: rs_HiddenScript_size))
    (l4 : K.lookup f_HiddenScript_size = some ⟨oc4, od4, .func (PySem.W.fnOf "size" "HiddenScript.size" (defArgs s_HiddenScript_size) (defBody s_HiddenScript_size) (defScope s_HiddenScript_size) .none kV4 dc4 pm4 an4 cd4 ct4), sl4⟩) (c4 : PySem.W.codeIn K cd4 "HiddenScript.size" = true) (k4 : PySem.W.keepIn K (.ref f_HiddenScript_size) = true)
    {p_HiddenScript_questions : Addr} {rs_HiddenScript_questions : List Value} (a5 : PySem.W.findIn K (.ref C_HiddenScript) "questions" = some (some (.ref p_HiddenScript_questions))) (pg_HiddenScript_questions : PySem.W.specialIn K (.ref p_HiddenScript_questions) "__get__" = some (some (.builtin "property.__get__"))) (pt_HiddenScript_questions : PySem.W.takesIn K (.ref p_HiddenScript_questions) = some true) (pr_HiddenScript_questions : PySem.W.recIn K p_HiddenScript_questions "property" = some (.ref f_HiddenScript_questions :: rs_HiddenScript_questions))
    (l5 : K.lookup f_HiddenScript_questions = some ⟨oc5, od5, .func (PySem.W.fnOf "questions" "HiddenScript.questions" (defArgs s_HiddenScript_questions) (defBody s_HiddenScript_questions) (defScope s_HiddenScript_questions) .none kV5 dc5 pm5 an5 cd5 ct5), sl5⟩) (c5 : PySem.W.codeIn K cd5 "HiddenScript.questions" = true) (k5 : PySem.W.keepIn K (.ref f_HiddenScript_questions) = true)
    (a6 : PySem.W.nsIn K mainGlobals "_law_commands" = some (some (.ref f_law_commands)))
    (l6 : K.lookup f_law_commands = some ⟨oc6, od6, .func (PySem.W.fnOf "_law_commands" "_law_commands" (defArgs s_law_commands) (defBody s_law_commands) (defScope s_law_commands) .none kV6 dc6 pm6 an6 cd6 ct6), sl6⟩) (c6 : PySem.W.codeIn K cd6 "_law_commands" = true) (k6 : PySem.W.keepIn K (.ref f_law_commands) = true)
    (a7 : PySem.W.nsIn K mainGlobals "check_size" = some (some (.ref f_check_size)))
    (l7 : K.lookup f_check_size = some ⟨oc7, od7, .func (PySem.W.fnOf "check_size" "check_size" (defArgs s_check_size) (defBody s_check_size) (defScope s_check_size) .none kV7 dc7 pm7 an7 cd7 ct7), sl7⟩) (c7 : PySem.W.codeIn K cd7 "check_size" = true) (k7 : PySem.W.keepIn K (.ref f_check_size) = true)
    (a8 : PySem.W.nsIn K mainGlobals "check_script" = some (some (.ref f_check_script)))
    (l8 : K.lookup f_check_script = some ⟨oc8, od8, .func (PySem.W.fnOf "check_script" "check_script" (defArgs s_check_script) (defBody s_check_script) (defScope s_check_script) .none kV8 dc8 pm8 an8 cd8 ct8), sl8⟩) (c8 : PySem.W.codeIn K cd8 "check_script" = true) (k8 : PySem.W.keepIn K (.ref f_check_script) = true)
    (a9 : PySem.W.findIn K (.ref C_HiddenScript) "ask" = some (some (.ref f_HiddenScript_ask))) (if_HiddenScript_ask : PySem.W.isFn K (.ref f_HiddenScript_ask) = true)
    (l9 : K.lookup f_HiddenScript_ask = some ⟨oc9, od9, .func (PySem.W.fnOf "ask" "HiddenScript.ask" (defArgs s_HiddenScript_ask) (defBody s_HiddenScript_ask) (defScope s_HiddenScript_ask) .none kV9 dc9 pm9 an9 cd9 ct9), sl9⟩) (c9 : PySem.W.codeIn K cd9 "HiddenScript.ask" = true) (k9 : PySem.W.keepIn K (.ref f_HiddenScript_ask) = true)
    (a10 : PySem.W.nsIn K mainGlobals "check_sized_script" = some (some (.ref f_check_sized_script)))
    (l10 : K.lookup f_check_sized_script = some ⟨oc10, od10, .func (PySem.W.fnOf "check_sized_script" "check_sized_script" (defArgs s_check_sized_script) (defBody s_check_sized_script) (defScope s_check_sized_script) .none kV10 dc10 pm10 an10 cd10 ct10), sl10⟩) (c10 : PySem.W.codeIn K cd10 "check_sized_script" = true) (k10 : PySem.W.keepIn K (.ref f_check_sized_script) = true)
    (a11 : PySem.W.nsIn K mainGlobals "_law_asked" = some (some (.ref f_law_asked)))
    (l11 : K.lookup f_law_asked = some ⟨oc11, od11, .func (PySem.W.fnOf "_law_asked" "_law_asked" (defArgs s_law_asked) (defBody s_law_asked) (defScope s_law_asked) .none kV11 dc11 pm11 an11 cd11 ct11), sl11⟩) (c11 : PySem.W.codeIn K cd11 "_law_asked" = true) (k11 : PySem.W.keepIn K (.ref f_law_asked) = true)
    (a12 : PySem.W.findIn K (.ref C_HiddenScript) "__init__" = some (some (.ref f_HiddenScript_init))) (if_HiddenScript_init : PySem.W.isFn K (.ref f_HiddenScript_init) = true)
    (l12 : K.lookup f_HiddenScript_init = some ⟨oc12, od12, .func (PySem.W.fnOf "__init__" "HiddenScript.__init__" (defArgs s_HiddenScript_init) (defBody s_HiddenScript_init) (defScope s_HiddenScript_init) .none kV12 dc12 pm12 an12 cd12 ct12), sl12⟩) (c12 : PySem.W.codeIn K cd12 "HiddenScript.__init__" = true) (k12 : PySem.W.keepIn K (.ref f_HiddenScript_init) = true)
    (a13 : PySem.W.nsIn K mainGlobals "_law_made" = some (some (.ref f_law_made)))
    (l13 : K.lookup f_law_made = some ⟨oc13, od13, .func (PySem.W.fnOf "_law_made" "_law_made" (defArgs s_law_made) (defBody s_law_made) (defScope s_law_made) .none kV13 dc13 pm13 an13 cd13 ct13), sl13⟩) (c13 : PySem.W.codeIn K cd13 "_law_made" = true) (k13 : PySem.W.keepIn K (.ref f_law_made) = true)
    (a14 : PySem.W.nsIn K mainGlobals "law" = some (some (.ref f_law)))
    (l14 : K.lookup f_law = some ⟨oc14, od14, .func (PySem.W.fnOf "law" "law" (defArgs s_law) (defBody s_law) (defScope s_law) .none kV14 dc14 pm14 an14 cd14 ct14), sl14⟩) (c14 : PySem.W.codeIn K cd14 "law" = true) (k14 : PySem.W.keepIn K (.ref f_law) = true)
    (aC_HiddenScript : PySem.W.nsIn K mainGlobals "HiddenScript" = some (some (.ref C_HiddenScript)))
    (cpg_HiddenScript : PySem.W.plainGet K C_HiddenScript Str.empty = true)
    (chd_HiddenScript : PySem.W.hasDictIn K C_HiddenScript = true)
    (cpo_HiddenScript : PySem.W.plainOver K C_HiddenScript = true)
    (csa_HiddenScript : PySem.W.findIn K (.ref C_HiddenScript) "__setattr__" = some (some (.builtin "object.__setattr__")))
    (cmk_HiddenScript : PySem.W.makesIn K C_HiddenScript = true)
    (ckc_HiddenScript : PySem.W.keepIn K (.ref C_HiddenScript) = true)
    (na_HiddenScript_commands : PySem.W.findIn K (.ref C_HiddenScript) "_commands" = some none)
    (na_HiddenScript_questions : PySem.W.findIn K (.ref C_HiddenScript) "_questions" = some none)
    (na_HiddenScript_size : PySem.W.findIn K (.ref C_HiddenScript) "_size" = some none)
    {C_InvalidCommand C_InvalidNumber C_InvalidRow C_InvalidSize C_NothingToUndo C_SortError C_UnequalSizes C_Unreadable : Addr} {CSE : Addr}
    {ci_InvalidCommand ci_InvalidSize ci_UnequalSizes : Addr} {nm_InvalidCommand qn_InvalidCommand nm_InvalidSize qn_InvalidSize nm_UnequalSizes qn_UnequalSizes : Str} {N_InvalidCommand N_InvalidSize N_UnequalSizes : Addr} {bs_InvalidCommand sub_InvalidCommand bs_InvalidSize sub_InvalidSize bs_UnequalSizes sub_UnequalSizes : List Value} {sn_InvalidCommand sn_InvalidSize sn_UnequalSizes : List Str} {ab_InvalidCommand ab_InvalidSize ab_UnequalSizes : Bool} {col_InvalidCommand col_InvalidSize col_UnequalSizes : Option Bool} {dd_InvalidCommand odi_InvalidCommand ani_InvalidCommand dd_InvalidSize odi_InvalidSize ani_InvalidSize dd_UnequalSizes odi_UnequalSizes ani_UnequalSizes : Option Addr} {m0_InvalidCommand m1_InvalidCommand m2_InvalidCommand m3_InvalidCommand m5_InvalidCommand m0_InvalidSize m1_InvalidSize m2_InvalidSize m3_InvalidSize m5_InvalidSize m0_UnequalSizes m1_UnequalSizes m2_UnequalSizes m3_UnequalSizes m5_UnequalSizes : Option Value}
    {sli_InvalidCommand sli_InvalidSize sli_UnequalSizes : Array (Option Value)} {oci_InvalidCommand kVi_InvalidCommand dci_InvalidCommand pmi_InvalidCommand cdi_InvalidCommand cti_InvalidCommand oci_InvalidSize kVi_InvalidSize dci_InvalidSize pmi_InvalidSize cdi_InvalidSize cti_InvalidSize oci_UnequalSizes kVi_UnequalSizes dci_UnequalSizes pmi_UnequalSizes cdi_UnequalSizes cti_UnequalSizes : Value}
    (aC_InvalidCommand : PySem.W.nsIn K mainGlobals "InvalidCommand" = some (some (.ref C_InvalidCommand)))
    (aC_InvalidNumber : PySem.W.nsIn K mainGlobals "InvalidNumber" = some (some (.ref C_InvalidNumber)))
    (aC_InvalidRow : PySem.W.nsIn K mainGlobals "InvalidRow" = some (some (.ref C_InvalidRow)))
    (aC_InvalidSize : PySem.W.nsIn K mainGlobals "InvalidSize" = some (some (.ref C_InvalidSize)))
    (aC_NothingToUndo : PySem.W.nsIn K mainGlobals "NothingToUndo" = some (some (.ref C_NothingToUndo)))
    (aC_SortError : PySem.W.nsIn K mainGlobals "SortError" = some (some (.ref C_SortError)))
    (aC_UnequalSizes : PySem.W.nsIn K mainGlobals "UnequalSizes" = some (some (.ref C_UnequalSizes)))
    (aC_Unreadable : PySem.W.nsIn K mainGlobals "Unreadable" = some (some (.ref C_Unreadable)))
    (eS : PySem.W.subIn K (.ref C_SortError) (.type "BaseException") = some true)
    (hS : PySem.W.hasDictIn K C_SortError = true)
    (tS : PySem.W.typeIn K (.ref C_SortError) = some (.type "type"))
    (nX : PySem.W.specialIn K (.builtin "object.__class__") "__get__" = some (some (.builtin "getset_descriptor.__get__")))
    (uX : PySem.W.takesIn K (.builtin "object.__class__") = some true)
    (aX_InvalidCommand : PySem.W.findIn K (.ref C_InvalidCommand) "__class__" = some (some (.builtin "object.__class__")))
    (mX_InvalidCommand : PySem.W.mroIn K C_InvalidCommand (.type "object") = some true)
    (is_InvalidCommand_InvalidCommand : PySem.W.kitOne K (.ref C_InvalidCommand) (.ref C_InvalidCommand) = some true)
    (is_InvalidCommand_InvalidNumber : PySem.W.kitOne K (.ref C_InvalidCommand) (.ref C_InvalidNumber) = some false)
    (is_InvalidCommand_InvalidRow : PySem.W.kitOne K (.ref C_InvalidCommand) (.ref C_InvalidRow) = some false)
    (is_InvalidCommand_InvalidSize : PySem.W.kitOne K (.ref C_InvalidCommand) (.ref C_InvalidSize) = some false)
    (is_InvalidCommand_NothingToUndo : PySem.W.kitOne K (.ref C_InvalidCommand) (.ref C_NothingToUndo) = some false)
    (is_InvalidCommand_UnequalSizes : PySem.W.kitOne K (.ref C_InvalidCommand) (.ref C_UnequalSizes) = some false)
    (is_InvalidCommand_Unreadable : PySem.W.kitOne K (.ref C_InvalidCommand) (.ref C_Unreadable) = some false)
    (is_InvalidCommand_ValueError : PySem.W.kitOne K (.ref C_InvalidCommand) (.type "ValueError") = some true)
    (aX_InvalidSize : PySem.W.findIn K (.ref C_InvalidSize) "__class__" = some (some (.builtin "object.__class__")))
    (mX_InvalidSize : PySem.W.mroIn K C_InvalidSize (.type "object") = some true)
    (is_InvalidSize_InvalidCommand : PySem.W.kitOne K (.ref C_InvalidSize) (.ref C_InvalidCommand) = some false)
    (is_InvalidSize_InvalidNumber : PySem.W.kitOne K (.ref C_InvalidSize) (.ref C_InvalidNumber) = some false)
    (is_InvalidSize_InvalidRow : PySem.W.kitOne K (.ref C_InvalidSize) (.ref C_InvalidRow) = some false)
    (is_InvalidSize_InvalidSize : PySem.W.kitOne K (.ref C_InvalidSize) (.ref C_InvalidSize) = some true)
    (is_InvalidSize_NothingToUndo : PySem.W.kitOne K (.ref C_InvalidSize) (.ref C_NothingToUndo) = some false)
    (is_InvalidSize_UnequalSizes : PySem.W.kitOne K (.ref C_InvalidSize) (.ref C_UnequalSizes) = some false)
    (is_InvalidSize_Unreadable : PySem.W.kitOne K (.ref C_InvalidSize) (.ref C_Unreadable) = some false)
    (is_InvalidSize_ValueError : PySem.W.kitOne K (.ref C_InvalidSize) (.type "ValueError") = some true)
    (aX_UnequalSizes : PySem.W.findIn K (.ref C_UnequalSizes) "__class__" = some (some (.builtin "object.__class__")))
    (mX_UnequalSizes : PySem.W.mroIn K C_UnequalSizes (.type "object") = some true)
    (is_UnequalSizes_InvalidCommand : PySem.W.kitOne K (.ref C_UnequalSizes) (.ref C_InvalidCommand) = some false)
    (is_UnequalSizes_InvalidNumber : PySem.W.kitOne K (.ref C_UnequalSizes) (.ref C_InvalidNumber) = some false)
    (is_UnequalSizes_InvalidRow : PySem.W.kitOne K (.ref C_UnequalSizes) (.ref C_InvalidRow) = some false)
    (is_UnequalSizes_InvalidSize : PySem.W.kitOne K (.ref C_UnequalSizes) (.ref C_InvalidSize) = some false)
    (is_UnequalSizes_NothingToUndo : PySem.W.kitOne K (.ref C_UnequalSizes) (.ref C_NothingToUndo) = some false)
    (is_UnequalSizes_UnequalSizes : PySem.W.kitOne K (.ref C_UnequalSizes) (.ref C_UnequalSizes) = some true)
    (is_UnequalSizes_Unreadable : PySem.W.kitOne K (.ref C_UnequalSizes) (.ref C_Unreadable) = some false)
    (is_UnequalSizes_ValueError : PySem.W.kitOne K (.ref C_UnequalSizes) (.type "ValueError") = some true)
    (xL_InvalidCommand : K.lookup C_InvalidCommand = some (excClassObj nm_InvalidCommand qn_InvalidCommand C_InvalidCommand N_InvalidCommand bs_InvalidCommand [.ref CSE, .type "ValueError", .type "Exception", .type "BaseException", .type "object"] true sn_InvalidCommand sub_InvalidCommand ab_InvalidCommand col_InvalidCommand dd_InvalidCommand m0_InvalidCommand m1_InvalidCommand m2_InvalidCommand m3_InvalidCommand m5_InvalidCommand "ValueError.__new__"))
    (sa_InvalidCommand : PySem.W.findIn K (.ref C_InvalidCommand) "__setattr__" = some (some (.builtin "object.__setattr__")))
    (ga_InvalidCommand : PySem.W.findIn K (.ref C_InvalidCommand) "__getattribute__" = some (some (.builtin "BaseException.__getattribute__")))
    (gg_InvalidCommand : PySem.W.findIn K (.ref C_InvalidCommand) "__getattr__" = some none)
    (nb_InvalidCommand : PySem.W.findIn K (.ref C_InvalidCommand) "value" = some none)
    (iC_InvalidCommand : PySem.W.findIn K (.ref C_InvalidCommand) "__init__" = some (some (.ref ci_InvalidCommand)))
    (tI_InvalidCommand : PySem.W.typeIn K (.ref ci_InvalidCommand) = some (.type "function"))
    (lI_InvalidCommand : K.lookup ci_InvalidCommand = some ⟨oci_InvalidCommand, odi_InvalidCommand, .func (PySem.W.fnOf "__init__" "InvalidCommand.__init__" (defArgs s_InvalidCommand_i) (defBody s_InvalidCommand_i) (defScope s_InvalidCommand_i) .none kVi_InvalidCommand dci_InvalidCommand pmi_InvalidCommand ani_InvalidCommand cdi_InvalidCommand cti_InvalidCommand), sli_InvalidCommand⟩)
    (cI_InvalidCommand : PySem.W.codeIn K cdi_InvalidCommand "InvalidCommand.__init__" = true)
    (kI_InvalidCommand : PySem.W.keepIn K (.ref ci_InvalidCommand) = true)
    (kC_InvalidCommand : PySem.W.keepIn K (.ref C_InvalidCommand) = true)
    (eC_InvalidCommand : PySem.W.subIn K (.ref C_InvalidCommand) (.type "BaseException") = some true)
    (tC_InvalidCommand : PySem.W.typeIn K (.ref C_InvalidCommand) = some (.type "type"))
    (hC_InvalidCommand : PySem.W.hasDictIn K C_InvalidCommand = true)
    (sC_InvalidCommand : PySem.W.subIn K (.ref C_InvalidCommand) (.ref C_SortError) = some true)
    (xL_InvalidSize : K.lookup C_InvalidSize = some (excClassObj nm_InvalidSize qn_InvalidSize C_InvalidSize N_InvalidSize bs_InvalidSize [.ref CSE, .type "ValueError", .type "Exception", .type "BaseException", .type "object"] true sn_InvalidSize sub_InvalidSize ab_InvalidSize col_InvalidSize dd_InvalidSize m0_InvalidSize m1_InvalidSize m2_InvalidSize m3_InvalidSize m5_InvalidSize "ValueError.__new__"))
    (sa_InvalidSize : PySem.W.findIn K (.ref C_InvalidSize) "__setattr__" = some (some (.builtin "object.__setattr__")))
    (ga_InvalidSize : PySem.W.findIn K (.ref C_InvalidSize) "__getattribute__" = some (some (.builtin "BaseException.__getattribute__")))
    (gg_InvalidSize : PySem.W.findIn K (.ref C_InvalidSize) "__getattr__" = some none)
    (nb_InvalidSize : PySem.W.findIn K (.ref C_InvalidSize) "value" = some none)
    (iC_InvalidSize : PySem.W.findIn K (.ref C_InvalidSize) "__init__" = some (some (.ref ci_InvalidSize)))
    (tI_InvalidSize : PySem.W.typeIn K (.ref ci_InvalidSize) = some (.type "function"))
    (lI_InvalidSize : K.lookup ci_InvalidSize = some ⟨oci_InvalidSize, odi_InvalidSize, .func (PySem.W.fnOf "__init__" "InvalidSize.__init__" (defArgs s_InvalidSize_i) (defBody s_InvalidSize_i) (defScope s_InvalidSize_i) .none kVi_InvalidSize dci_InvalidSize pmi_InvalidSize ani_InvalidSize cdi_InvalidSize cti_InvalidSize), sli_InvalidSize⟩)
    (cI_InvalidSize : PySem.W.codeIn K cdi_InvalidSize "InvalidSize.__init__" = true)
    (kI_InvalidSize : PySem.W.keepIn K (.ref ci_InvalidSize) = true)
    (kC_InvalidSize : PySem.W.keepIn K (.ref C_InvalidSize) = true)
    (eC_InvalidSize : PySem.W.subIn K (.ref C_InvalidSize) (.type "BaseException") = some true)
    (tC_InvalidSize : PySem.W.typeIn K (.ref C_InvalidSize) = some (.type "type"))
    (hC_InvalidSize : PySem.W.hasDictIn K C_InvalidSize = true)
    (sC_InvalidSize : PySem.W.subIn K (.ref C_InvalidSize) (.ref C_SortError) = some true)
    (xL_UnequalSizes : K.lookup C_UnequalSizes = some (excClassObj nm_UnequalSizes qn_UnequalSizes C_UnequalSizes N_UnequalSizes bs_UnequalSizes [.ref CSE, .type "ValueError", .type "Exception", .type "BaseException", .type "object"] true sn_UnequalSizes sub_UnequalSizes ab_UnequalSizes col_UnequalSizes dd_UnequalSizes m0_UnequalSizes m1_UnequalSizes m2_UnequalSizes m3_UnequalSizes m5_UnequalSizes "ValueError.__new__"))
    (sa_UnequalSizes : PySem.W.findIn K (.ref C_UnequalSizes) "__setattr__" = some (some (.builtin "object.__setattr__")))
    (ga_UnequalSizes : PySem.W.findIn K (.ref C_UnequalSizes) "__getattribute__" = some (some (.builtin "BaseException.__getattribute__")))
    (gg_UnequalSizes : PySem.W.findIn K (.ref C_UnequalSizes) "__getattr__" = some none)
    (nb_UnequalSizes : PySem.W.findIn K (.ref C_UnequalSizes) "value" = some none)
    (iC_UnequalSizes : PySem.W.findIn K (.ref C_UnequalSizes) "__init__" = some (some (.ref ci_UnequalSizes)))
    (tI_UnequalSizes : PySem.W.typeIn K (.ref ci_UnequalSizes) = some (.type "function"))
    (lI_UnequalSizes : K.lookup ci_UnequalSizes = some ⟨oci_UnequalSizes, odi_UnequalSizes, .func (PySem.W.fnOf "__init__" "UnequalSizes.__init__" (defArgs s_UnequalSizes_i) (defBody s_UnequalSizes_i) (defScope s_UnequalSizes_i) .none kVi_UnequalSizes dci_UnequalSizes pmi_UnequalSizes ani_UnequalSizes cdi_UnequalSizes cti_UnequalSizes), sli_UnequalSizes⟩)
    (cI_UnequalSizes : PySem.W.codeIn K cdi_UnequalSizes "UnequalSizes.__init__" = true)
    (kI_UnequalSizes : PySem.W.keepIn K (.ref ci_UnequalSizes) = true)
    (kC_UnequalSizes : PySem.W.keepIn K (.ref C_UnequalSizes) = true)
    (eC_UnequalSizes : PySem.W.subIn K (.ref C_UnequalSizes) (.type "BaseException") = some true)
    (tC_UnequalSizes : PySem.W.typeIn K (.ref C_UnequalSizes) = some (.type "type"))
    (hC_UnequalSizes : PySem.W.hasDictIn K C_UnequalSizes = true)
    (sC_UnequalSizes : PySem.W.subIn K (.ref C_UnequalSizes) (.ref C_SortError) = some true)
    (z_ValueError : PySem.W.nsIn K mainGlobals "ValueError" = some none) (z_abs : PySem.W.nsIn K mainGlobals "abs" = some none) (z_enumerate : PySem.W.nsIn K mainGlobals "enumerate" = some none) (z_int : PySem.W.nsIn K mainGlobals "int" = some none) (z_isinstance : PySem.W.nsIn K mainGlobals "isinstance" = some none) (z_len : PySem.W.nsIn K mainGlobals "len" = some none) (z_list : PySem.W.nsIn K mainGlobals "list" = some none) (z_max : PySem.W.nsIn K mainGlobals "max" = some none) (z_min : PySem.W.nsIn K mainGlobals "min" = some none) (z_range : PySem.W.nsIn K mainGlobals "range" = some none) (z_sorted : PySem.W.nsIn K mainGlobals "sorted" = some none) :
    ∃ fd : FuncData, (∀ (s : Shared) (v : Value), BindsTo s fd ⟨[v], []⟩ [("script", v)]) ∧ ∀ base : Heap, K.In base → base.Ns mainGlobals mg → FnG l.prog w K mg base CX0 8 fa fd ["script"] (sp_law K) := by
  have e := hfa.symm.trans (PySem.W.mg_of X G a14)
  cases e
  have F0 := fun_mk (st := s_sort_stretches) l0 c0 k0
  have b0 := F0.binds (ps := ["row", "commands"]) fun _ _ _ _ _ _ us hl => match us, hl with | [_, _], _ => rfl
  have F1 := fun_mk (st := s_law_bag) l1 c1 k1
  have b1 := F1.binds (ps := ["script"]) fun _ _ _ _ _ _ us hl => match us, hl with | [_], _ => rfl
  have F2 := fun_mk (st := s_law_draw) l2 c2 k2
  have b2 := F2.binds (ps := ["bag", "many"]) fun _ _ _ _ _ _ us hl => match us, hl with | [_, _], _ => rfl
  have F3 := fun_mk (st := s_law_kind) l3 c3 k3
  have b3 := F3.binds (ps := ["e"]) fun _ _ _ _ _ _ us hl => match us, hl with | [_], _ => rfl
  have F4 := fun_mk (st := s_HiddenScript_size) l4 c4 k4
  have b4 := F4.binds (ps := ["self"]) fun _ _ _ _ _ _ us hl => match us, hl with | [_], _ => rfl
  have F5 := fun_mk (st := s_HiddenScript_questions) l5 c5 k5
  have b5 := F5.binds (ps := ["self"]) fun _ _ _ _ _ _ us hl => match us, hl with | [_], _ => rfl
  have F6 := fun_mk (st := s_law_commands) l6 c6 k6
  have b6 := F6.binds (ps := ["bag", "many", "most"]) fun _ _ _ _ _ _ us hl => match us, hl with | [_, _, _], _ => rfl
  have F7 := fun_mk (st := s_check_size) l7 c7 k7
  have b7 := F7.binds (ps := ["size"]) fun _ _ _ _ _ _ us hl => match us, hl with | [_], _ => rfl
  have F8 := fun_mk (st := s_check_script) l8 c8 k8
  have b8 := F8.binds (ps := ["size", "commands"]) fun _ _ _ _ _ _ us hl => match us, hl with | [_, _], _ => rfl
  have F9 := fun_mk (st := s_HiddenScript_ask) l9 c9 k9
  have b9 := F9.binds (ps := ["self", "row"]) fun _ _ _ _ _ _ us hl => match us, hl with | [_, _], _ => rfl
  have F10 := fun_mk (st := s_check_sized_script) l10 c10 k10
  have b10 := F10.binds (ps := ["size", "commands"]) fun _ _ _ _ _ _ us hl => match us, hl with | [_, _], _ => rfl
  have F11 := fun_mk (st := s_law_asked) l11 c11 k11
  have b11 := F11.binds (ps := ["hidden", "cells"]) fun _ _ _ _ _ _ us hl => match us, hl with | [_, _], _ => rfl
  have F12 := fun_mk (st := s_HiddenScript_init) l12 c12 k12
  have b12 := F12.binds (ps := ["self", "size", "commands"]) fun _ _ _ _ _ _ us hl => match us, hl with | [_, _, _], _ => rfl
  have F13 := fun_mk (st := s_law_made) l13 c13 k13
  have b13 := F13.binds (ps := ["many", "moves"]) fun _ _ _ _ _ _ us hl => match us, hl with | [_, _], _ => rfl
  have F14 := fun_mk (st := s_law) l14 c14 k14
  have b14 := F14.binds (ps := ["script"]) fun _ _ _ _ _ _ us hl => match us, hl with | [_], _ => rfl
  have kb_HiddenScript_init_commands_size : KBinds K (PySem.W.fnOf "__init__" "HiddenScript.__init__" (defArgs s_HiddenScript_init) (defBody s_HiddenScript_init) (defScope s_HiddenScript_init) .none kV12 dc12 pm12 an12 cd12 ct12) ["self", "size", "commands"] ["commands", "size"] (fun (us ws : List Value) => match us, ws with | [u0], [w0, w1] => [u0, w1, w0] | _, _ => []) (fun (us ws : List V) => match us, ws with | [u0], [w0, w1] => [u0, w1, w0] | _, _ => []) := by
    refine ⟨fun s us ws _ hl => ?_, fun {vs us zs ws} h1 h2 => ?_⟩
    · revert hl; (try dsimp only); split
      · intro _; exact .of_eq rfl
      · intro hl; cases hl
    · rcases h1 with _ | ⟨p1, _ | ⟨p2, _ | ⟨p3, h1⟩⟩⟩ <;> rcases h2 with _ | ⟨q1, _ | ⟨q2, _ | ⟨q3, h2⟩⟩⟩ <;> ((try dsimp only); repeat (first | exact .nil | refine .cons (by assumption) ?_))
  have kb_HiddenScript_ask_row : KBinds K (PySem.W.fnOf "ask" "HiddenScript.ask" (defArgs s_HiddenScript_ask) (defBody s_HiddenScript_ask) (defScope s_HiddenScript_ask) .none kV9 dc9 pm9 an9 cd9 ct9) ["self", "row"] ["row"] (fun (us ws : List Value) => match us, ws with | [u0], [w0] => [u0, w0] | _, _ => []) (fun (us ws : List V) => match us, ws with | [u0], [w0] => [u0, w0] | _, _ => []) := by
    refine ⟨fun s us ws _ hl => ?_, fun {vs us zs ws} h1 h2 => ?_⟩
    · revert hl; (try dsimp only); split
      · intro _; exact .of_eq rfl
      · intro hl; cases hl
    · rcases h1 with _ | ⟨p1, _ | ⟨p2, h1⟩⟩ <;> rcases h2 with _ | ⟨q1, _ | ⟨q2, h2⟩⟩ <;> ((try dsimp only); repeat (first | exact .nil | refine .cons (by assumption) ?_))
  have FI_InvalidCommand := fun_mk (st := s_InvalidCommand_i) lI_InvalidCommand cI_InvalidCommand kI_InvalidCommand
  have bI_InvalidCommand := FI_InvalidCommand.binds (ps := ["self", "value"]) fun _ _ _ _ _ _ us hl => match us, hl with | [_, _], _ => rfl
  have E_InvalidCommand : ErrC K mg "InvalidCommand" C_SortError C_InvalidCommand ci_InvalidCommand := ⟨PySem.W.mg_of X G aC_InvalidCommand, ⟨⟨_, _, _, _, _, _, _, _, _, _, _, _, _, _, _, xL_InvalidCommand, rfl⟩, sa_InvalidCommand, eC_InvalidCommand, tC_InvalidCommand, kC_InvalidCommand⟩, iC_InvalidCommand, tI_InvalidCommand, ⟨ga_InvalidCommand, gg_InvalidCommand, eC_InvalidCommand, hC_InvalidCommand⟩, nb_InvalidCommand, PySem.W.exm_ref eS hS tS sC_InvalidCommand⟩
  have FI_InvalidSize := fun_mk (st := s_InvalidSize_i) lI_InvalidSize cI_InvalidSize kI_InvalidSize
  have bI_InvalidSize := FI_InvalidSize.binds (ps := ["self", "value"]) fun _ _ _ _ _ _ us hl => match us, hl with | [_, _], _ => rfl
  have E_InvalidSize : ErrC K mg "InvalidSize" C_SortError C_InvalidSize ci_InvalidSize := ⟨PySem.W.mg_of X G aC_InvalidSize, ⟨⟨_, _, _, _, _, _, _, _, _, _, _, _, _, _, _, xL_InvalidSize, rfl⟩, sa_InvalidSize, eC_InvalidSize, tC_InvalidSize, kC_InvalidSize⟩, iC_InvalidSize, tI_InvalidSize, ⟨ga_InvalidSize, gg_InvalidSize, eC_InvalidSize, hC_InvalidSize⟩, nb_InvalidSize, PySem.W.exm_ref eS hS tS sC_InvalidSize⟩
  have FI_UnequalSizes := fun_mk (st := s_UnequalSizes_i) lI_UnequalSizes cI_UnequalSizes kI_UnequalSizes
  have bI_UnequalSizes := FI_UnequalSizes.binds (ps := ["self", "value"]) fun _ _ _ _ _ _ us hl => match us, hl with | [_, _], _ => rfl
  have E_UnequalSizes : ErrC K mg "UnequalSizes" C_SortError C_UnequalSizes ci_UnequalSizes := ⟨PySem.W.mg_of X G aC_UnequalSizes, ⟨⟨_, _, _, _, _, _, _, _, _, _, _, _, _, _, _, xL_UnequalSizes, rfl⟩, sa_UnequalSizes, eC_UnequalSizes, tC_UnequalSizes, kC_UnequalSizes⟩, iC_UnequalSizes, tI_UnequalSizes, ⟨ga_UnequalSizes, gg_UnequalSizes, eC_UnequalSizes, hC_UnequalSizes⟩, nb_UnequalSizes, PySem.W.exm_ref eS hS tS sC_UnequalSizes⟩
  let T : Txt K mg := { InvalidCommand_a := C_InvalidCommand, InvalidCommand_g := PySem.W.mg_of X G aC_InvalidCommand, InvalidNumber_a := C_InvalidNumber, InvalidNumber_g := PySem.W.mg_of X G aC_InvalidNumber, InvalidRow_a := C_InvalidRow, InvalidRow_g := PySem.W.mg_of X G aC_InvalidRow, InvalidSize_a := C_InvalidSize, InvalidSize_g := PySem.W.mg_of X G aC_InvalidSize, NothingToUndo_a := C_NothingToUndo, NothingToUndo_g := PySem.W.mg_of X G aC_NothingToUndo, SortError_a := C_SortError, SortError_g := PySem.W.mg_of X G aC_SortError, UnequalSizes_a := C_UnequalSizes, UnequalSizes_g := PySem.W.mg_of X G aC_UnequalSizes, Unreadable_a := C_Unreadable, Unreadable_g := PySem.W.mg_of X G aC_Unreadable, InvalidCommand_i_a := ci_InvalidCommand, InvalidCommand_i_d := _, InvalidCommand_i_F := FI_InvalidCommand, InvalidCommand_i_b := bI_InvalidCommand, InvalidCommand_E := E_InvalidCommand, InvalidCommand_X := ⟨ga_InvalidCommand, gg_InvalidCommand, eC_InvalidCommand, hC_InvalidCommand, aX_InvalidCommand, nX, uX, mX_InvalidCommand⟩, InvalidCommand_is_InvalidCommand := is_InvalidCommand_InvalidCommand, InvalidCommand_is_InvalidNumber := is_InvalidCommand_InvalidNumber, InvalidCommand_is_InvalidRow := is_InvalidCommand_InvalidRow, InvalidCommand_is_InvalidSize := is_InvalidCommand_InvalidSize, InvalidCommand_is_NothingToUndo := is_InvalidCommand_NothingToUndo, InvalidCommand_is_UnequalSizes := is_InvalidCommand_UnequalSizes, InvalidCommand_is_Unreadable := is_InvalidCommand_Unreadable, InvalidCommand_is_ValueError := is_InvalidCommand_ValueError, InvalidSize_i_a := ci_InvalidSize, InvalidSize_i_d := _, InvalidSize_i_F := FI_InvalidSize, InvalidSize_i_b := bI_InvalidSize, InvalidSize_E := E_InvalidSize, InvalidSize_X := ⟨ga_InvalidSize, gg_InvalidSize, eC_InvalidSize, hC_InvalidSize, aX_InvalidSize, nX, uX, mX_InvalidSize⟩, InvalidSize_is_InvalidCommand := is_InvalidSize_InvalidCommand, InvalidSize_is_InvalidNumber := is_InvalidSize_InvalidNumber, InvalidSize_is_InvalidRow := is_InvalidSize_InvalidRow, InvalidSize_is_InvalidSize := is_InvalidSize_InvalidSize, InvalidSize_is_NothingToUndo := is_InvalidSize_NothingToUndo, InvalidSize_is_UnequalSizes := is_InvalidSize_UnequalSizes, InvalidSize_is_Unreadable := is_InvalidSize_Unreadable, InvalidSize_is_ValueError := is_InvalidSize_ValueError, UnequalSizes_i_a := ci_UnequalSizes, UnequalSizes_i_d := _, UnequalSizes_i_F := FI_UnequalSizes, UnequalSizes_i_b := bI_UnequalSizes, UnequalSizes_E := E_UnequalSizes, UnequalSizes_X := ⟨ga_UnequalSizes, gg_UnequalSizes, eC_UnequalSizes, hC_UnequalSizes, aX_UnequalSizes, nX, uX, mX_UnequalSizes⟩, UnequalSizes_is_InvalidCommand := is_UnequalSizes_InvalidCommand, UnequalSizes_is_InvalidNumber := is_UnequalSizes_InvalidNumber, UnequalSizes_is_InvalidRow := is_UnequalSizes_InvalidRow, UnequalSizes_is_InvalidSize := is_UnequalSizes_InvalidSize, UnequalSizes_is_NothingToUndo := is_UnequalSizes_NothingToUndo, UnequalSizes_is_UnequalSizes := is_UnequalSizes_UnequalSizes, UnequalSizes_is_Unreadable := is_UnequalSizes_Unreadable, UnequalSizes_is_ValueError := is_UnequalSizes_ValueError, sort_stretches_a := f_sort_stretches, sort_stretches_d := _, sort_stretches_F := F0, sort_stretches_b := b0, sort_stretches_g := PySem.W.mg_of X G a0, law_bag_a := f_law_bag, law_bag_d := _, law_bag_F := F1, law_bag_b := b1, law_bag_g := PySem.W.mg_of X G a1, law_draw_a := f_law_draw, law_draw_d := _, law_draw_F := F2, law_draw_b := b2, law_draw_g := PySem.W.mg_of X G a2, law_kind_a := f_law_kind, law_kind_d := _, law_kind_F := F3, law_kind_b := b3, law_kind_g := PySem.W.mg_of X G a3, HiddenScript_size_a := f_HiddenScript_size, HiddenScript_size_d := _, HiddenScript_size_F := F4, HiddenScript_size_b := b4, HiddenScript_size_p := p_HiddenScript_size, HiddenScript_size_P := ⟨a4, pg_HiddenScript_size, pt_HiddenScript_size, ⟨_, pr_HiddenScript_size⟩⟩, HiddenScript_questions_a := f_HiddenScript_questions, HiddenScript_questions_d := _, HiddenScript_questions_F := F5, HiddenScript_questions_b := b5, HiddenScript_questions_p := p_HiddenScript_questions, HiddenScript_questions_P := ⟨a5, pg_HiddenScript_questions, pt_HiddenScript_questions, ⟨_, pr_HiddenScript_questions⟩⟩, law_commands_a := f_law_commands, law_commands_d := _, law_commands_F := F6, law_commands_b := b6, law_commands_g := PySem.W.mg_of X G a6, check_size_a := f_check_size, check_size_d := _, check_size_F := F7, check_size_b := b7, check_size_g := PySem.W.mg_of X G a7, check_script_a := f_check_script, check_script_d := _, check_script_F := F8, check_script_b := b8, check_script_g := PySem.W.mg_of X G a8, HiddenScript_ask_a := f_HiddenScript_ask, HiddenScript_ask_d := _, HiddenScript_ask_F := F9, HiddenScript_ask_b := b9, HiddenScript_ask_M := ⟨a9, if_HiddenScript_ask, k9⟩, check_sized_script_a := f_check_sized_script, check_sized_script_d := _, check_sized_script_F := F10, check_sized_script_b := b10, check_sized_script_g := PySem.W.mg_of X G a10, law_asked_a := f_law_asked, law_asked_d := _, law_asked_F := F11, law_asked_b := b11, law_asked_g := PySem.W.mg_of X G a11, HiddenScript_init_a := f_HiddenScript_init, HiddenScript_init_d := _, HiddenScript_init_F := F12, HiddenScript_init_b := b12, HiddenScript_mk := ⟨cmk_HiddenScript, a12, if_HiddenScript_init, ckc_HiddenScript⟩, law_made_a := f_law_made, law_made_d := _, law_made_F := F13, law_made_b := b13, law_made_g := PySem.W.mg_of X G a13, law_a := fa, law_d := _, law_F := F14, law_b := b14, law_g := PySem.W.mg_of X G a14, HiddenScript_a := C_HiddenScript, HiddenScript_g := PySem.W.mg_of X G aC_HiddenScript, HiddenScript_cl := ⟨cpg_HiddenScript, chd_HiddenScript, cpo_HiddenScript, csa_HiddenScript⟩, HiddenScript_n_commands := na_HiddenScript_commands, HiddenScript_n_questions := na_HiddenScript_questions, HiddenScript_n_size := na_HiddenScript_size, k_HiddenScript_init_commands_size := kb_HiddenScript_init_commands_size, k_HiddenScript_ask_row := kb_HiddenScript_ask_row, m_ValueError := PySem.W.mg_none_of X G z_ValueError, m_abs := PySem.W.mg_none_of X G z_abs, m_enumerate := PySem.W.mg_none_of X G z_enumerate, m_int := PySem.W.mg_none_of X G z_int, m_isinstance := PySem.W.mg_none_of X G z_isinstance, m_len := PySem.W.mg_none_of X G z_len, m_list := PySem.W.mg_none_of X G z_list, m_max := PySem.W.mg_none_of X G z_max, m_min := PySem.W.mg_none_of X G z_min, m_range := PySem.W.mg_none_of X G z_range, m_sorted := PySem.W.mg_none_of X G z_sorted }
  exact ⟨PySem.W.fnOf "law" "law" (defArgs s_law) (defBody s_law) (defScope s_law) .none kV14 dc14 pm14 an14 cd14 ct14, fun s v => .of_eq rfl, fun base _ _ => ok_law T⟩
end L43
open PySem PySem.W PyProof.Rows
set_option maxHeartbeats 0 in
theorem PySem.Challenge.cw_sortstretches_k43_hidden_errors_holds : PySem.Challenge.rw_sortstretches_k43_hidden_errors.Holds := by
  w_on; o_law; k_head; (case hw => w_witness2)
  k_fill
  refine Xk.walkG (l := PySem.Challenge.rw_sortstretches_k43_hidden_errors) (m := 63) (n := 8) (x := "script") (CX := L2.CX0) (sp := L43.sp_law) rfl (by decide) rfl ⟨rfl, by decide, by decide⟩ (fun w h Y => PySem.W.kIn_of Y) ?F (fun K H a ns hl hO hS => ⟨a, ns, rfl, hS, hl, fun _ => rfl⟩) (fun _ _ _ _ h => h)
  case F =>
    intro w mg fa h KX G hmg
    refine' L43.all_mk KX G hmg ?a0 ?l0 ?c0 ?k0 ?a1 ?l1 ?c1 ?k1 ?a2 ?l2 ?c2 ?k2 ?a3 ?l3 ?c3 ?k3 ?a4 ?pg_HiddenScript_size ?pt_HiddenScript_size ?pr_HiddenScript_size ?l4 ?c4 ?k4 ?a5 ?pg_HiddenScript_questions ?pt_HiddenScript_questions ?pr_HiddenScript_questions ?l5 ?c5 ?k5 ?a6 ?l6 ?c6 ?k6 ?a7 ?l7 ?c7 ?k7 ?a8 ?l8 ?c8 ?k8 ?a9 ?if_HiddenScript_ask ?l9 ?c9 ?k9 ?a10 ?l10 ?c10 ?k10 ?a11 ?l11 ?c11 ?k11 ?a12 ?if_HiddenScript_init ?l12 ?c12 ?k12 ?a13 ?l13 ?c13 ?k13 ?a14 ?l14 ?c14 ?k14 ?aC_HiddenScript ?cpg_HiddenScript ?chd_HiddenScript ?cpo_HiddenScript ?csa_HiddenScript ?cmk_HiddenScript ?ckc_HiddenScript ?na_HiddenScript_commands ?na_HiddenScript_questions ?na_HiddenScript_size ?aC_InvalidCommand ?aC_InvalidNumber ?aC_InvalidRow ?aC_InvalidSize ?aC_NothingToUndo ?aC_SortError ?aC_UnequalSizes ?aC_Unreadable ?eS ?hS ?tS ?nX ?uX ?aX_InvalidCommand ?mX_InvalidCommand ?is_InvalidCommand_InvalidCommand ?is_InvalidCommand_InvalidNumber ?is_InvalidCommand_InvalidRow ?is_InvalidCommand_InvalidSize ?is_InvalidCommand_NothingToUndo ?is_InvalidCommand_UnequalSizes ?is_InvalidCommand_Unreadable ?is_InvalidCommand_ValueError ?aX_InvalidSize ?mX_InvalidSize ?is_InvalidSize_InvalidCommand ?is_InvalidSize_InvalidNumber ?is_InvalidSize_InvalidRow ?is_InvalidSize_InvalidSize ?is_InvalidSize_NothingToUndo ?is_InvalidSize_UnequalSizes ?is_InvalidSize_Unreadable ?is_InvalidSize_ValueError ?aX_UnequalSizes ?mX_UnequalSizes ?is_UnequalSizes_InvalidCommand ?is_UnequalSizes_InvalidNumber ?is_UnequalSizes_InvalidRow ?is_UnequalSizes_InvalidSize ?is_UnequalSizes_NothingToUndo ?is_UnequalSizes_UnequalSizes ?is_UnequalSizes_Unreadable ?is_UnequalSizes_ValueError ?xL_InvalidCommand ?sa_InvalidCommand ?ga_InvalidCommand ?gg_InvalidCommand ?nb_InvalidCommand ?iC_InvalidCommand ?tI_InvalidCommand ?lI_InvalidCommand ?cI_InvalidCommand ?kI_InvalidCommand ?kC_InvalidCommand ?eC_InvalidCommand ?tC_InvalidCommand ?hC_InvalidCommand ?sC_InvalidCommand ?xL_InvalidSize ?sa_InvalidSize ?ga_InvalidSize ?gg_InvalidSize ?nb_InvalidSize ?iC_InvalidSize ?tI_InvalidSize ?lI_InvalidSize ?cI_InvalidSize ?kI_InvalidSize ?kC_InvalidSize ?eC_InvalidSize ?tC_InvalidSize ?hC_InvalidSize ?sC_InvalidSize ?xL_UnequalSizes ?sa_UnequalSizes ?ga_UnequalSizes ?gg_UnequalSizes ?nb_UnequalSizes ?iC_UnequalSizes ?tI_UnequalSizes ?lI_UnequalSizes ?cI_UnequalSizes ?kI_UnequalSizes ?kC_UnequalSizes ?eC_UnequalSizes ?tC_UnequalSizes ?hC_UnequalSizes ?sC_UnequalSizes ?z_ValueError ?z_abs ?z_enumerate ?z_int ?z_isinstance ?z_len ?z_list ?z_max ?z_min ?z_range ?z_sorted
    (case aC_HiddenScript => k_is); (case aC_InvalidCommand => k_is); (case aC_InvalidNumber => k_is); (case aC_InvalidRow => k_is); (case aC_InvalidSize => k_is); (case aC_NothingToUndo => k_is); (case aC_SortError => k_is); (case aC_UnequalSizes => k_is); (case aC_Unreadable => k_is); (case a0 => k_is); (case l0 => k_is); (case c0 => k_is); (case k0 => k_is); (case a1 => k_is); (case l1 => k_is); (case c1 => k_is); (case k1 => k_is); (case a2 => k_is); (case l2 => k_is); (case c2 => k_is); (case k2 => k_is); (case a3 => k_is); (case l3 => k_is); (case c3 => k_is); (case k3 => k_is); (case a4 => k_is); (case pg_HiddenScript_size => k_is); (case pt_HiddenScript_size => k_is); (case pr_HiddenScript_size => k_is); (case l4 => k_is); (case c4 => k_is); (case k4 => k_is); (case a5 => k_is); (case pg_HiddenScript_questions => k_is); (case pt_HiddenScript_questions => k_is); (case pr_HiddenScript_questions => k_is); (case l5 => k_is); (case c5 => k_is); (case k5 => k_is); (case a6 => k_is); (case l6 => k_is); (case c6 => k_is); (case k6 => k_is); (case a7 => k_is); (case l7 => k_is); (case c7 => k_is); (case k7 => k_is); (case a8 => k_is); (case l8 => k_is); (case c8 => k_is); (case k8 => k_is); (case a9 => k_is); (case if_HiddenScript_ask => k_is); (case l9 => k_is); (case c9 => k_is); (case k9 => k_is); (case a10 => k_is); (case l10 => k_is); (case c10 => k_is); (case k10 => k_is); (case a11 => k_is); (case l11 => k_is); (case c11 => k_is); (case k11 => k_is); (case a12 => k_is); (case if_HiddenScript_init => k_is); (case l12 => k_is); (case c12 => k_is); (case k12 => k_is); (case a13 => k_is); (case l13 => k_is); (case c13 => k_is); (case k13 => k_is); (case a14 => k_is); (case l14 => k_is); (case c14 => k_is); (case k14 => k_is); (case cpg_HiddenScript => k_is); (case chd_HiddenScript => k_is); (case cpo_HiddenScript => k_is); (case csa_HiddenScript => k_is); (case cmk_HiddenScript => k_is); (case ckc_HiddenScript => k_is); (case na_HiddenScript_commands => k_is); (case na_HiddenScript_questions => k_is); (case na_HiddenScript_size => k_is); (case eS => k_is); (case hS => k_is); (case tS => k_is); (case nX => k_is); (case uX => k_is); (case aX_InvalidCommand => k_is); (case mX_InvalidCommand => k_is); (case is_InvalidCommand_InvalidCommand => kit_is); (case is_InvalidCommand_InvalidNumber => kit_is); (case is_InvalidCommand_InvalidRow => kit_is); (case is_InvalidCommand_InvalidSize => kit_is); (case is_InvalidCommand_NothingToUndo => kit_is); (case is_InvalidCommand_UnequalSizes => kit_is); (case is_InvalidCommand_Unreadable => kit_is); (case is_InvalidCommand_ValueError => kit_is); (case aX_InvalidSize => k_is); (case mX_InvalidSize => k_is); (case is_InvalidSize_InvalidCommand => kit_is); (case is_InvalidSize_InvalidNumber => kit_is); (case is_InvalidSize_InvalidRow => kit_is); (case is_InvalidSize_InvalidSize => kit_is); (case is_InvalidSize_NothingToUndo => kit_is); (case is_InvalidSize_UnequalSizes => kit_is); (case is_InvalidSize_Unreadable => kit_is); (case is_InvalidSize_ValueError => kit_is); (case aX_UnequalSizes => k_is); (case mX_UnequalSizes => k_is); (case is_UnequalSizes_InvalidCommand => kit_is); (case is_UnequalSizes_InvalidNumber => kit_is); (case is_UnequalSizes_InvalidRow => kit_is); (case is_UnequalSizes_InvalidSize => kit_is); (case is_UnequalSizes_NothingToUndo => kit_is); (case is_UnequalSizes_UnequalSizes => kit_is); (case is_UnequalSizes_Unreadable => kit_is); (case is_UnequalSizes_ValueError => kit_is); (case xL_InvalidCommand => k_is); (case sa_InvalidCommand => k_is); (case ga_InvalidCommand => k_is); (case gg_InvalidCommand => k_is); (case nb_InvalidCommand => k_is); (case iC_InvalidCommand => k_is); (case tI_InvalidCommand => k_is); (case lI_InvalidCommand => k_is); (case cI_InvalidCommand => k_is); (case kI_InvalidCommand => k_is); (case kC_InvalidCommand => k_is); (case eC_InvalidCommand => k_is); (case tC_InvalidCommand => k_is); (case hC_InvalidCommand => k_is); (case sC_InvalidCommand => k_is); (case xL_InvalidSize => k_is); (case sa_InvalidSize => k_is); (case ga_InvalidSize => k_is); (case gg_InvalidSize => k_is); (case nb_InvalidSize => k_is); (case iC_InvalidSize => k_is); (case tI_InvalidSize => k_is); (case lI_InvalidSize => k_is); (case cI_InvalidSize => k_is); (case kI_InvalidSize => k_is); (case kC_InvalidSize => k_is); (case eC_InvalidSize => k_is); (case tC_InvalidSize => k_is); (case hC_InvalidSize => k_is); (case sC_InvalidSize => k_is); (case xL_UnequalSizes => k_is); (case sa_UnequalSizes => k_is); (case ga_UnequalSizes => k_is); (case gg_UnequalSizes => k_is); (case nb_UnequalSizes => k_is); (case iC_UnequalSizes => k_is); (case tI_UnequalSizes => k_is); (case lI_UnequalSizes => k_is); (case cI_UnequalSizes => k_is); (case kI_UnequalSizes => k_is); (case kC_UnequalSizes => k_is); (case eC_UnequalSizes => k_is); (case tC_UnequalSizes => k_is); (case hC_UnequalSizes => k_is); (case sC_UnequalSizes => k_is); (case z_ValueError => k_is); (case z_abs => k_is); (case z_enumerate => k_is); (case z_int => k_is); (case z_isinstance => k_is); (case z_len => k_is); (case z_list => k_is); (case z_max => k_is); (case z_min => k_is); (case z_range => k_is); (case z_sorted => k_is)
