import PyProof.Rows.All
import Wide.All
import OpenK.AllK
import Wide.FinOn
import HandS.Base
import HandS.Call
import HandS.List
import HandS.Ends
import HandS.Wide
import HandS.Iter
import HandS.Conv
import HandS.ForMost
import HandS.ForExc
import HandS.SortInts
import HandS.SortKw
import HandS.SetFor
import HandS.Style
import HandS.Codes
import HandS.Strs
import HandS.Walk
import HandS.IsInst
import HandS.NoneIn
import HandS.Deep
import HandS.More
import PySem.Challenge.RW_sortstretches_k04_inversions_counted
set_option maxHeartbeats 20000000
set_option Elab.async false
set_option linter.all false
set_option maxRecDepth 100000
namespace Xk
open PySem PySem.Spec PyProof.Rows L2

/-- a def's promise where no list is being written out around the call -/
structure FnG (P : Program) (w : World) (K : PySem.W.Frag) (mg : Str → Option Value) (B : Heap) (CX : CXT) (n : Nat) (g : Addr) (fd : FuncData) (ps : List Str) (sp : Sp) : Prop where
  cnt : ∀ vs H Q E, sp vs H Q E → vs.length = ps.length
  go : ∀ (A : Around) (ou : List Env) (t : Shared) (H : Hp) (ar : Args) (us : List Value) (vs : List V) (Q : VK) (E : XK),
    A.guards = some [] → Room n A → Env0 P w K mg B A ou t H → BindsTo t fd ar (ps.zip us) → Vals vs us → sp vs H Q E →
      codeAny (model P w) A (.call (.ref g) ar) (CR CX ou P w H t Q E) t

theorem FnG.of {P : Program} {w : World} {K : PySem.W.Frag} {mg : Str → Option Value} {B : Heap} {CX : CXT} {n : Nat} {g : Addr} {fd : FuncData} {ps : List Str} {sp : Sp}
    (F : FnOk P w K mg B CX n g fd ps sp) : FnG P w K mg B CX n g fd ps sp :=
  ⟨F.len, fun A ou t H ar us vs Q E _ room env bi rv hs => F.run A ou t H ar us vs Q E room env bi rv hs⟩

section
variable {X : Cx} {CX : CXT} {n : Nat} {g : Addr} {fd : FuncData} {ps ks : List Str} {sp : Sp} {dvs : List V} {ds : List Value} {E : XK} {x : Str} {p pos : Pos} {e : Expr} {es : List Expr} {kws : List Keyword} {t tk : TA}

theorem endG {pins : List (Addr × Obj)} {σ : L2.St} {H : Hp} {s s' : Shared} {Q : VK} {r : Result} (pas : Passes CX X E) (I : Inv X pins σ H s)
    (z : CR CX X.stack X.prog X.w H s Q E r s') :
    (match r with | .ok (.ret u) => EP X pins σ Q u s' | .ok _ => False | .error er => X.xe er s') := by
  match r, z with
  | .error er, z => exact pas pins σ H s er s' I z
  | .ok (.ret u), z => exact I.after z
  | .ok .next, z => exact z.elim
  | .ok .brk, z => exact z.elim
  | .ok .cont, z => exact z.elim

theorem goG {pins : List (Addr × Obj)} {σ : L2.St} {H : Hp} {s : Shared} {Q : VK} {us : List Value} {vs : List V} (F : FnG X.prog X.w X.K X.mg X.base CX n g fd ps sp)
    (hG : X.A.guards = some []) (room : Room n X.A) (bi : Binds X.K fd ps ds) (dv : Vals dvs ds) (pas : Passes CX X E) (I : Inv X pins σ H s) (rv : Vals vs us) (z : sp (vs ++ dvs) H Q E) :
    wpAny (model X.prog X.w) X.A (PySem.call (.ref g) us) (EP X pins σ Q) X.xe s := by
  have rv2 := rv.append dv
  have hlen : (us ++ ds).length = ps.length := rv2.length ▸ F.cnt _ _ _ _ z
  exact wpAny_call (codeAny_mono (F.go X.A X.stack s H ⟨us, []⟩ _ _ Q E hG room I.env0 (bi s us I.kIn hlen) rv2 z) fun r s' y => by
    have := endG pas I y
    revert this
    cases r with
    | error _ => exact id
    | ok fl => cases fl <;> exact id)

theorem pe_callG (F : FnG X.prog X.w X.K X.mg X.base CX n g fd ps sp) (hG : X.A.guards = some []) (room : Room n X.A) (gx : Gl X x) (at' : X.mg x = some (.ref g)) (kp : PySem.W.keepIn X.K (.ref g) = true)
    (bi : Binds X.K fd ps ds) (dv : Vals dvs ds) (pas : Passes CX X E) (ha : PA X (e :: es) t) (hdb : (x == ("__debug__" : Str)) = false := by decide)
    (he : starEach (e :: es) X.env = (false, eval e X.env) :: starEach es X.env := by rfl) (hpl : (backTo pos (starEach es X.env)).any (·.1) = false := by rfl) : PE X (.Call (.Name x p) (e :: es) [] pos) (tCall sp dvs E t) :=
  ⟨fun pins s σ H Q I z => wpAny_Call_Name_kw (ld_glob I gx at'
    (PySem.W.callWith_K (h₀ := X.base) I.ok.mod.kin kp (thn (ha.run pos pins s σ H _ I z) fun us s1 ⟨vs, H1, I1, r, q⟩ => ⟨I1.kIn, goG F hG room bi dv pas I1 r q⟩) he hpl) hdb)⟩

variable {ff : List Value → List Value → List Value} {fV : List V → List V → List V}
theorem goGK {pins : List (Addr × Obj)} {σ : L2.St} {H : Hp} {s : Shared} {Q : VK} {us ws : List Value} {vs zs : List V} (F : FnG X.prog X.w X.K X.mg X.base CX n g fd ps sp)
    (hG : X.A.guards = some []) (room : Room n X.A) (bi : KBinds X.K fd ps ks ff fV) (pas : Passes CX X E) (I : Inv X pins σ H s) (rv : Vals vs us) (rw' : Vals zs ws) (z : sp (fV vs zs) H Q E) :
    wpAny (model X.prog X.w) X.A (PySem.call (.ref g) us (ks.zip ws)) (EP X pins σ Q) X.xe s := by
  have rv2 := bi.rel rv rw'
  have hlen : (ff us ws).length = ps.length := rv2.length ▸ F.cnt _ _ _ _ z
  exact wpAny_call (codeAny_mono (F.go X.A X.stack s H ⟨us, ks.zip ws⟩ _ _ Q E hG room I.env0 (bi.to s us ws I.kIn hlen) rv2 z) fun r s' y => by
    have := endG pas I y
    revert this
    cases r with
    | error _ => exact id
    | ok fl => cases fl <;> exact id)

/-- f(e, .., k = v, ..) -/
theorem pe_callKG (F : FnG X.prog X.w X.K X.mg X.base CX n g fd ps sp) (hG : X.A.guards = some []) (room : Room n X.A) (gx : Gl X x) (at' : X.mg x = some (.ref g)) (kp : PySem.W.keepIn X.K (.ref g) = true)
    (bi : KBinds X.K fd ps ks ff fV) (pas : Passes CX X E) (ha : PA X (e :: es) t) (hkw : PK X kws tk) (hdb : (x == ("__debug__" : Str)) = false := by decide)
    (all' : (backToKw pos (keywordEach kws X.env)).all (·.1.isSome) = true := by rfl) (nms : (backToKw pos (keywordEach kws X.env)).filterMap (·.1) = ks := by rfl)
    (he : starEach (e :: es) X.env = (false, eval e X.env) :: starEach es X.env := by rfl)
    (hpl : ((backTo pos (starEach (e :: es) X.env)).any (·.1) || (backToKw pos (keywordEach kws X.env)).any (·.1.isNone)) = false := by rfl) :
    PE X (.Call (.Name x p) (e :: es) kws pos) (tCallK sp fV E t tk) := by
  subst nms
  exact ⟨fun pins s σ H Q I z => wpAny_Call_Name_kw (ld_glob I gx at'
    (PySem.W.callWith_KW (h₀ := X.base) I.ok.mod.kin kp all' (thn (ha.run pos pins s σ H _ I z) fun us s1 ⟨vs, H1, I1, r, q⟩ =>
      thn (hkw.run pos pins s1 σ H1 _ I1 q) fun ws s2 ⟨zs, H2, I2, rz, q2⟩ => ⟨I2.kIn, goGK F hG room bi pas I2 r rz q2⟩) hpl he) hdb)⟩
/-- f(k = v, ..) -/
theorem pe_callKG0 (F : FnG X.prog X.w X.K X.mg X.base CX n g fd ps sp) (hG : X.A.guards = some []) (room : Room n X.A) (gx : Gl X x) (at' : X.mg x = some (.ref g)) (kp : PySem.W.keepIn X.K (.ref g) = true)
    (bi : KBinds X.K fd ps ks ff fV) (pas : Passes CX X E) (hkw : PK X kws tk) (hdb : (x == ("__debug__" : Str)) = false := by decide)
    (all' : (backToKw pos (keywordEach kws X.env)).all (·.1.isSome) = true := by rfl) (nms : (backToKw pos (keywordEach kws X.env)).filterMap (·.1) = ks := by rfl)
    (hpl : ((backTo pos (starEach [] X.env)).any (·.1) || (backToKw pos (keywordEach kws X.env)).any (·.1.isNone)) = false := by rfl) :
    PE X (.Call (.Name x p) [] kws pos) (tCallK sp fV E tNil tk) := by
  subst nms
  exact ⟨fun pins s σ H Q I z => wpAny_Call_Name_kw (ld_glob I gx at'
    (PySem.W.callWith_KW0 (h₀ := X.base) I.ok.mod.kin kp all' (thn (hkw.run pos pins s σ H _ I z) fun ws s2 ⟨zs, H2, I2, rz, q2⟩ => ⟨I2.kIn, goGK F hG room bi pas I2 .nil rz q2⟩) hpl) hdb)⟩
end

/-- a def of the text by its body, the guards known -/
theorem fnG_of {P : Program} {w : World} {K : PySem.W.Frag} {mg : Str → Option Value} {B : Heap} {CX : CXT} {n : Nat} {g : Addr} {nm qual : Str} {pars : Arguments} {bd : List Stmt} {sc : Scope} {dV kV doc pm cdv ct oc : Value} {an od : Option Addr}
    {osl : Array (Option Value)} {N ps : List Str} {sp : Sp} (lk : K.lookup g = some ⟨oc, od, .func (PySem.W.fnOf nm qual pars bd sc dV kV doc pm an cdv ct), osl⟩) (hcd : PySem.W.codeIn K cdv qual = true) (S : FnScope N ps sc)
    (cnt : ∀ vs H Q E, sp vs H Q E → vs.length = ps.length)
    (body : ∀ (A : Around) (ou : List Env) (t : Shared) (H : Hp) (vs : List V) (Q : VK) (E : XK), A.guards = some [] → Room n (A.deeper (envOfC qual sc t.heap.objs.size g cdv)) → sp vs H Q E →
      ∃ r, PSs (cxOf CX P w K mg B N qual sc g cdv A ou t H E) bd r ∧ r { nx := fun _ H' => Q .non H', rt := Q } (L2.start N vs) H) :
    FnG P w K mg B CX (n + 1) g (PySem.W.fnOf nm qual pars bd sc dV kV doc pm an cdv ct) ps sp where
  cnt := cnt
  go A ou t H ar us vs Q E hG room env bi rv z := by
    have kin := env.mod.kin.keeps fun b o e => (env.bs b o e).1
    have lim := env.mod.nolimit.keeps fun b o e => (env.bs b o e).1
    have kinds : ∀ y ∈ ps.zip us, sc.names.lookup y.1 = some .local ∨ (sc.names.lookup y.1 = some .cell ∧ ((cellsFrom (t.heap.objs.size + 1) sc.names []).lookup y.1).isSome = true) := fun y hy =>
      (S.par y.1 (List.of_mem_zip (a := y.1) (b := y.2) hy).1).imp id fun q => ⟨q, PySem.W.cellsFrom_some _ _ _ (.inl q)⟩
    refine codeAny_call_function room.depth (kin _ _ lk) rfl S.co S.gen rfl (PySem.W.codeRec_of kin hcd) (bi _ _ _ _ (wpAny_newFunctionEnv_cells S.kind kinds fun env' he t1 x => ?_))
    subst he
    obtain ⟨r, hr, hq⟩ := body A ou t H vs Q E hG (room.deeper _) z
    refine ⟨lim.keeps x.toInCall.keep, codeAny_func (wpAny_mono (hr.run [] t1 (L2.start N vs) H _ (inv_start S room.hd env (cnt _ _ _ _ z) rv x) hq) (fun fl t' y => ?_) fun e t' y => y)⟩
    match fl, y with
    | .ret u, ⟨v, σ', H', J, ru, q⟩ => exact ⟨v, H', J.os, J.bare, J.base, J.hok, ru, q⟩
    | .next, ⟨σ', H', J, q⟩ => exact ⟨V.non, H', J.os, J.bare, J.base, J.hok, rfl, q⟩
    | .brk, ⟨_, _, _, q⟩ => exact q.elim
    | .cont, ⟨_, _, _, q⟩ => exact q.elim

/-- the law's call at the claim's caller, over an abstract heap that tracks the script at most -/
theorem lawG0 {P : Program} {w : World} {K : PySem.W.Frag} {mg mb : Str → Option Value} {CX : CXT} {n : Nat} {fa a : Addr} {fd : FuncData} {x : Str} {sp : Sp} {t : Shared} {vs : List Value} {H : Hp}
    (kin : K.In t.heap) (hm : t.heap.Ns mainGlobals mg) (hb : t.heap.Ns builtinsNs mb) (hbb : ∀ y : Str, y ≠ "__name__" → mb y = bootBuiltins y) (lim : t.heap.NoLimit) (gens : t.gens = #[])
    (ha : t.heap.get? a = some { cls := .type "list", data := .seq vs.toArray }) (room : Room n callerA)
    (F : ∀ B : Heap, K.In B → B.Ns mainGlobals mg → FnG P w K mg B CX n fa fd [x] sp) (bi : ∀ (s : Shared) (u : Value), BindsTo s fd ⟨[u], []⟩ [(x, u)])
    (z : sp [.ref a] H (fun v _ => v = .bl true) fun _ _ _ => False) (noX : ∀ H e s', CX [] H t (fun _ _ _ => False) e s' → False)
    (only : Only H) (hok : HOk P w H t.heap) (hA : ∀ b, H b ≠ none → b = a) (hK : H a ≠ none → K.lookup a = none) :
    codeAny (model P w) callerA (.call (.ref fa) ⟨[.ref a], []⟩) (fun r s' => r = .ok (.ret (.bool true)) ∧ OldK t.heap s'.heap ∧ s'.os = t.os ∧ AllBare s'.gens) t := by
  have free : ∀ {b : Addr}, b ≠ a → H b = none := fun {b} hne => Classical.byContradiction fun q => hne (hA b q)
  have low : ∀ {b : Addr} {o : Obj}, t.heap.get? b = some o → H b = none → (hidT t.heap H).get? b = some o := fun e q => hidT_get e q
  have dict : ∀ {b : Addr} {o : Obj} {es : Array DictEntry} {ep : Nat}, t.heap.get? b = some o → o.data = .dict es ep → H b = none := fun {b o es ep} e d => free fun q => by
    subst q
    rw [ha] at e
    cases e
    exact nomatch (show Data.seq vs.toArray _ = Data.dict es ep from d)
  have ns : ∀ {b : Addr} {m : Str → Option Value}, t.heap.Ns b m → (hidT t.heap H).Ns b m := fun ⟨o, es, ep, e, d, r⟩ => ⟨o, es, ep, low e (dict e d), d, r⟩
  have kb : K.In (hidT t.heap H) := fun b o e => low (kin b o e) (by
    by_cases q : b = a
    · subst q
      exact Classical.byContradiction fun y => by rw [hK y] at e; cases e
    · exact free q)
  obtain ⟨mc, l1, l2⟩ := lim
  have env : Env0 P w K mg (hidT t.heap H) callerA [] t H :=
    { frames := rfl, mod := ⟨kb, ns hm, ⟨mb, ns hb, hbb⟩, ⟨mc, ns l1, l2⟩⟩, bs := fun b o e => of_hidT e, bsz := Nat.le_of_eq (hidT_size _ _), funs := trivial,
      frf := fun b q => absurd (show b ∈ ([] : List Addr) from q) (by simp), hok := hok, bare := .of_eq gens }
  refine codeAny_mono ((F _ kb (ns hm)).go callerA [] t H ⟨[.ref a], []⟩ [.ref a] [.ref a] _ _ rfl room env (bi t (.ref a)) (.cons rfl .nil) z) fun r s' y => ?_
  match r, y with
  | .error e, y => exact (noX H e s' y).elim
  | .ok (.ret u), ⟨v, H', os, bare, un, hok', ru, q⟩ =>
    cases (show v = .bl true from q)
    cases (show u = Value.bool true from ru)
    refine ⟨rfl, OldK.of_keep fun b o e => ?_, os, bare⟩
    match hq : H b with
    | none => exact un.keep b o e hq (by intro q; exact absurd (show b ∈ ([] : List Addr) from q) (by simp)) (by simp)
    | some u =>
      rcases only b with q | ⟨ob, xs, q⟩
      · rw [hq] at q; cases q
      · obtain ⟨e1, _⟩ := hok b _ q
        obtain ⟨e2, _⟩ := hok' b _ (un.frzs b ob _ q)
        rw [e] at e1; cases e1
        exact e2

theorem lawG {P : Program} {w : World} {K : PySem.W.Frag} {mg mb : Str → Option Value} {CX : CXT} {n : Nat} {fa a : Addr} {fd : FuncData} {x : Str} {sp : Sp} {t : Shared} {vs : List Value} {ns : List Int}
    (kin : K.In t.heap) (hm : t.heap.Ns mainGlobals mg) (hb : t.heap.Ns builtinsNs mb) (hbb : ∀ y : Str, y ≠ "__name__" → mb y = bootBuiltins y) (lim : t.heap.NoLimit) (gens : t.gens = #[])
    (ha : t.heap.get? a = some { cls := .type "list", data := .seq vs.toArray }) (hi : IntsAre vs ns) (hl : ns.length ≤ sizeLine) (room : Room n callerA)
    (F : ∀ B : Heap, K.In B → B.Ns mainGlobals mg → FnG P w K mg B CX n fa fd [x] sp) (bi : ∀ (s : Shared) (u : Value), BindsTo s fd ⟨[u], []⟩ [(x, u)])
    (z : ∀ H : Hp, Only H → SqL K H a (ns.map V.int) → sp [.ref a] H (fun v _ => v = .bl true) fun _ _ _ => False) (noX : ∀ H e s', CX [] H t (fun _ _ _ => False) e s' → False) :
    codeAny (model P w) callerA (.call (.ref fa) ⟨[.ref a], []⟩) (fun r s' => r = .ok (.ret (.bool true)) ∧ OldK t.heap s'.heap ∧ s'.os = t.os ∧ AllBare s'.gens) t := by
  have rv := vals_ints hi
  match hk : K.lookup a with
  | some o =>
    have e := kin a o hk
    rw [ha] at e
    cases e
    have on : Only fun _ => none := fun _ => .inl rfl
    exact lawG0 kin hm hb hbb lim gens ha room F bi (z _ on (.inr ⟨_, vs.toArray, _, hk, rfl, rfl, rfl, by rw [List.size_toArray, hi.length]; exact hl, by simpa using rv⟩)) noX on
      (fun b u q => nomatch (show (none : Option HO) = some u from q)) (fun b q => absurd rfl q) fun q => absurd rfl q
  | none =>
    have at0 : ∀ {b : Addr}, b ≠ a → (if b = a then some (HO.frz { cls := .type "list", data := .seq vs.toArray } (.lst (ns.map V.int))) else none) = none := fun q => if_neg q
    have on : Only fun b => if b = a then some (HO.frz { cls := .type "list", data := .seq vs.toArray } (.lst (ns.map V.int))) else none := fun b => by
      by_cases q : b = a
      · exact .inr ⟨_, _, if_pos q⟩
      · exact .inl (if_neg q)
    refine lawG0 kin hm hb hbb lim gens ha room F bi (z _ on (.inl (.inr ⟨_, if_pos rfl⟩))) noX on (fun b u q => ?_) (fun b q => Classical.byContradiction fun y => q (if_neg y)) fun _ => hk
    by_cases y : b = a
    · subst y
      cases (if_pos rfl).symm.trans q
      exact ⟨ha, by rw [List.length_map]; exact hl, vs, _, rv, ha⟩
    · cases (at0 y).symm.trans q

/-- the goal that the head leaves, from the law's promise -/
theorem walkG {l : PySem.W.OpenLaw} {m n : Nat} {q : Program} {loose : List Str} {XP : (Str → Option Value) → Heap → Prop} {YP : World → Heap → Prop} {d : DefRec} {K : Params → PySem.W.Frag} {CX : CXT} {sp : PySem.W.Frag → Sp} {x : Str}
    (hn : l.most = some m) (hm : m ≤ sizeLine) (hdf : d.params.defaults = []) (room : Room n callerA) (hY : ∀ (w : World) (h : Heap), YP w h → (K w.params).In h)
    (F : ∀ (w : World) (mg : Str → Option Value) (fa : Addr) (h : Heap), (K w.params).In h → h.Ns mainGlobals mg → mg d.name = some (.ref fa) →
      ∃ fd : FuncData, (∀ (s : Shared) (u : Value), BindsTo s fd ⟨[u], []⟩ [(x, u)]) ∧
        ∀ B : Heap, (K w.params).In B → B.Ns mainGlobals mg → FnG l.prog w (K w.params) mg B CX n fa fd [x] (sp (K w.params)))
    (z : ∀ (K : PySem.W.Frag) (H : Hp) (a : Addr) (ns : List Int), ns.length ≤ m → Only H → SqL K H a (ns.map V.int) → sp K [.ref a] H (fun v _ => v = .bl true) fun _ _ _ => False)
    (noX : ∀ (H : Hp) (s : Shared) (e : Value) (s' : Shared), CX [] H s (fun _ _ _ => False) e s' → False) : PySem.W.WalkO q loose XP YP l.row.toRowW d [] (fun f vs => PySem.call f vs) :=
  Att.attach_call hn hdf fun w s0 s1 mg mb fa o pm cd doc a vs ns G Y ho hd hcd hmg hobj hints hlen hg =>
    have ⟨fd, hb, hF⟩ := F w mg fa _ (hY w _ Y) G.T.g hmg
    lawG (hY w _ Y) G.T.g G.T.b G.T.builtins G.T.nolimit hg hobj hints (Nat.le_trans hlen hm) room hF hb (fun H hO hS => z (K w.params) H a ns hlen hO hS) fun H e s' => noX H s1 e s'
end Xk

set_option Elab.async false
set_option linter.all false
set_option maxRecDepth 100000
namespace Xk
open PySem PySem.Spec PyProof.Rows L2

/-- ** with a whole exponent: base's bits times exponent within 2^27 -/
def CPowW (i j : Int) : Prop := 0 ≤ j ∧ (Builtin.Int.intBits i : Int) * j ≤ 2 ^ 27
section
variable {X : Cx}
theorem op_powW : OpR X (binaryOp .Pow) (rI CPowW fun i j => .int (i ^ j.toNat)) := opI fun _ _ _ _ _ _ _ hc q => pow_int hc.1 hc.2 q
end
theorem bits_le {i : Int} {n : Nat} (h : i.natAbs < 2 ^ n) : Builtin.Int.intBits i ≤ n := by
  unfold Builtin.Int.intBits
  split
  · omega
  · rename_i h0
    have h0' : i.natAbs ≠ 0 := by
      intro z
      apply h0
      simp [Int.natAbs_eq_zero.mp z]
    have := (Nat.log2_lt h0').mpr h
    omega
theorem powW {i : Int} {n : Nat} {j : Int} (h : i.natAbs < 2 ^ n) (h0 : 0 ≤ j) (hj : j ≤ 3) (hn : n ≤ 40000000) : CPowW i j := by
  refine ⟨h0, ?_⟩
  have h1 := bits_le h
  have : (Builtin.Int.intBits i : Int) * j ≤ 40000000 * 3 := by
    refine Int.mul_le_mul ?_ hj h0 (by omega)
    omega
  refine Int.le_trans this (by decide)

/-! ### xs[i] read for op= -/
section
variable {X : Cx}
theorem get_list : PGet X (rIxL X.K) := by
  intro pins s σ H o i ov iv Q I ro ri h
  obtain ⟨p, xs, k, z, rfl, rfl, hq, he, q⟩ := h
  cases ro
  obtain ⟨t, rfl⟩ := ri
  obtain ⟨its, r, pl, hz⟩ := I.list hq
  obtain ⟨j, h1, h2, h3, h4, h5⟩ := atI_get he
  obtain ⟨u, eu, ru⟩ := r.get h2
  have hl := r.length
  have hn := line63
  by_cases h0 : 0 ≤ k
  · have hj : k.toNat = j := by
      rw [seqIndex_of h0 h5] at h1
      exact Option.some.inj h1
    exact wpAny_getItem_list pl.isList h0 (by omega) (by rw [hj]; simpa using eu) ⟨z, H, I, ru, q⟩
  · have hj : (k + (its.toArray.size : Int)).toNat = j := by
      rw [seqIndex_neg (by omega) h4] at h1
      rw [List.size_toArray, ← hl]
      exact Option.some.inj h1
    exact wpAny_getItem_list_neg pl.isList (by omega) (by rw [List.size_toArray] <;> omega) (by omega) (by rw [hj]; simpa using eu) ⟨z, H, I, ru, q⟩
end

/-! ### xs[a:c] = ys -/
section
variable {X : Cx} {o : Expr} {lo hi : Option Expr} {to : TE} {tl th : TO} {p2 pos : Pos}
def gSlc (to : TE) (tl th : TO) : TG := fun v σ H Q => to σ H fun x H1 => tl σ H1 fun l H2 => th σ H2 fun u H3 =>
  ∃ (p b : Addr) (xs ys : List V) (a c : Int), x = .ref p ∧ v = .ref b ∧ l = some a ∧ u = some c ∧ H3 p = some (.lst xs) ∧ H3 b = some (.lst ys) ∧ p ≠ b ∧ 0 ≤ a ∧ a ≤ c ∧ c ≤ xs.length ∧ xs.length + ys.length ≤ sizeLine ∧
    Q σ (upd H3 p (.lst (xs.take a.toNat ++ ys ++ xs.drop c.toNat)))
theorem pg_slc (ho : PE X o to) (hl : PO X lo tl) (hu : PO X hi th) : PG X (.Subscript o (.Slice lo hi none p2) pos) (gSlc to tl th) := by
  refine ⟨fun pins s σ H v u Q I r z => ?_⟩
  rw [arm_assign_Subscript]
  refine wpAny_bind (wpAny_holding (thn (ho.run pins s σ H _ I z) fun ov s1 ⟨x, H1, I1, r1, q1⟩ => ?_))
  refine wpAny_bind (wpAny_holding (wpAny_Slice (thn (hl.run pins s1 σ H1 _ I1 q1) fun vl s2 ⟨l, H2, I2, pl, q2⟩ => thn (hu.run pins s2 σ H2 _ I2 q2) fun vu s3 ⟨c', H3, I3, pu, q3⟩ => ?_)))
  rw [evalPart_none]
  refine wpAny_pure ?_
  obtain ⟨p, b, xs, ys, a, c, rfl, rfl, rfl, rfl, hp, hb, hne, h0, hac, hc, hz, q⟩ := q3
  cases r1
  cases r
  cases pl with
  | int _ ta =>
    cases pu with
    | int _ tc =>
      have I4 : Inv X pins σ H3 { s3 with heap := s3.heap.push { cls := .type "slice", data := .fields #[.int a ta, .int c tc, .none] } } := I3.kept (t' := s3.toks) fun b ob q => Heap.get?_push_of_some _ q
      refine wpAny_bind (wpAny_standAt (wpAny_bind (wpAny_holding (set_slice I4 hp hb hne (Heap.IsSliceOf.new ..) ⟨ta, rfl⟩ ⟨tc, rfl⟩ h0 hac hc hz fun s' I5 => ?_))))
      exact wpAny_release ⟨σ, _, I5, q⟩
end

/-! ### repr of lists -/
section
variable {X : Cx}
mutual
theorem dp_nodict {K : PySem.W.Frag} {H : Hp} : ∀ (d : PyData) (v : V), Dp K H v d → d.hasDict = false
  | .none, _, _ => rfl
  | .bool _, _, _ => rfl
  | .int _, _, _ => rfl
  | .str _, _, _ => rfl
  | .list ds, _, h => by
    cases h with
    | lst _ a => exact dp_nodictAll ds _ a
  | .tuple ds, _, h => by
    cases h with
    | tup _ a => exact dp_nodictAll ds _ a
  | .dict _, _, h => by cases h
theorem dp_nodictAll {K : PySem.W.Frag} {H : Hp} : ∀ (ds : List PyData) (vs : List V), DpAll K H vs ds → PyData.hasDictAll ds = false
  | [], _, _ => rfl
  | d :: ds, _, h => by
    cases h with
    | cons a b =>
      show (d.hasDict || PyData.hasDictAll ds) = false
      rw [dp_nodict d _ a, dp_nodictAll ds _ b]
      rfl
end
def rReprD (K : PySem.W.Frag) : List V → Hp → VK → Prop := fun xs H Q => ∃ a d, xs = [.ref a] ∧ Dp K H (.ref a) d ∧ d.showable = true ∧ d.depth ≤ 60 ∧ d.shown.length ≤ sizeLine ∧ Q (.str d.shown) H
theorem call_reprD (hG : X.A.guards = some []) (hu : X.A.units + 64 < cLine) : CallR X (.builtin "repr") (rReprD X.K) := by
  intro pins s σ H xs us Q I r h
  obtain ⟨a, d, rfl, hd, hs, hdp, hz, q⟩ := h
  obtain ⟨u, rfl, rfl⟩ := vals1 r
  obtain ⟨as, rd⟩ := Dp.reads I d _ _ hd rfl
  exact repr_of_reads' rd hs (fun z => by rw [dp_nodict d _ hd] at z; cases z) hG (by omega) (fun b o e => e) (fun h' u tk k => ⟨.str d.shown, H, I.kept k, ⟨u, rfl⟩, q⟩) hz
end
end Xk

set_option Elab.async false
set_option linter.all false
set_option maxRecDepth 100000
namespace Xk
open PySem PySem.Spec PyProof.Rows L2
/-! ### list(range(a, b, c)) -/
def rg3V (i c : Int) (n : Nat) : List V := (List.range n).map fun k => V.int (i + (k : Nat) * c)
theorem rg3V_length (i c : Int) (n : Nat) : (rg3V i c n).length = n := by unfold rg3V; simp
theorem vals_rg3 {i c : Int} {n : Nat} {acc : Array Value} (h : ItemsOf (fun k v => ∃ t, v = .int (i + k * c) t) acc n) : Vals (rg3V i c n) acc.toList := by
  have e : acc.toList.length = n := by rw [Array.length_toList]; exact h.1
  unfold rg3V
  rw [← e]
  refine vals_of_get _ (fun k => V.int (i + (k : Nat) * c)) fun j u hu => ?_
  exact h.2 j u (by simpa using hu)
def tLst3 (ta : TA) : TE := fun σ H Q => ta σ H fun vs H1 => ∃ (i j c : Int) (n : Nat), vs = [.int i, .int j, .int c] ∧ RgC i j c n ∧ n ≤ 2 ^ 24 ∧ ∀ q, H1 q = none → Q (.ref q) (upd H1 q (.lst (rg3V i c n)))
section
variable {X : Cx} {a b c : Expr} {ta : TA} {p pos p1 pos1 : Pos}
theorem pe_listRg3 (calm : X.calm = true) (hl : Gl X "list") (ml : X.mg "list" = none) (hg : Gl X "range") (hm : X.mg "range" = none) (ha : PA X [a, b, c] ta)
    (hs : starEach [a, b, c] X.env = (false, eval a X.env) :: starEach [b, c] X.env := by rfl) (hpl : (backTo pos (starEach [b, c] X.env)).any (·.1) = false := by rfl)
    (na : starEach [Expr.Call (.Name "range" p) [a, b, c] [] pos] X.env = (false, eval (Expr.Call (.Name "range" p) [a, b, c] [] pos) X.env) :: starEach [] X.env := by rfl) :
    PE X (.Call (.Name "list" p1) [.Call (.Name "range" p) [a, b, c] [] pos] [] pos1) (tLst3 ta) := by
  refine ⟨fun pins s σ H Q I z => ?_⟩
  refine Call_ (ld_blt I hl ml boot_list (PyProof.Rows.callWith_type1 (args_cons (Call_ (ld_blt I hg hm boot_range (PyProof.Rows.callWith_type1 (thn (ha.run pos pins s σ H _ I z) fun us s1 ⟨vs, H1, I1, r1, q1⟩ => ?_) hs hpl))) na) na))
  obtain ⟨i, j, k, n, e, ⟨c0, c1, c2, c3⟩, hn, q⟩ := q1
  subst e
  cases r1 with
  | cons r rr =>
    cases rr with
    | cons r' rr =>
      cases rr with
      | cons r'' rr =>
        cases rr
        obtain ⟨t, rfl⟩ := r
        obtain ⟨t', rfl⟩ := r'
        obtain ⟨t'', rfl⟩ := r''
        refine call_range_3 c0 (args_nil ?_) (.inl (PyProof.noPylong_small c1))
        have I2 : Inv X pins σ H1 { s1 with heap := s1.heap.push { cls := .type "range", data := .fields #[.int i t, .int j t', .int k t''] }, toks := s1.toks } := I1.kept fun b o e => Heap.get?_push_of_some _ e
        refine call_list_range (n := n) (I2.ok.hd calm) (IsRange.new ..) c2 c3 hn fun h' tk acc c' hk e' hi => ?_
        refine ⟨.ref _, upd H1 _ (.lst (rg3V i k n)), I2.laid hk (Nat.le_refl _) (show ObjOk X.prog X.w _ _ _ (.lst (rg3V i k n)) from ⟨?_, acc.toList, c', vals_rg3 hi, ?_⟩), rfl, q _ (I2.hok.fresh (Nat.le_refl _))⟩
        · rw [rg3V_length]; exact hn
        · rw [Array.toArray_toList]; exact e'
end
end Xk

set_option Elab.async false
set_option linter.all false
set_option maxRecDepth 100000
namespace Xk
open PySem PySem.Spec PyProof.Rows L2

section
variable {P : Program} {w : World} {K : PySem.W.Frag} {mg : Str → Option Value} {base : Heap}
/-- a def by its body, the guards known, nothing raised -/
theorem okG {x qual : Str} {st : Stmt} {f : Addr} {fd : FuncData} {N ps : List Str} {k : Nat} {sp : Sp} (F : Fun K x qual st f fd) (S : FnScope N ps (defScope st)) (cnt : ∀ vs H Q E, sp vs H Q E → vs.length = ps.length)
    (body : ∀ (cdv : Value) (A : Around) (ou : List Env) (t : Shared) (H : Hp) (vs : List V) (Q : VK) (E : XK), A.guards = some [] → Room k (A.deeper (envOfC qual (defScope st) t.heap.objs.size f cdv)) → sp vs H Q E →
      ∃ r, PSs (cxOf CX0 P w K mg base N qual (defScope st) f cdv A ou t H E).nox (defBody st) r ∧ r ⟨fun _ H' => Q .non H', Q, fun _ _ => False, fun _ _ => False⟩ (L2.start N vs) H) : FnG P w K mg base CX0 (k + 1) f fd ps sp := by
  obtain ⟨oc, od, kV, doc, pm, an, cdv, ct, osl, rfl, lk, hcd⟩ := F.ex
  refine fnG_of lk hcd S cnt fun A ou t H vs Q E hG hr hsp => ?_
  obtain ⟨r, h, q⟩ := body cdv A ou t H vs Q E hG hr hsp
  exact ⟨r, h.nox, q⟩
end

/-! ### words -/
section
variable {X : Cx} {x : Str} {pos pos' : Pos} {e : Expr} {te : TE} {op : Operator} {ti : TIp}
theorem sset (i : Nat) (nd : X.N.Nodup) (he : PE X e te) (hi : X.N[i]? = some x := by rfl) (hx : Loc X.env.scope x := by first | exact Or.inl rfl | exact Or.inr rfl)
    (hs : swapsWith e (some (.Name x pos')) pos.line X.env = pure false := by rfl) (hf : X.fn x = true ∨ X.env.scope.names.lookup x = some .local := by first | exact Or.inl rfl | exact Or.inr rfl) : PS X (.Assign [.Name x pos'] e pos) (tAsg te (gName i)) := ps_set nd hi hx he hs hf
theorem gset (i : Nat) (nd : X.N.Nodup) (hi : X.N[i]? = some x := by rfl) (hx : Loc X.env.scope x := by first | exact Or.inl rfl | exact Or.inr rfl) (hf : X.fn x = true ∨ X.env.scope.names.lookup x = some .local := by first | exact Or.inl rfl | exact Or.inr rfl) : PG X (.Name x pos) (gName i) := pg_name nd hi hx hf
theorem saug (i : Nat) (nd : X.N.Nodup) (he : PE X e te) (ho : PIp X op ti) (hi : X.N[i]? = some x := by rfl) (hx : Loc X.env.scope x := by first | exact Or.inl rfl | exact Or.inr rfl) (hf : X.fn x = true ∨ X.env.scope.names.lookup x = some .local := by first | exact Or.inl rfl | exact Or.inr rfl) : PS X (.AugAssign (.Name x pos') op e pos) (tAug i te ti) := ps_aug nd hi hx he ho hf
end
/-! ### the rules that speak of the written part, the part given -/
section
variable {X : Cx} (K : PySem.W.Frag) {e a b l o : Expr} {es ts : List Expr} {te ta tb tl to : TE} {t : TA} {g : TGs} {pos cpos apos p p1 p2 p3 tpos : Pos} {tg : Expr} {T id : String} {name : Str}
theorem ix_listK (hK : X.K = K := by rfl) : IxR X (rIxL K) := hK ▸ ix_list
theorem ix_tupK (hK : X.K = K := by rfl) : IxR X (rIxT K) := hK ▸ ix_tup
theorem sl_listK (hK : X.K = K := by rfl) : SlR X (rSlL K) := hK ▸ sl_list
theorem sl_tupK (hK : X.K = K := by rfl) : SlR X (rSlT K) := hK ▸ sl_tup
def rLen (K : PySem.W.Frag) : List V → Hp → VK → Prop := fun xs H Q => ∃ p ys, xs = [.ref p] ∧ (SqL K H p ys ∨ SqT K H p ys) ∧ Q (.int ys.length) H
theorem lenK (hK : X.K = K := by rfl) : CallR X (.builtin "len") (rLen K) := hK ▸ call_len_seq
def rListOf (K : PySem.W.Frag) : List V → Hp → VK → Prop := fun xs H Q => ∃ p ys, xs = [.ref p] ∧ (SqL K H p ys ∨ SqT K H p ys) ∧ ∀ l, H l = none → Q (.ref l) (upd H l (.lst ys))
theorem listK (hK : X.K = K := by rfl) : CallR X (.type "list") (rListOf K) := hK ▸ call_list_of
def rTupOf (K : PySem.W.Frag) : List V → Hp → VK → Prop := fun xs H Q => ∃ p ys, xs = [.ref p] ∧ ((SqL K H p ys ∧ ∀ l, H l = none → Q (.ref l) (upd H l (.tup ys))) ∨ (SqT K H p ys ∧ Q (.ref p) H))
theorem tupleK (hK : X.K = K := by rfl) : CallR X (.type "tuple") (rTupOf K) := hK ▸ call_tuple_of
theorem sumK (hc : X.calm = true) (hK : X.K = K := by rfl) : CallR X (.builtin "sum") (rSum K) := hK ▸ cr_sum hc
theorem minK (hc : X.calm = true) (hK : X.K = K := by rfl) : CallR X (.builtin "min") (rMin K) := hK ▸ cr_min hc
theorem maxK (hc : X.calm = true) (hK : X.K = K := by rfl) : CallR X (.builtin "max") (rMax K) := hK ▸ cr_max hc
theorem allK (hc : X.calm = true) (hK : X.K = K := by rfl) : CallR X (.builtin "all") (rAll K) := hK ▸ cr_all hc
theorem anyK (hc : X.calm = true) (hK : X.K = K := by rfl) : CallR X (.builtin "any") (rAny K) := hK ▸ cr_any hc
theorem sortedK (hK : X.K = K := by rfl) : CallR X (.builtin "sorted") (rSortedI K) := hK ▸ cr_sortedI
theorem sortedRK (hK : X.K = K := by rfl) : CallRK X (.builtin "sorted") [Str.ofString "reverse"] (rSortedKw K true [.bl true]) := hK ▸ cr_sortedRev
theorem reprK (hG : X.A.guards = some []) (hu : X.A.units + 64 < cLine) (hK : X.K = K := by rfl) : CallR X (.builtin "repr") (rReprD K) := hK ▸ call_reprD hG hu
theorem eqDK (hu : X.A.units + 64 < cLine) (hK : X.K = K := by rfl) : OpR X (compareOp .Eq) (rEqD K) := hK ▸ op_eqD hu
theorem neDK (hu : X.A.units + 64 < cLine) (hK : X.K = K := by rfl) : OpR X (compareOp .NotEq) (rNeD K) := hK ▸ op_neD hu
theorem inK (hK : X.K = K := by rfl) : OpR X (compareOp .In) (rIn K false) := hK ▸ op_in_seq
theorem notInK (hK : X.K = K := by rfl) : OpR X (compareOp .NotIn) (rIn K true) := hK ▸ op_notIn_seq
theorem lcountK (hK : X.K = K := by rfl) : MtR X "list.count" (rCntI K) := hK ▸ mt_lcount
theorem lindexK (hK : X.K = K := by rfl) : MtR X "list.index" (rIndex K) := hK ▸ mt_index
theorem getK (hK : X.K = K := by rfl) : PGet X (rIxL K) := hK ▸ get_list
theorem pi_listK (h : PE X l tl) (hK : X.K = K := by rfl) : PI X tg l (iList K tl) := hK ▸ pi_list h
theorem pi_tupK (h : PE X l tl) (hK : X.K = K := by rfl) : PI X tg l (iTup K tl) := hK ▸ pi_tup h
theorem pi_enumK {elts : List Expr} {kk : Nat} (hg : Gl X "enumerate") (hm : X.mg "enumerate" = none) (ha : PA X [e] t) (hs : starEach [e] X.env = [(false, eval e X.env)] := by rfl) (hK : X.K = K := by rfl) :
    PI X (.Tuple elts kk tpos) (.Call (.Name "enumerate" p) [e] [] pos) (iEnum K t) := hK ▸ pi_enum hg hm ha hs
theorem pi_reversedK (hg : Gl X "reversed") (hm : X.mg "reversed" = none) (ha : PA X [e] t) (hs : starEach [e] X.env = [(false, eval e X.env)] := by rfl) (hK : X.K = K := by rfl) : PI X tg (.Call (.Name "reversed" p) [e] [] pos) (iRev K t) := hK ▸ pi_reversed hg hm ha hs
theorem pe_revLK {k : Nat} (he : PE X e te) (hK : X.K = K := by rfl) : PE X (.Subscript e (.Slice none none (some (.UnaryOp .USub (.Constant (.int 1) k p1) p2)) p3) pos) (tRevL K te) := hK ▸ pe_revL he
theorem pg_tupK {k : Nat} (n : Nat) (hc : X.calm = true) (h : PGs X es g) (hn : (assignEach es X.env).length = n := by rfl) (hst : (assignEach es X.env).findIdx? (·.1) = none := by rfl) (hK : X.K = K := by rfl) : PG X (.Tuple es k pos) (gTup K n g) := hK ▸ pg_tup hc h hn hst
theorem pi_zipK {e2 : Expr} {elts : List Expr} {kk : Nat} (hg : Gl X "zip") (hm : X.mg "zip" = none) (ha : PA X [e, e2] t)
    (hs : starEach [e, e2] X.env = (false, eval e X.env) :: starEach [e2] X.env := by rfl) (hpl : (backTo pos (starEach [e2] X.env)).any (·.1) = false := by rfl) (hK : X.K = K := by rfl) :
    PI X (.Tuple elts kk tpos) (.Call (.Name "zip" p) [e, e2] [] pos) (iZip K t) := hK ▸ pi_zip hg hm ha hs hpl
theorem pe_bmK {r : V → List V → Hp → VK → Prop} (pa : PlainAttrs T) (slot : Slot T name id) (hty : typeOf (.builtin id) = pure (.type "method_descriptor")) (hm : MtR X id r) (ho : PE X o to) (ha : PA X (e :: es) t)
    (hbase : attributeBase o name X.env (eval o X.env) = eval o X.env := by rfl)
    (hfew : ((backTo cpos (starEach (e :: es) X.env)).all (fun x => !x.1) && (backToKw cpos (keywordEach [] X.env)).all (fun x => x.1.isSome) && decide ((e :: es).length + ([] : List Keyword).length + (if ([] : List Keyword).isEmpty then 0 else 1) < 30)) = true := by rfl)
    (hline : (apos.endLine == cpos.line) = true := by rfl) (hs : starEach (e :: es) X.env = (false, eval e X.env) :: starEach es X.env := by rfl) (hplain : (backTo cpos (starEach es X.env)).any (·.1) = false := by rfl) (hK : X.K = K := by rfl) :
    PE X (.Call (.Attribute o name apos) (e :: es) [] cpos) (tBM K T r to t) := hK ▸ pe_bm pa slot hty hm ho ha hbase hfew hline hs hplain
theorem pe_bm0K {r : V → List V → Hp → VK → Prop} (pa : PlainAttrs T) (slot : Slot T name id) (hty : typeOf (.builtin id) = pure (.type "method_descriptor")) (hm : MtR X id r) (ho : PE X o to)
    (hbase : attributeBase o name X.env (eval o X.env) = eval o X.env := by rfl) (hline : (apos.endLine == cpos.line) = true := by rfl) (hK : X.K = K := by rfl) : PE X (.Call (.Attribute o name apos) [] [] cpos) (tBM0 K T r to) := hK ▸ pe_bm0 pa slot hty hm ho hbase hline
def tTruth (K : PySem.W.Frag) (ta : TE) : TT := fun σ H Q => ta σ H fun x H' => ∃ k, TruV K x H' k ∧ Q k H'
theorem pt_truthK (ha : PE X a ta) (he : ∀ whole, isTrue a X.env whole = (do let v ← whole; standAt a.pos; holding [v] (truthy v)) := by intro _; rfl) (hK : X.K = K := by rfl) : PT X a (tTruth K ta) := hK ▸ pt_truth ha he
end
end Xk

set_option Elab.async false
set_option linter.all false
set_option maxRecDepth 100000
namespace Xk
open PySem PySem.Spec PyProof.Rows L2

section
variable {K : PySem.W.Frag} {σ : L2.St} {H : Hp} {Q : VK} {R : List V → Hp → Prop} {ta tb te tc tv : TE} {tA : TA} {t u : TT} {v x y : V} {i j : Int} {Qb : Bool → Hp → Prop}
  {nx bk ct : L2.St → Hp → Prop} {rt : VK} {s1 s2 : TS} {g g1 : TG} {gs : TGs}
/-! ### expressions -/
theorem r_var {n : Nat} (h : σ[n]? = some (some v)) (q : Q v H) : tVar n σ H Q := ⟨v, h, q⟩
theorem r_c (q : Q v H) : tC v σ H Q := q
theorem r_op {r : R2} (h : ta σ H fun x H1 => tb σ H1 fun y H2 => r x y H2 Q) : tOp r ta tb σ H Q := h
theorem r_un {r : V → Hp → VK → Prop} (h : ta σ H fun x H1 => r x H1 Q) : tUn r ta σ H Q := h
theorem r_I0 {f : Int → Int → V} (q : Q (f i j) H) : rI0 f (.int i) (.int j) H Q := ⟨i, j, rfl, rfl, q⟩
theorem r_I {C : Int → Int → Prop} {f : Int → Int → V} (hc : C i j) (q : Q (f i j) H) : rI C f (.int i) (.int j) H Q := ⟨i, j, rfl, rfl, hc, q⟩
theorem r_U {f : Int → V} (q : Q (f i) H) : rU f (.int i) H Q := ⟨i, rfl, q⟩
theorem r_ixL {p : Addr} {xs : List V} (h : SqL K H p xs) (ha : atI xs i = some v) (q : Q v H) : rIxL K (.ref p) (.int i) H Q := ⟨p, xs, i, v, rfl, rfl, h, ha, q⟩
theorem r_ixT {p : Addr} {xs : List V} (h : SqT K H p xs) (ha : atI xs i = some v) (q : Q v H) : rIxT K (.ref p) (.int i) H Q := ⟨p, xs, i, v, rfl, rfl, h, ha, q⟩
theorem r_nil (q : R [] H) : tNil σ H R := q
theorem r_cons (h : ta σ H fun x H1 => tA σ H1 fun xs H2 => R (x :: xs) H2) : tCons ta tA σ H R := h
theorem r_lst (h : tA σ H fun xs H1 => xs.length ≤ sizeLine ∧ ∀ p, H1 p = none → Q (.ref p) (upd H1 p (.lst xs))) : tLst tA σ H Q := h
theorem r_tup (h : tA σ H fun xs H1 => xs.length ≤ sizeLine ∧ ∀ p, H1 p = none → Q (.ref p) (upd H1 p (.tup xs))) : tTup tA σ H Q := h
theorem r_call {sp : Sp} {dvs : List V} {E : XK} (h : tA σ H fun vs H1 => sp (vs ++ dvs) H1 Q E) : tCall sp dvs E tA σ H Q := h
theorem r_callK {sp : Sp} {gV : List V → List V → List V} {E : XK} {tk : TA} (h : tA σ H fun vs H1 => tk σ H1 fun zs H2 => sp (gV vs zs) H2 Q E) : tCallK sp gV E tA tk σ H Q := h
theorem r_cb {r : List V → Hp → VK → Prop} (h : tA σ H fun vs H1 => r vs H1 Q) : tCB r tA σ H Q := h
theorem r_ckw {r : List V → List V → Hp → VK → Prop} {tk : TA} (h : tA σ H fun vs H1 => tk σ H1 fun zs H2 => r vs zs H2 Q) : tCKw r tA tk σ H Q := h
theorem r_sl {r : V → Option Int → Option Int → Hp → VK → Prop} {tl th : TO} (h : te σ H fun x H1 => tl σ H1 fun l H2 => th σ H2 fun u H3 => r x l u H3 Q) : tSl r te tl th σ H Q := h
theorem r_part {Qo : Option Int → Hp → Prop} (h : te σ H fun x H1 => ∃ i, x = .int i ∧ Qo (some i) H1) : tPart te σ H Qo := h
theorem r_nopart {Qo : Option Int → Hp → Prop} (h : Qo none H) : tNoPart σ H Qo := h
theorem r_exi {Qo : Int → Prop} (h : Qo i) : ∃ j, V.int i = .int j ∧ Qo j := ⟨i, rfl, h⟩
theorem r_exb {b : Bool} {Qo : Bool → Prop} (h : Qo b) : ∃ j, V.bl b = .bl j ∧ Qo j := ⟨b, rfl, h⟩
theorem r_slL {p : Addr} {xs : List V} {lo hi : Option Int} (h : SqL K H p xs) (q : ∀ n, H n = none → Q (.ref n) (upd H n (.lst (cutV xs lo hi)))) : rSlL K (.ref p) lo hi H Q := ⟨p, xs, rfl, h, q⟩
theorem r_bm {T : String} {r : V → List V → Hp → VK → Prop} (h : te σ H fun x H1 => tyV K T x H1 ∧ tA σ H1 fun xs H2 => r x xs H2 Q) : tBM K T r te tA σ H Q := h
theorem r_bm0 {T : String} {r : V → List V → Hp → VK → Prop} (h : te σ H fun x H1 => tyV K T x H1 ∧ r x [] H1 Q) : tBM0 K T r te σ H Q := h
theorem ty_list {p : Addr} {xs : List V} (h : SqL K H p xs) : tyV K "list" (.ref p) H := .inl ⟨rfl, xs, h⟩
theorem r_append {p : Addr} {xs : List V} {y : V} (h : H p = some (.lst xs)) (hz : xs.length < sizeLine) (q : Q .non (upd H p (.lst (xs ++ [y])))) : rAppend (.ref p) [y] H Q := ⟨p, xs, y, rfl, rfl, h, hz, q⟩
theorem r_if {tif : TT} (h : tif σ H fun c H1 => if c = true then ta σ H1 Q else tb σ H1 Q) : tIf tif ta tb σ H Q := h
theorem r_andV (h : ta σ H fun x H1 => ∃ c, x = .bl c ∧ if c = true then tb σ H1 Q else Q (.bl false) H1) : tAndV ta tb σ H Q := h
theorem r_orV (h : ta σ H fun x H1 => ∃ c, x = .bl c ∧ if c = true then Q (.bl true) H1 else tb σ H1 Q) : tOrV ta tb σ H Q := h
theorem r_notV (h : ta σ H fun x H1 => ∃ c, x = .bl c ∧ Q (.bl (!c)) H1) : tNotV ta σ H Q := h
theorem r_eqI (q : Q (.bl (decide (i = j))) H) : rEq (.int i) (.int j) H Q := by
  refine ⟨rfl, ?_⟩
  have : decide (V.int i = V.int j) = decide (i = j) := by simp
  rw [this]
  exact q
theorem r_neI (q : Q (.bl (!decide (i = j))) H) : rNe (.int i) (.int j) H Q := by
  refine ⟨rfl, ?_⟩
  have : decide (V.int i = V.int j) = decide (i = j) := by simp
  rw [this]
  exact q
theorem r_eqS {a b : Str} (q : Q (.bl (decide (a = b))) H) : rEq (.str a) (.str b) H Q := by
  refine ⟨rfl, ?_⟩
  have : decide (V.str a = V.str b) = decide (a = b) := by simp
  rw [this]
  exact q
theorem r_neS {a b : Str} (q : Q (.bl (!decide (a = b))) H) : rNe (.str a) (.str b) H Q := by
  refine ⟨rfl, ?_⟩
  have : decide (V.str a = V.str b) = decide (a = b) := by simp
  rw [this]
  exact q
theorem r_len {p : Addr} {xs : List V} (h : SqL K H p xs) (q : Q (.int xs.length) H) : Xk.rLen K [.ref p] H Q := ⟨p, xs, rfl, .inl h, q⟩
theorem r_listOf {p : Addr} {xs : List V} (h : SqL K H p xs) (q : ∀ l, H l = none → Q (.ref l) (upd H l (.lst xs))) : rListOf K [.ref p] H Q := ⟨p, xs, rfl, .inl h, q⟩
theorem r_sum {p : Addr} {ns : List Int} (h : SqL K H p (ns.map V.int)) (q : Q (.int ns.sum) H) : rSum K [.ref p] H Q := ⟨p, ns, rfl, h, q⟩
theorem r_notT {A B : Prop} (h : B) : if (!true) = true then A else B := by simpa using h
theorem r_notF {A B : Prop} (h : A) : if (!false) = true then A else B := by simpa using h
/-! ### tests -/
theorem r_test (h : te σ H fun x H' => ∃ k, x = .bl k ∧ Qb k H') : tTest te σ H Qb := h
theorem r_tB (h : te σ H fun x H' => ∃ k, x = .bl k ∧ Qb k H') : tB te σ H Qb := h
theorem r_tand (h : t σ H fun c H1 => if c = true then u σ H1 Qb else Qb false H1) : tAnd t u σ H Qb := h
theorem r_tor (h : t σ H fun c H1 => if c = true then Qb true H1 else u σ H1 Qb) : tOr t u σ H Qb := h
theorem r_tnot (h : t σ H fun c H1 => Qb (!c) H1) : tNot t σ H Qb := h
theorem r_yes (h : Qb true H) : tYes σ H Qb := h
theorem r_dec {p : Prop} [Decidable p] {A B : Prop} (h1 : p → A) (h2 : ¬p → B) : if decide p = true then A else B := by
  by_cases h : p
  · rw [decide_eq_true h]; exact h1 h
  · rw [decide_eq_false h]; exact h2 h
theorem r_ndec {p : Prop} [Decidable p] {A B : Prop} (h1 : ¬p → A) (h2 : p → B) : if (!decide p) = true then A else B := by
  by_cases h : p
  · rw [decide_eq_true h]; exact h2 h
  · rw [decide_eq_false h]; exact h1 h
theorem r_itT {A B : Prop} (h : A) : if true = true then A else B := by rw [if_pos rfl]; exact h
theorem r_itF {A B : Prop} (h : B) : if false = true then A else B := by rw [if_neg Bool.false_ne_true]; exact h
/-! ### statements -/
theorem r_seq (h : s1 ⟨s2 ⟨nx, rt, bk, ct⟩, rt, bk, ct⟩ σ H) : tSeq s1 s2 ⟨nx, rt, bk, ct⟩ σ H := h
theorem r_cut {u : TS} (Mid : L2.St → Hp → Prop) (h : s1 ⟨Mid, rt, bk, ct⟩ σ H) (g : ∀ σ' H', Mid σ' H' → u ⟨nx, rt, bk, ct⟩ σ' H') : C8.tCut s1 u ⟨nx, rt, bk, ct⟩ σ H := ⟨Mid, h, g⟩
theorem r_next (h : nx σ H) : tNext ⟨nx, rt, bk, ct⟩ σ H := h
theorem r_asg (h : te σ H fun x H1 => g x σ H1 nx) : tAsg te g ⟨nx, rt, bk, ct⟩ σ H := h
theorem r_ret (h : te σ H rt) : tRet te ⟨nx, rt, bk, ct⟩ σ H := h
theorem r_drop (h : te σ H fun _ H1 => nx σ H1) : tDrop te ⟨nx, rt, bk, ct⟩ σ H := h
theorem r_ifS (h : t σ H fun b H1 => if b = true then s1 ⟨nx, rt, bk, ct⟩ σ H1 else s2 ⟨nx, rt, bk, ct⟩ σ H1) : tIfS t s1 s2 ⟨nx, rt, bk, ct⟩ σ H := h
theorem r_par {a b : Nat} (h : tA σ H fun vs H1 => ∃ v w, vs = [v, w] ∧ nx ((σ.set a (some v)).set b (some w)) H1) : tPar a b tA ⟨nx, rt, bk, ct⟩ σ H := h
theorem r_ex2 {f : V → V → Prop} (h : f x y) : ∃ v w, [x, y] = [v, w] ∧ f v w := ⟨x, y, rfl, h⟩
theorem r_brk (h : bk σ H) : tBreak ⟨nx, rt, bk, ct⟩ σ H := h
theorem r_cont (h : ct σ H) : tCont ⟨nx, rt, bk, ct⟩ σ H := h
theorem r_aug {n : Nat} {ti : TIp} (h : σ[n]? = some (some x)) (q : te σ H fun y H1 => ti x y H1 fun z H2 => nx (σ.set n (some z)) H2) : tAug n te ti ⟨nx, rt, bk, ct⟩ σ H := ⟨x, h, q⟩
theorem r_ipI {f : Int → Int → Int} (q : Q (.int (f i j)) H) : ipI f (.int i) (.int j) H Q := ⟨i, j, rfl, rfl, q⟩
theorem r_for {wi : TI} (h : wi σ H fun J H1 => ∃ W : Nat → Nat → L2.St → Hp → Prop, (∃ m, W 0 m σ H1) ∧ ∀ i m σ H, W i m σ H → (J.stop i H ∧ nx σ H) ∨ (J.go i H ∧ ∃ N : L2.St → Hp → Prop, (∀ σ' H', N σ' H' → ∃ m', m' < m ∧ W (i + 1) m' σ' H') ∧
    ∀ x H', J.yld i H x H' → g x σ H' fun σ2 H2 => s1 ⟨N, rt, nx, N⟩ σ2 H2)) : tFor wi g s1 ⟨nx, rt, bk, ct⟩ σ H := h
theorem r_augS {tget : V → V → Hp → VK → Prop} {ti : TIp} {ts : TSet} (h : ta σ H fun o H1 => tb σ H1 fun i H2 => tget o i H2 fun x H3 => te σ H3 fun y H4 => ti x y H4 fun z H5 => ts o i z H5 fun H6 => nx σ H6) : tAugS ta tb te tget ti ts ⟨nx, rt, bk, ct⟩ σ H := h
/-! ### targets -/
variable {Qs : L2.St → Hp → Prop}
theorem r_name {n : Nat} (q : Qs (σ.set n (some v)) H) : gName n v σ H Qs := q
theorem r_gtup {n : Nat} {p : Addr} {xs : List V} (h : SqT K H p xs) (hl : xs.length = n) (q : gs xs σ H Qs) : gTup K n gs (.ref p) σ H Qs := ⟨p, xs, rfl, h, hl, q⟩
theorem r_gcons {vs : List V} (q : g v σ H fun σ' H' => gs vs σ' H' Qs) : gCons g gs (v :: vs) σ H Qs := ⟨v, vs, rfl, q⟩
theorem r_gnil (q : Qs σ H) : gNil [] σ H Qs := ⟨rfl, q⟩
theorem r_gsub {ts : TSet} (h : te σ H fun o H1 => tv σ H1 fun i H2 => ts o i v H2 fun H3 => Qs σ H3) : gSub te tv ts v σ H Qs := h
theorem r_gslc {tl th : TO} (h : te σ H fun x H1 => tl σ H1 fun l H2 => th σ H2 fun u H3 => ∃ (p b : Addr) (xs ys : List V) (a c : Int), x = .ref p ∧ v = .ref b ∧ l = some a ∧ u = some c ∧ H3 p = some (.lst xs) ∧ H3 b = some (.lst ys) ∧ p ≠ b ∧ 0 ≤ a ∧ a ≤ c ∧ c ≤ xs.length ∧ xs.length + ys.length ≤ sizeLine ∧
    Qs σ (upd H3 p (.lst (xs.take a.toNat ++ ys ++ xs.drop c.toNat)))) : gSlc te tl th v σ H Qs := h
theorem r_setL {Qh : Hp → Prop} {p : Addr} {xs : List V} {n : Nat} (h : H p = some (.lst xs)) (hi : ixN xs.length i = some n) (q : Qh (upd H p (.lst (xs.set n v)))) : rSetL (.ref p) (.int i) v H Qh := ⟨p, xs, i, n, rfl, rfl, h, hi, q⟩
end
theorem szL {n : Nat} (h : Nat.ble n 16777216 = true) : n ≤ sizeLine := Nat.le_of_ble_eq_true h
theorem at_0 {x : V} {xs : List V} : atI (x :: xs) 0 = some x := at_of (j := 0) rfl rfl
theorem at_1 {x y : V} {xs : List V} : atI (x :: y :: xs) 1 = some y := at_of (j := 1) rfl rfl
theorem at_2 {x y z : V} {xs : List V} : atI (x :: y :: z :: xs) 2 = some z := at_of (j := 2) rfl rfl
theorem at_3 {x y z u : V} {xs : List V} : atI (x :: y :: z :: u :: xs) 3 = some u := at_of (j := 3) rfl rfl
theorem sq {K : PySem.W.Frag} {H : Hp} {p : Addr} {xs : List V} (h : H p = some (.lst xs)) : SqL K H p xs := .inl (.inl h)
theorem sqT {K : PySem.W.Frag} {H : Hp} {p : Addr} {xs : List V} (h : H p = some (.tup xs)) : SqT K H p xs := .inl (.inl h)

section
variable {w : World} {H : Hp} {σ : L2.St} {Q : VK} {te : TE} {tA : TA} {a : Addr} {k : Int} {S : Int → Bool} {n : Nat}
theorem r_set0 (q : ∀ p, H p = none → Q (.ref p) (upd H p (SetO w p (fun _ => false) 0))) : rSet0 w [] H Q := ⟨rfl, q⟩
theorem r_sin (h : H a = some (SetO w a S n)) (q : Q (.bl (S k)) H) : rSIn w (.int k) (.ref a) H Q := ⟨k, a, S, n, rfl, rfl, h, q⟩
theorem r_snotin (h : H a = some (SetO w a S n)) (q : Q (.bl (!S k)) H) : rSNotIn w (.int k) (.ref a) H Q := ⟨k, a, S, n, rfl, rfl, h, q⟩
theorem r_sadd0 (h : te σ H fun x H1 => (∃ a S n, x = V.ref a ∧ H1 a = some (SetO w a S n)) ∧ tA σ H1 fun xs H2 => rSAdd w x xs H2 Q) : tSAdd w te tA σ H Q := h
theorem r_sadd (h : H a = some (SetO w a S n)) (hn : n + 1 < 4096) (q : Q .non (upd H a (SetO w a (fun j => S j || decide (j = k)) (if S k = true then n else n + 1)))) : rSAdd w (.ref a) [.int k] H Q := ⟨a, k, S, n, rfl, rfl, h, hn, q⟩
end
/-! ### what a for walks -/
section
variable {K : PySem.W.Frag} {σ : L2.St} {H : Hp} {tA : TA} {te : TE} {R : L2.It → Hp → Prop}
theorem r_iEnum (h : tA σ H fun vs H1 => ∃ a xs, vs = [.ref a] ∧ SqL K H1 a xs ∧ R (Ite K a) H1) : iEnum K tA σ H R := h
theorem r_iList (h : te σ H fun x H1 => ∃ a, x = .ref a ∧ (∃ xs, SqL K H1 a xs) ∧ R (Itl K a) H1) : iList K te σ H R := h
theorem r_iTup (h : te σ H fun x H1 => ∃ a, x = .ref a ∧ (∃ xs, SqT K H1 a xs) ∧ R (Itt K a) H1) : iTup K te σ H R := h
theorem r_iRng1 (h : tA σ H fun vs H1 => ∃ j : Int, vs = [.int j] ∧ -(2 ^ 62) ≤ j ∧ j < 2 ^ 62 ∧ R (Itr 0 j.toNat) H1) : iRng1 tA σ H R := h
theorem r_iRng2 (h : tA σ H fun vs H1 => ∃ i j : Int, vs = [.int i, .int j] ∧ (-(2 ^ 62) ≤ i ∧ i < 2 ^ 62 ∧ -(2 ^ 62) ≤ j ∧ j < 2 ^ 62) ∧ R (Itr i (j - i).toNat) H1) : iRng2 tA σ H R := h
theorem r_iRng3 (h : tA σ H fun vs H1 => ∃ (i j c : Int) (n : Nat), vs = [.int i, .int j, .int c] ∧ RgC i j c n ∧ R (Itc i c n) H1) : iRng3 tA σ H R := h
theorem r_iZip (h : tA σ H fun vs H1 => ∃ a b xs ys, vs = [.ref a, .ref b] ∧ SqL K H1 a xs ∧ SqL K H1 b ys ∧ R (Itz K a b) H1) : iZip K tA σ H R := h
theorem r_lc {wi : TI} {g : TG} {tt : TT} {vs : List Nat} {Q : VK} (h : wi σ H fun J H1 => ∀ D, H1 D = none → ∃ W : Nat → Nat → Hp → Prop, (∃ m, W 0 m (upd H1 D (.lst []))) ∧ ∀ i m H, W i m H →
  (J.stop i H ∧ Q (.ref D) H) ∨ (J.go i H ∧ ∃ Nx : Hp → Prop, (∀ H', Nx H' → ∃ m', m' < m ∧ W (i + 1) m' H') ∧ ∀ x H', J.yld i H x H' → g x (wipe σ vs) H' fun σ2 H2 => wipe σ2 vs = wipe σ vs ∧ tt σ2 H2 fun b H3 =>
    if b = true then te σ2 H3 fun y H4 => ∃ acc, H4 D = some (.lst acc) ∧ acc.length < sizeLine ∧ Nx (upd H4 D (.lst (acc ++ [y]))) else Nx H3)) : tLc wi g tt te vs σ H Q := h
theorem r_lrg {tr : L2.St → Hp → (Int → Int → Hp → Prop) → Prop} {Q : VK} (h : tr σ H fun a b H1 => RgOk a b ∧ ∀ q, H1 q = none → Q (.ref q) (upd H1 q (.lst (rgV a b)))) : tLstRg tr σ H Q := h
theorem r_rg1 {Q : Int → Int → Hp → Prop} (h : te σ H fun x H1 => ∃ n, x = .int n ∧ Q 0 n H1) : tRg1 te σ H Q := h
theorem r_rg2 {tb : TE} {Q : Int → Int → Hp → Prop} (h : te σ H fun x H1 => tb σ H1 fun y H2 => ∃ i j, x = .int i ∧ y = .int j ∧ Q i j H2) : tRg2 te tb σ H Q := h
theorem r_l3 {Q : VK} (h : tA σ H fun vs H1 => ∃ (i j c : Int) (n : Nat), vs = [.int i, .int j, .int c] ∧ RgC i j c n ∧ n ≤ 2 ^ 24 ∧ ∀ q, H1 q = none → Q (.ref q) (upd H1 q (.lst (rg3V i c n)))) : tLst3 tA σ H Q := h
theorem r_revL {Q : VK} (h : te σ H fun x H1 => ∃ a xs, x = .ref a ∧ SqL K H1 a xs ∧ ∀ p, H1 p = none → Q (.ref p) (upd H1 p (.lst xs.reverse))) : tRevL K te σ H Q := h
theorem r_exr {a : Addr} {f : Addr → Prop} (h : f a) : ∃ b, V.ref a = .ref b ∧ f b := ⟨a, rfl, h⟩
end
section
variable {σ : L2.St} {H : Hp} {c : TT} {tb : TS} {nx bk ct : L2.St → Hp → Prop} {rt : VK}
theorem r_while (W : Nat → L2.St → Hp → Prop) (m : Nat) (h0 : W m σ H) (hs : ∀ m σ H, W m σ H → c σ H fun b H1 => if b = true then ∃ N : L2.St → Hp → Prop, (∀ σ' H', N σ' H' → ∃ m', m' < m ∧ W m' σ' H') ∧ tb ⟨N, rt, nx, N⟩ σ H1 else nx σ H1) : tWhile c tb ⟨nx, rt, bk, ct⟩ σ H :=
  ⟨W, ⟨m, h0⟩, hs⟩
theorem r_turn {W : Nat → L2.St → Hp → Prop} {m : Nat} (h : tb ⟨fun σ' H' => ∃ m', m' < m ∧ W m' σ' H', rt, nx, fun σ' H' => ∃ m', m' < m ∧ W m' σ' H'⟩ σ H) : ∃ N : L2.St → Hp → Prop, (∀ σ' H', N σ' H' → ∃ m', m' < m ∧ W m' σ' H') ∧ tb ⟨N, rt, nx, N⟩ σ H :=
  ⟨_, fun _ _ h => h, h⟩
theorem r_itD {p : Prop} [Decidable p] {A B : Prop} (hp : p) (h : A) : if decide p = true then A else B := by rw [decide_eq_true hp]; exact h
theorem r_itDF {p : Prop} [Decidable p] {A B : Prop} (hp : ¬p) (h : B) : if decide p = true then A else B := by rw [decide_eq_false hp]; exact h
theorem r_itN {p : Prop} [Decidable p] {A B : Prop} (hp : ¬p) (h : A) : if (!decide p) = true then A else B := by rw [decide_eq_false hp]; exact h
theorem r_itNF {p : Prop} [Decidable p] {A B : Prop} (hp : p) (h : B) : if (!decide p) = true then A else B := by rw [decide_eq_true hp]; exact h
theorem r_popAt {l : Addr} {xs : List V} {i : Int} {k : Nat} {y : V} {Q : VK} (h : H l = some (.lst xs)) (e : i = (k : Int)) (hk : xs[k]? = some y) (hz : k < 2 ^ 63) (q : Q y (upd H l (.lst (xs.eraseIdx k)))) : rPopAt (.ref l) [.int i] H Q := by
  subst e
  have hl : k < xs.length := (List.getElem?_eq_some_iff.mp hk).1
  exact ⟨l, xs, k, k, y, rfl, rfl, h, by omega, by omega, seqIndex_of (by omega) (by omega), hk, q⟩
end
/-! ### what stands in a heap -/
/-- all but r stands as it was -/
def Sx (r : Addr) (H H' : Hp) : Prop := ∀ b o, b ≠ r → H b = some o → H' b = some o
section
variable {H H' : Hp} {a b r : Addr} {o u : HO}
theorem upd_old (np : H a = none) (h : H b = some u) : upd H a o b = some u := (upd_ne (ne_of_none h np)).trans h
theorem upd_to (n : b ≠ a) (h : H b = some u) : upd H a o b = some u := (upd_ne n).trans h
theorem same_to (s : Same H H') (h : H b = some u) : H' b = some u := s b u h
theorem sx_to (s : Sx r H H') (n : b ≠ r) (h : H b = some u) : H' b = some u := s b u n h
theorem sx_of (s : Same H H') : Sx r H H' := fun b o _ h => s b o h
theorem same_new (np : H a = none) : Same H (upd H a o) := fun b u h => upd_old np h
theorem same_old {H0 : Hp} (s : Same H0 H) (n : H0 a = none) : Same H0 (upd H a o) := fun b u h => upd_to (ne_of_none h n) (s b u h)
theorem Sx.refl : Sx r H H := fun _ _ _ h => h
theorem Sx.trans {H1 : Hp} (s : Sx r H H1) (t : Sx r H1 H') : Sx r H H' := fun b o n h => t b o n (s b o n h)
theorem Sx.put : Sx r H (L2.upd H r o) := fun b u n h => upd_to n h
theorem Sx.new (np : H a = none) : Sx r H (L2.upd H a o) := fun b u _ h => upd_old np h
theorem Sx.old {H0 : Hp} (s : Sx r H0 H) (n : H0 a = none) : Sx r H0 (L2.upd H a o) := fun b u hb h => upd_to (ne_of_none h n) (s b u hb h)
theorem Sx.same {H1 : Hp} (s : Sx r H H1) (t : Same H1 H') : Sx r H H' := s.trans (sx_of t)
theorem Sx.free (s : Sx r H H') (hr : H' r = some u) (h : H' a = none) : H a = none := by
  cases q : H a with
  | none => rfl
  | some o =>
    by_cases e : a = r
    · subst e; rw [hr] at h; cases h
    · rw [s a o e q] at h; cases h
end
end Xk
/-- one step whose answer is known -/
local macro_rules | `(tactic| walk_at "one") => `(tactic| with_reducible first
  | refine Xk.r_c ?_ | refine Xk.r_op ?_ | refine Xk.r_un ?_ | refine Xk.r_I0 ?_ | refine Xk.r_U ?_ | refine Xk.r_nil ?_ | refine Xk.r_cons ?_ | refine Xk.r_lst ?_ | refine Xk.r_tup ?_
  | refine Xk.r_call ?_ | refine Xk.r_callK ?_ | refine Xk.r_cb ?_ | refine Xk.r_ckw ?_ | refine Xk.r_sl ?_ | refine Xk.r_part ?_ | refine Xk.r_nopart ?_ | refine Xk.r_exi ?_ | refine Xk.r_exb ?_ | refine Xk.r_bm ?_ | refine Xk.r_bm0 ?_
  | refine Xk.r_if ?_ | refine Xk.r_andV ?_ | refine Xk.r_orV ?_ | refine Xk.r_notV ?_ | refine Xk.r_eqI ?_ | refine Xk.r_neI ?_ | refine Xk.r_eqS ?_ | refine Xk.r_neS ?_
  | refine Xk.r_test ?_ | refine Xk.r_tB ?_ | refine Xk.r_tand ?_ | refine Xk.r_tor ?_ | refine Xk.r_tnot ?_ | refine Xk.r_yes ?_ | refine Xk.r_itT ?_ | refine Xk.r_itF ?_ | refine Xk.r_notT ?_ | refine Xk.r_notF ?_
  | refine Xk.r_seq ?_ | refine Xk.r_next ?_ | refine Xk.r_asg ?_ | refine Xk.r_ret ?_ | refine Xk.r_drop ?_ | refine Xk.r_ifS ?_ | refine Xk.r_par ?_ | refine Xk.r_ex2 ?_ | refine Xk.r_brk ?_ | refine Xk.r_cont ?_ | refine Xk.r_ipI ?_ | refine Xk.r_for ?_
  | refine Xk.r_augS ?_ | refine Xk.r_sadd0 ?_ | refine Xk.r_iEnum ?_ | refine Xk.r_iList ?_ | refine Xk.r_iTup ?_ | refine Xk.r_iRng1 ?_ | refine Xk.r_iRng2 ?_ | refine Xk.r_iRng3 ?_ | refine Xk.r_iZip ?_ | refine Xk.r_lc ?_ | refine Xk.r_lrg ?_ | refine Xk.r_rg1 ?_ | refine Xk.r_rg2 ?_ | refine Xk.r_l3 ?_ | refine Xk.r_revL ?_ | refine Xk.r_exr ?_
  | refine Xk.r_name ?_ | refine Xk.r_gcons ?_ | refine Xk.r_gnil ?_ | refine Xk.r_gsub ?_ | refine Xk.r_gslc ?_)
local macro_rules | `(tactic| walk_at "ne") => `(tactic| first | assumption | (apply Ne.symm; assumption) | (exact L2.ne_of_none (by assumption) (by assumption)) | (apply Ne.symm; exact L2.ne_of_none (by assumption) (by assumption)))
/-- what stands at an address -/
local macro_rules | `(tactic| walk_at "hp") => `(tactic| with_reducible first
  | assumption | exact L2.upd_same
  | ((refine' Xk.upd_old ?np ?_); (case np => assumption); walk_at "hp")
  | ((refine' Xk.same_to ?hs ?_); (case hs => assumption); walk_at "hp")
  | ((refine' Xk.sx_to ?hs ?hn ?_); (case hs => assumption); (case hn => walk_at "ne"); walk_at "hp")
  | ((refine' Xk.upd_to ?hn ?_); (case hn => walk_at "ne"); walk_at "hp"))
local macro_rules | `(tactic| walk_at "sq") => `(tactic| ((with_reducible show L2.SqL _ _ _ _); first | (with_reducible assumption) | exact Xk.sq (by walk_at "hp") | (with_reducible exact L2.Same.seq (by assumption) (by assumption))))
local macro_rules | `(tactic| walk_at "sd") => `(tactic| first | assumption | omega | decide)
local macro_rules | `(tactic| walk_at "at") => `(tactic| first
  | (with_reducible exact Xk.at_0) | (with_reducible exact Xk.at_1) | (with_reducible exact Xk.at_2) | (with_reducible exact Xk.at_3)
  | ((with_reducible show L2.atI (List.set (_ :: _) _ _) _ = _); exact rfl))
local macro_rules | `(tactic| walk_at "ix") => `(tactic| ((with_reducible show L2.ixN (List.length (_ :: _)) _ = _); exact rfl))
local macro_rules | `(tactic| walk_at "two") => `(tactic| first
  | ((with_reducible refine' Xk.r_var ?hv ?_); (case hv => exact rfl))
  | ((with_reducible refine' Xk.r_aug ?hv ?_); (case hv => exact rfl))
  | ((with_reducible refine' Xk.r_ixL ?hv ?hw ?_); (case hv => walk_at "sq"); (case hw => walk_at "at"))
  | ((with_reducible refine' Xk.r_setL ?hv ?hw ?_); (case hv => walk_at "hp"); (case hw => walk_at "ix"))
  | ((with_reducible refine' Xk.r_slL ?hv ?_); (case hv => walk_at "sq"))
  | ((with_reducible refine' Xk.r_gtup ?hv ?hw ?_); (case hv => exact Xk.sqT (by walk_at "hp")); (case hw => exact rfl))
  | ((with_reducible refine' ⟨Xk.ty_list (K := _) (xs := _) ?hv, ?_⟩); (case hv => walk_at "sq"))
  | ((with_reducible refine' Xk.r_append ?hv ?hw ?_); (case hv => walk_at "hp"); (case hw => walk_at "sd"))
  | ((with_reducible refine' Xk.r_I (C := fun _ j => 0 < j) ?hv ?_); (case hv => (first | omega | (show (0 : Int) < _; omega) | decide)))
  | ((with_reducible refine' Xk.r_len ?hv ?_); (case hv => walk_at "sq"))
  | ((with_reducible refine' Xk.r_listOf ?hv ?_); (case hv => walk_at "sq"))
  | ((with_reducible refine' Xk.r_I (C := Xk.CPowW) ?hv ?_); (case hv => exact ⟨by decide, by decide⟩))
  | (with_reducible refine ⟨Xk.szL (by with_unfolding_all rfl), ?_⟩)
  | ((with_reducible refine' ⟨_, _, rfl, ?hv, ?_⟩); (case hv => ((with_reducible show L2.SqL _ _ _ _); walk_at "sq")))
  | ((with_reducible refine' ⟨⟨_, ?hv⟩, ?_⟩); (case hv => walk_at "sq"))
  | (with_reducible refine Or.inl ⟨_, rfl, ?_⟩) | (with_reducible refine Or.inr ⟨_, rfl, ?_⟩)
  | (with_reducible refine ⟨_, _, rfl, rfl, ?_⟩) | (with_reducible refine ⟨_, rfl, ?_⟩) | (with_reducible refine ⟨_, _, rfl, ?_⟩))
local macro_rules | `(tactic| walk_at "g") => `(tactic| repeat (first | walk_at "one" | walk_at "two"))

set_option Elab.async false
set_option linter.all false
set_option maxRecDepth 100000
namespace Xk
open PySem PySem.Spec PyProof.Rows L2
/-! ### slices by numbers -/
theorem cut_from {xs : List V} {z : Int} {a : Nat} (h : z = (a : Int)) : cutV xs (some z) none = xs.drop a := by
  subst h
  unfold cutV
  rw [show HT.sIx xs.length 0 (some (a : Int)) = min a xs.length from HT.sIx_nat xs.length 0 a, HT.sIx_none]
  by_cases q : a ≤ xs.length
  · rw [Nat.min_eq_left q]; exact List.take_of_length_le (by rw [List.length_drop]; omega)
  · rw [Nat.min_eq_right (by omega), List.drop_of_length_le (by omega), List.drop_of_length_le (by omega)]; simp
theorem cut_to {xs : List V} {z : Int} {b : Nat} (h : z = (b : Int)) : cutV xs none (some z) = xs.take b := by
  subst h
  unfold cutV
  rw [show HT.sIx xs.length xs.length (some (b : Int)) = min b xs.length from HT.sIx_nat xs.length xs.length b, HT.sIx_none]
  show (xs.take (min b xs.length - 0)) = _
  rw [Nat.sub_zero]
  by_cases q : b ≤ xs.length
  · rw [Nat.min_eq_left q]
  · rw [Nat.min_eq_right (by omega), List.take_of_length_le (by omega), List.take_of_length_le (by omega)]
theorem cut_mid {xs : List V} {z y : Int} {a b : Nat} (h : z = (a : Int)) (g : y = (b : Int)) (hb : b ≤ xs.length) : cutV xs (some z) (some y) = (xs.drop a).take (b - a) := by
  subst h; subst g
  unfold cutV
  rw [show HT.sIx xs.length 0 (some (a : Int)) = min a xs.length from HT.sIx_nat xs.length 0 a, show HT.sIx xs.length xs.length (some (b : Int)) = min b xs.length from HT.sIx_nat xs.length xs.length b, Nat.min_eq_left hb]
  by_cases q : a ≤ xs.length
  · rw [Nat.min_eq_left q]
  · rw [Nat.min_eq_right (by omega), show b - xs.length = 0 by omega, show b - a = 0 by omega]; rfl
theorem map_drop' {α β : Type} (f : α → β) (l : List α) (n : Nat) : (l.map f).drop n = (l.drop n).map f := by simp
theorem at_map {ns : List Int} {z : Int} {j : Nat} (e : z = (j : Int)) (h : j < ns.length) : atI (ns.map V.int) z = some (.int ns[j]) :=
  at_of e (by simp [h])
theorem ix_of {n j : Nat} {z : Int} (e : z = (j : Int)) (h : j < n) : ixN n z = some j := by
  subst e; unfold ixN; rw [if_pos (by omega), if_pos (by omega)]; simp
theorem map_set' (ns : List Int) (j : Nat) (x : Int) : (ns.map V.int).set j (V.int x) = (ns.set j x).map V.int := by simp
theorem map_snoc (ns : List Int) (x : Int) : ns.map V.int ++ [V.int x] = (ns ++ [x]).map V.int := by simp
theorem size_lt {n : Nat} (h : n < 16777216) : n < sizeLine := h
theorem size_le {n : Nat} (h : n ≤ 16777216) : n ≤ sizeLine := h

/-! ### comprehensions whose turns leave what stood -/
section
variable {J : It} {n : Nat} {G : Hp → Prop} {Y : Nat → Hp → V → Hp → Prop}
theorem forI (w : Walk J n G Y) {g : TG} {tb : TS} {nx : L2.St → Hp → Prop} {rt : VK} {σ : L2.St} {H : Hp} (Pv : Nat → L2.St → Hp → Prop) (h0 : Pv 0 σ H) (hG : ∀ i σ H, i ≤ n → Pv i σ H → G H)
    (hs : ∀ i x σ H H', i < n → Pv i σ H → Y i H x H' → g x σ H' fun σ2 H2 => tb ⟨Pv (i + 1), rt, nx, Pv (i + 1)⟩ σ2 H2) (hd : ∀ σ H, Pv n σ H → nx σ H) :
    ∃ W : Nat → Nat → L2.St → Hp → Prop, (∃ m, W 0 m σ H) ∧ ∀ i m σ H, W i m σ H →
      (J.stop i H ∧ nx σ H) ∨ (J.go i H ∧ ∃ N : L2.St → Hp → Prop, (∀ σ' H', N σ' H' → ∃ m', m' < m ∧ W (i + 1) m' σ' H') ∧ ∀ x H', J.yld i H x H' → g x σ H' fun σ2 H2 => tb ⟨N, rt, nx, N⟩ σ2 H2) :=
  for_it (D := ⟨nx, rt, fun _ _ => False, fun _ _ => False⟩) w Pv h0 hG hs hd
theorem forA {xs : List V} (w : Walk J xs.length G (YAt xs)) {g : TG} {tb : TS} {nx : L2.St → Hp → Prop} {rt : VK} {σ : L2.St} {H : Hp} (Pv : Nat → L2.St → Hp → Prop) (h0 : Pv 0 σ H) (hG : ∀ i σ H, i ≤ xs.length → Pv i σ H → G H)
    (hs : ∀ i σ H (hi : i < xs.length), Pv i σ H → g xs[i] σ H fun σ2 H2 => tb ⟨Pv (i + 1), rt, nx, Pv (i + 1)⟩ σ2 H2) (hd : ∀ σ H, Pv xs.length σ H → nx σ H) :
    ∃ W : Nat → Nat → L2.St → Hp → Prop, (∃ m, W 0 m σ H) ∧ ∀ i m σ H, W i m σ H →
      (J.stop i H ∧ nx σ H) ∨ (J.go i H ∧ ∃ N : L2.St → Hp → Prop, (∀ σ' H', N σ' H' → ∃ m', m' < m ∧ W (i + 1) m' σ' H') ∧ ∀ x H', J.yld i H x H' → g x σ H' fun σ2 H2 => tb ⟨N, rt, nx, N⟩ σ2 H2) :=
  forI w Pv h0 hG (fun i x σ H H' hi p y => by
    obtain ⟨rfl, e⟩ := y
    rw [List.getElem?_eq_getElem hi] at e
    cases e
    exact hs i σ H' hi p) hd
theorem forAI {ns : List Int} (w : Walk J (ns.map V.int).length G (YAt (ns.map V.int))) {g : TG} {tb : TS} {nx : L2.St → Hp → Prop} {rt : VK} {σ : L2.St} {H : Hp} (Pv : Nat → L2.St → Hp → Prop) (h0 : Pv 0 σ H) (hG : ∀ i σ H, i ≤ (ns.map V.int).length → Pv i σ H → G H)
    (hs : ∀ i σ H (hi : i < ns.length), Pv i σ H → g (.int ns[i]) σ H fun σ2 H2 => tb ⟨Pv (i + 1), rt, nx, Pv (i + 1)⟩ σ2 H2) (hd : ∀ σ H, Pv (ns.map V.int).length σ H → nx σ H) :
    ∃ W : Nat → Nat → L2.St → Hp → Prop, (∃ m, W 0 m σ H) ∧ ∀ i m σ H, W i m σ H →
      (J.stop i H ∧ nx σ H) ∨ (J.go i H ∧ ∃ N : L2.St → Hp → Prop, (∀ σ' H', N σ' H' → ∃ m', m' < m ∧ W (i + 1) m' σ' H') ∧ ∀ x H', J.yld i H x H' → g x σ H' fun σ2 H2 => tb ⟨N, rt, nx, N⟩ σ2 H2) :=
  forI w Pv h0 hG (fun i x σ H H' hi p y => by
    obtain ⟨rfl, e⟩ := y
    have hi' : i < ns.length := by simpa using hi
    rw [List.getElem?_map, List.getElem?_eq_getElem hi'] at e
    cases e
    exact hs i σ H' hi' p) hd
theorem forF {f : Nat → V} (w : Walk J n G (YFn f)) {g : TG} {tb : TS} {nx : L2.St → Hp → Prop} {rt : VK} {σ : L2.St} {H : Hp} (Pv : Nat → L2.St → Hp → Prop) (h0 : Pv 0 σ H) (hG : ∀ i σ H, i ≤ n → Pv i σ H → G H)
    (hs : ∀ i σ H, i < n → Pv i σ H → g (f i) σ H fun σ2 H2 => tb ⟨Pv (i + 1), rt, nx, Pv (i + 1)⟩ σ2 H2) (hd : ∀ σ H, Pv n σ H → nx σ H) :
    ∃ W : Nat → Nat → L2.St → Hp → Prop, (∃ m, W 0 m σ H) ∧ ∀ i m σ H, W i m σ H →
      (J.stop i H ∧ nx σ H) ∨ (J.go i H ∧ ∃ N : L2.St → Hp → Prop, (∀ σ' H', N σ' H' → ∃ m', m' < m ∧ W (i + 1) m' σ' H') ∧ ∀ x H', J.yld i H x H' → g x σ H' fun σ2 H2 => tb ⟨N, rt, nx, N⟩ σ2 H2) :=
  forI w Pv h0 hG (fun i x σ H H' hi p y => by
    obtain ⟨rfl, rfl⟩ := y
    exact hs i σ H' hi p) hd
theorem forP {f1 f2 : Nat → Option V} (w : Walk J n G (YPair f1 f2)) {g : TG} {tb : TS} {nx : L2.St → Hp → Prop} {rt : VK} {σ : L2.St} {H : Hp} (Pv : Nat → L2.St → Hp → Prop) (h0 : Pv 0 σ H) (hG : ∀ i σ H, i ≤ n → Pv i σ H → G H)
    (hs : ∀ i σ H T x y, i < n → Pv i σ H → f1 i = some x → f2 i = some y → H T = none → g (.ref T) σ (upd H T (.tup [x, y])) fun σ2 H2 => tb ⟨Pv (i + 1), rt, nx, Pv (i + 1)⟩ σ2 H2) (hd : ∀ σ H, Pv n σ H → nx σ H) :
    ∃ W : Nat → Nat → L2.St → Hp → Prop, (∃ m, W 0 m σ H) ∧ ∀ i m σ H, W i m σ H →
      (J.stop i H ∧ nx σ H) ∨ (J.go i H ∧ ∃ N : L2.St → Hp → Prop, (∀ σ' H', N σ' H' → ∃ m', m' < m ∧ W (i + 1) m' σ' H') ∧ ∀ x H', J.yld i H x H' → g x σ H' fun σ2 H2 => tb ⟨N, rt, nx, N⟩ σ2 H2) :=
  forI w Pv h0 hG (fun i x σ H H' hi p y => by
    obtain ⟨T, x, y, rfl, nT, rfl, e1, e2⟩ := y
    exact hs i σ H T x y hi p e1 e2 nT) hd
theorem forEI {ns : List Int} (w : Walk J (ns.map V.int).length G (YPair (fun i => some (.int (i : Nat))) (fun i => (ns.map V.int)[i]?))) {g : TG} {tb : TS} {nx : L2.St → Hp → Prop} {rt : VK} {σ : L2.St} {H : Hp} (Pv : Nat → L2.St → Hp → Prop) (h0 : Pv 0 σ H) (hG : ∀ i σ H, i ≤ (ns.map V.int).length → Pv i σ H → G H)
    (hs : ∀ i σ H T (hi : i < ns.length), Pv i σ H → H T = none → g (.ref T) σ (upd H T (.tup [.int (i : Nat), .int ns[i]])) fun σ2 H2 => tb ⟨Pv (i + 1), rt, nx, Pv (i + 1)⟩ σ2 H2) (hd : ∀ σ H, Pv (ns.map V.int).length σ H → nx σ H) :
    ∃ W : Nat → Nat → L2.St → Hp → Prop, (∃ m, W 0 m σ H) ∧ ∀ i m σ H, W i m σ H →
      (J.stop i H ∧ nx σ H) ∨ (J.go i H ∧ ∃ N : L2.St → Hp → Prop, (∀ σ' H', N σ' H' → ∃ m', m' < m ∧ W (i + 1) m' σ' H') ∧ ∀ x H', J.yld i H x H' → g x σ H' fun σ2 H2 => tb ⟨N, rt, nx, N⟩ σ2 H2) :=
  forI w Pv h0 hG (fun i x σ H H' hi p y => by
    obtain ⟨T, x, y, rfl, nT, rfl, e1, e2⟩ := y
    have hi' : i < ns.length := by simpa using hi
    cases e1
    simp only [List.getElem?_map, List.getElem?_eq_getElem hi'] at e2
    cases e2
    exact hs i σ H T hi' p nT) hd
theorem lc_same (w : Walk J n G Y) {g : TG} {tt : TT} {te : TE} {vs : List Nat} {σ : L2.St} {H0 H1 : Hp} {D : Addr} {Qd : Hp → Prop} (acc : Nat → List V) (hD : H1 D = none) (h01 : Same H0 H1) (a0 : acc 0 = [])
    (hG : ∀ H, Same H0 H → G H)
    (hs : ∀ i x H H', i < n → Same H0 H ∧ H D = some (.lst (acc i)) → Y i H x H' → g x (wipe σ vs) H' fun σ2 H2 => wipe σ2 vs = wipe σ vs ∧ tt σ2 H2 fun b H3 =>
      if b = true then te σ2 H3 fun y H4 => ∃ l, H4 D = some (.lst l) ∧ l.length < sizeLine ∧ Same H0 (upd H4 D (.lst (l ++ [y]))) ∧ (upd H4 D (.lst (l ++ [y]))) D = some (.lst (acc (i + 1))) else Same H0 H3 ∧ H3 D = some (.lst (acc (i + 1))))
    (hd : ∀ H, Same H0 H → H D = some (.lst (acc n)) → Qd H) :
    ∃ W : Nat → Nat → Hp → Prop, (∃ m, W 0 m (upd H1 D (.lst []))) ∧ ∀ i m H, W i m H →
      (J.stop i H ∧ Qd H) ∨ (J.go i H ∧ ∃ Nx : Hp → Prop, (∀ H', Nx H' → ∃ m', m' < m ∧ W (i + 1) m' H') ∧ ∀ x H', J.yld i H x H' → g x (wipe σ vs) H' fun σ2 H2 => wipe σ2 vs = wipe σ vs ∧ tt σ2 H2 fun b H3 =>
        if b = true then te σ2 H3 fun y H4 => ∃ acc, H4 D = some (.lst acc) ∧ acc.length < sizeLine ∧ Nx (upd H4 D (.lst (acc ++ [y]))) else Nx H3) :=
  lc_it w (fun i H => Same H0 H ∧ H D = some (.lst (acc i))) ⟨same_old h01 (h01.free hD), by rw [a0]; exact upd_same⟩ (fun i H _ p => hG H p.1) hs (fun H p => hd H p.1 p.2)
theorem lc_sameAI {ns : List Int} (w : Walk J (ns.map V.int).length G (YAt (ns.map V.int))) {g : TG} {tt : TT} {te : TE} {vs : List Nat} {σ : L2.St} {H0 H1 : Hp} {D : Addr} {Qd : Hp → Prop} (acc : Nat → List V) (hD : H1 D = none) (h01 : Same H0 H1) (a0 : acc 0 = [])
    (hG : ∀ H, Same H0 H → G H)
    (hs : ∀ i H (hi : i < ns.length), Same H0 H ∧ H D = some (.lst (acc i)) → g (.int ns[i]) (wipe σ vs) H fun σ2 H2 => wipe σ2 vs = wipe σ vs ∧ tt σ2 H2 fun b H3 =>
      if b = true then te σ2 H3 fun y H4 => ∃ l, H4 D = some (.lst l) ∧ l.length < sizeLine ∧ Same H0 (upd H4 D (.lst (l ++ [y]))) ∧ (upd H4 D (.lst (l ++ [y]))) D = some (.lst (acc (i + 1))) else Same H0 H3 ∧ H3 D = some (.lst (acc (i + 1))))
    (hd : ∀ H, Same H0 H → H D = some (.lst (acc ns.length)) → Qd H) :
    ∃ W : Nat → Nat → Hp → Prop, (∃ m, W 0 m (upd H1 D (.lst []))) ∧ ∀ i m H, W i m H →
      (J.stop i H ∧ Qd H) ∨ (J.go i H ∧ ∃ Nx : Hp → Prop, (∀ H', Nx H' → ∃ m', m' < m ∧ W (i + 1) m' H') ∧ ∀ x H', J.yld i H x H' → g x (wipe σ vs) H' fun σ2 H2 => wipe σ2 vs = wipe σ vs ∧ tt σ2 H2 fun b H3 =>
        if b = true then te σ2 H3 fun y H4 => ∃ acc, H4 D = some (.lst acc) ∧ acc.length < sizeLine ∧ Nx (upd H4 D (.lst (acc ++ [y]))) else Nx H3) :=
  lc_same w acc hD h01 a0 hG (fun i x H H' hi p y => by
    obtain ⟨rfl, e⟩ := y
    have hi' : i < ns.length := by simpa using hi
    rw [List.getElem?_map, List.getElem?_eq_getElem hi'] at e
    cases e
    exact hs i H' hi' p) (fun H p q => hd H p (by simpa using q))
theorem lc_sameEI {ns : List Int} (w : Walk J (ns.map V.int).length G (YPair (fun i => some (.int (i : Nat))) (fun i => (ns.map V.int)[i]?))) {g : TG} {tt : TT} {te : TE} {vs : List Nat} {σ : L2.St} {H0 H1 : Hp} {D : Addr} {Qd : Hp → Prop} (acc : Nat → List V) (hD : H1 D = none) (h01 : Same H0 H1) (a0 : acc 0 = [])
    (hG : ∀ H, Same H0 H → G H)
    (hs : ∀ i H T (hi : i < ns.length), Same H0 H ∧ H D = some (.lst (acc i)) → H T = none → g (.ref T) (wipe σ vs) (upd H T (.tup [.int (i : Nat), .int ns[i]])) fun σ2 H2 => wipe σ2 vs = wipe σ vs ∧ tt σ2 H2 fun b H3 =>
      if b = true then te σ2 H3 fun y H4 => ∃ l, H4 D = some (.lst l) ∧ l.length < sizeLine ∧ Same H0 (upd H4 D (.lst (l ++ [y]))) ∧ (upd H4 D (.lst (l ++ [y]))) D = some (.lst (acc (i + 1))) else Same H0 H3 ∧ H3 D = some (.lst (acc (i + 1))))
    (hd : ∀ H, Same H0 H → H D = some (.lst (acc ns.length)) → Qd H) :
    ∃ W : Nat → Nat → Hp → Prop, (∃ m, W 0 m (upd H1 D (.lst []))) ∧ ∀ i m H, W i m H →
      (J.stop i H ∧ Qd H) ∨ (J.go i H ∧ ∃ Nx : Hp → Prop, (∀ H', Nx H' → ∃ m', m' < m ∧ W (i + 1) m' H') ∧ ∀ x H', J.yld i H x H' → g x (wipe σ vs) H' fun σ2 H2 => wipe σ2 vs = wipe σ vs ∧ tt σ2 H2 fun b H3 =>
        if b = true then te σ2 H3 fun y H4 => ∃ acc, H4 D = some (.lst acc) ∧ acc.length < sizeLine ∧ Nx (upd H4 D (.lst (acc ++ [y]))) else Nx H3) :=
  lc_same w acc hD h01 a0 hG (fun i x H H' hi p y => by
    obtain ⟨T, x, y, rfl, nT, rfl, e1, e2⟩ := y
    have hi' : i < ns.length := by simpa using hi
    cases e1
    simp only [List.getElem?_map, List.getElem?_eq_getElem hi'] at e2
    cases e2
    exact hs i H T hi' p nT) (fun H p q => hd H p (by simpa using q))
theorem lc_sameF {n : Nat} {f : Nat → V} (w : Walk J n G (YFn f)) {g : TG} {tt : TT} {te : TE} {vs : List Nat} {σ : L2.St} {H0 H1 : Hp} {D : Addr} {Qd : Hp → Prop} (acc : Nat → List V) (hD : H1 D = none) (h01 : Same H0 H1) (a0 : acc 0 = [])
    (hG : ∀ H, Same H0 H → G H)
    (hs : ∀ i H, i < n → Same H0 H ∧ H D = some (.lst (acc i)) → g (f i) (wipe σ vs) H fun σ2 H2 => wipe σ2 vs = wipe σ vs ∧ tt σ2 H2 fun b H3 =>
      if b = true then te σ2 H3 fun y H4 => ∃ l, H4 D = some (.lst l) ∧ l.length < sizeLine ∧ Same H0 (upd H4 D (.lst (l ++ [y]))) ∧ (upd H4 D (.lst (l ++ [y]))) D = some (.lst (acc (i + 1))) else Same H0 H3 ∧ H3 D = some (.lst (acc (i + 1))))
    (hd : ∀ H, Same H0 H → H D = some (.lst (acc n)) → Qd H) :
    ∃ W : Nat → Nat → Hp → Prop, (∃ m, W 0 m (upd H1 D (.lst []))) ∧ ∀ i m H, W i m H →
      (J.stop i H ∧ Qd H) ∨ (J.go i H ∧ ∃ Nx : Hp → Prop, (∀ H', Nx H' → ∃ m', m' < m ∧ W (i + 1) m' H') ∧ ∀ x H', J.yld i H x H' → g x (wipe σ vs) H' fun σ2 H2 => wipe σ2 vs = wipe σ vs ∧ tt σ2 H2 fun b H3 =>
        if b = true then te σ2 H3 fun y H4 => ∃ acc, H4 D = some (.lst acc) ∧ acc.length < sizeLine ∧ Nx (upd H4 D (.lst (acc ++ [y]))) else Nx H3) :=
  lc_same w acc hD h01 a0 hG (fun i x H H' hi p y => by
    obtain ⟨rfl, rfl⟩ := y
    exact hs i H' hi p) hd
theorem lc_add {H0 H H4 : Hp} {D : Addr} {a a' : List V} {y : V} (p : Same H0 H ∧ H D = some (.lst a)) (s : Same H H4) (hD : H0 D = none) (e : a' = a ++ [y]) (hz : a.length < sizeLine) :
    ∃ l, H4 D = some (.lst l) ∧ l.length < sizeLine ∧ Same H0 (upd H4 D (.lst (l ++ [y]))) ∧ (upd H4 D (.lst (l ++ [y]))) D = some (.lst a') :=
  ⟨a, s _ _ p.2, hz, same_old (p.1.trans s) hD, by rw [e]; exact upd_same⟩
theorem lc_skip {H0 H H4 : Hp} {D : Addr} {a a' : List V} (p : Same H0 H ∧ H D = some (.lst a)) (s : Same H H4) (e : a' = a) : Same H0 H4 ∧ H4 D = some (.lst a') := ⟨p.1.trans s, by rw [e]; exact s _ _ p.2⟩
theorem take_one {α : Type} {l : List α} {i : Nat} (hi : i < l.length) : l.take (i + 1) = l.take i ++ [l[i]] := by rw [List.take_add_one, List.getElem?_eq_getElem hi]; rfl
theorem acc_filtT {l : List Int} {f : Int → Bool} {i : Nat} (hi : i < l.length) (h : f l[i] = true) : ((l.take (i + 1)).filter f).map V.int = ((l.take i).filter f).map V.int ++ [.int l[i]] := by
  rw [take_one hi, List.filter_append, List.map_append]; simp [h]
theorem acc_filtF {l : List Int} {f : Int → Bool} {i : Nat} (hi : i < l.length) (h : f l[i] = false) : ((l.take (i + 1)).filter f).map V.int = ((l.take i).filter f).map V.int := by
  rw [take_one hi, List.filter_append, List.map_append]; simp [h]
theorem filt_len {l : List Int} {f : Int → Bool} {i : Nat} (h : l.length ≤ 1000000) : (((l.take i).filter f).map V.int).length < sizeLine := by
  rw [List.length_map]
  refine Nat.lt_of_le_of_lt (Nat.le_trans (List.length_filter_le _ _) (List.length_take_le' _ _)) (size_lt (by omega))
end
theorem erase_map {α β : Type} (f : α → β) : ∀ (l : List α) (j : Nat), (l.map f).eraseIdx j = (l.eraseIdx j).map f
  | [], _ => rfl
  | x :: r, 0 => rfl
  | x :: r, j + 1 => congrArg (f x :: ·) (erase_map f r j)
theorem erase_perm {α : Type} : ∀ (l : List α) (j : Nat) (h : j < l.length), (l[j] :: l.eraseIdx j).Perm l
  | x :: r, 0, _ => List.Perm.refl _
  | x :: r, j + 1, h => (List.Perm.swap x (r[j]'(Nat.lt_of_succ_lt_succ h)) (r.eraseIdx j)).trans ((erase_perm r j (Nat.lt_of_succ_lt_succ h)).cons x)
end Xk

set_option Elab.async false
set_option linter.all false
set_option maxRecDepth 100000
namespace Xk
open PySem PySem.Spec PyProof.Rows L2
/-! ### data -/
abbrev dI (ns : List Int) : PyData := .list (ns.map PyData.int)
section
variable {K : PySem.W.Frag} {H H' : Hp}
theorem dp_ints : ∀ ns : List Int, DpAll K H (ns.map V.int) (ns.map PyData.int)
  | [] => .nil
  | i :: r => .cons (.int i) (dp_ints r)
theorem dp_lst {a : Addr} {ns : List Int} (h : SqL K H a (ns.map V.int)) : Dp K H (.ref a) (dI ns) := .lst h (dp_ints ns)
theorem eqv_ints : ∀ ns ms : List Int, PyData.eqvAll (ns.map PyData.int) (ms.map PyData.int) = decide (ns = ms)
  | [], [] => rfl
  | [], _ :: _ => rfl
  | _ :: _, [] => rfl
  | i :: r, j :: t => by
    show ((i == j) && PyData.eqvAll (r.map PyData.int) (t.map PyData.int)) = _
    rw [eqv_ints r t]
    by_cases e : i = j
    · subst e; by_cases f : r = t
      · subst f; simp
      · simp [f]
    · simp [e]
theorem eqv_dI (ns ms : List Int) : PyData.eqv (dI ns) (dI ms) = decide (ns = ms) := eqv_ints ns ms
theorem lay_ints : ∀ ns : List Int, PyData.canLayAll0 (ns.map PyData.int) = true
  | [] => rfl
  | _ :: r => lay_ints r
theorem depth_ints : ∀ ns : List Int, PyData.depthAll (ns.map PyData.int) = 0
  | [] => rfl
  | i :: r => by show max 0 (PyData.depthAll (r.map PyData.int)) = 0; rw [depth_ints r]; rfl
theorem shaped_dI (ns : List Int) : SeqAt.shaped (dI ns) = true := by
  unfold SeqAt.shaped
  rw [Bool.and_eq_true]
  refine ⟨lay_ints ns, ?_⟩
  show decide (PyData.depthAll (ns.map PyData.int) + 1 ≤ 64) = true
  rw [depth_ints]; rfl
/-- == of two lists of ints -/
theorem r_eqL {a b : Addr} {ns ms : List Int} {Q : VK} (h : SqL K H a (ns.map V.int)) (g : SqL K H b (ms.map V.int)) (q : Q (.bl (decide (ns = ms))) H) : rEqD K (.ref a) (.ref b) H Q :=
  ⟨_, _, dp_lst h, dp_lst g, shaped_dI ns, shaped_dI ms, by rw [eqv_dI]; exact q⟩
theorem r_neL {a b : Addr} {ns ms : List Int} {Q : VK} (h : SqL K H a (ns.map V.int)) (g : SqL K H b (ms.map V.int)) (q : Q (.bl (!decide (ns = ms))) H) : rNeD K (.ref a) (.ref b) H Q :=
  ⟨_, _, dp_lst h, dp_lst g, shaped_dI ns, shaped_dI ms, by rw [eqv_dI]; exact q⟩
end

/-! ### how long a repr may be -/
def Sh (b : Nat) (d : PyData) : Prop := d.showable = true ∧ d.shown.length ≤ b
theorem Sh.mono {b c : Nat} {d : PyData} (h : Sh b d) (e : b ≤ c) : Sh c d := ⟨h.1, Nat.le_trans h.2 e⟩
theorem len_app (a b : Str) : (a ++ b).length = a.length + b.length := by
  show (a.cps ++ b.cps).size = _
  exact Array.size_append
theorem from_le : ∀ (ts : List Str) (k b : Nat) (acc : Str), (∀ t ∈ ts, t.length ≤ b) → (textFrom k acc ts).length ≤ acc.length + ts.length * (b + 2)
  | [], _, _, _, _ => by simp [textFrom]
  | t :: r, k, b, acc, h => by
    have ht := h t List.mem_cons_self
    have ih := fun acc' => from_le r (k + 1) b acc' fun t ht => h t (List.mem_cons_of_mem _ ht)
    unfold textFrom
    refine Nat.le_trans (ih _) ?_
    rw [List.length_cons, Nat.succ_mul]
    have e2 : (Str.ofString ", ").length = 2 := rfl
    have e0 : (Str.ofString "").length = 0 := rfl
    generalize r.length * (b + 2) = R
    split <;> simp only [len_app] <;> omega
theorem all_sh {b : Nat} : ∀ {ds : List PyData}, (∀ d ∈ ds, Sh b d) → PyData.showableAll ds = true ∧ ∀ t ∈ PyData.shownAll ds, t.length ≤ b
  | [], _ => ⟨rfl, fun t h => nomatch h⟩
  | d :: r, h => by
    have h1 := h d List.mem_cons_self
    have ih := all_sh fun e he => h e (List.mem_cons_of_mem _ he)
    refine ⟨?_, fun t ht => ?_⟩
    · show (d.showable && PyData.showableAll r) = true
      rw [h1.1, ih.1]; rfl
    · rcases List.mem_cons.mp (show t ∈ d.shown :: PyData.shownAll r from ht) with e | e
      · subst e; exact h1.2
      · exact ih.2 t e
theorem shown_len : ∀ ds : List PyData, (PyData.shownAll ds).length = ds.length
  | [] => rfl
  | _ :: r => congrArg (· + 1) (shown_len r)
theorem Sh.list {b : Nat} {ds : List PyData} (h : ∀ d ∈ ds, Sh b d) : Sh (ds.length * (b + 2) + 2) (.list ds) := by
  obtain ⟨h1, h2⟩ := all_sh h
  refine ⟨h1, ?_⟩
  show (listText (PyData.shownAll ds)).length ≤ _
  unfold listText
  rw [len_app]
  have := from_le (PyData.shownAll ds) 0 b "[" h2
  rw [shown_len] at this
  have e1 : ("[" : Str).length = 1 := rfl
  have e2 : ("]" : Str).length = 1 := rfl
  omega
theorem piled_le : ∀ (ts : List Str) (b : Nat), (∀ t ∈ ts, t.length ≤ b) → piled ts ≤ ts.length * (b + 2)
  | [], _, _ => by simp [piled]
  | t :: r, b, h => by
    have h1 := h t List.mem_cons_self
    have ih := piled_le r b fun e he => h e (List.mem_cons_of_mem _ he)
    have e : piled (t :: r) = t.length + 2 + piled r := by simp [piled]
    rw [e, List.length_cons, Nat.succ_mul]
    omega
theorem Sh.tuple {b : Nat} {ds : List PyData} (h : ∀ d ∈ ds, Sh b d) : Sh (ds.length * (b + 2) + 3) (.tuple ds) := by
  obtain ⟨h1, h2⟩ := all_sh h
  refine ⟨h1, ?_⟩
  show (tupleText (PyData.shownAll ds)).length ≤ _
  unfold tupleText
  rw [len_app, len_app]
  have hp := piled_le (PyData.shownAll ds) b h2
  rw [shown_len] at hp
  have e1 : ("(" : Str).length = 1 := rfl
  have e2 : (Str.ofString ",)").length = 2 := rfl
  have e3 : (Str.ofString ")").length = 1 := rfl
  by_cases q : PyData.shownAll ds = []
  · rw [q]
    have e4 : (Str.join ", " []).length = 0 := rfl
    split <;> omega
  · have := join_length_add _ q
    split <;> omega
theorem Sh.bool {b : Bool} : Sh 5 (.bool b) := ⟨rfl, by cases b <;> decide⟩
theorem Sh.none : Sh 4 .none := ⟨rfl, by decide⟩
theorem Sh.int {i : Int} {k : Nat} (hk : 0 < k) (h : i.natAbs < 10 ^ k) (h9 : k ≤ 500) : Sh (k + 1) (.int i) := by
  refine ⟨?_, ?_⟩
  · show decide (i.natAbs.log2 < 1920) = true
    rw [decide_eq_true_eq]
    by_cases z : i.natAbs = 0
    · rw [z]; decide
    · refine (Nat.log2_lt z).mpr (Nat.lt_trans h (Nat.lt_of_le_of_lt (Nat.pow_le_pow_right (by decide) h9) (by decide +kernel)))
  · show (Str.ofString (toString i)).length ≤ k + 1
    match i, h with
    | .ofNat n, h => exact Nat.le_succ_of_le (PyProof.Rows.toString_length_le (v := (n : Int)) (by omega) hk (by
        have h' : n < 10 ^ k := h
        have : ((n : Nat) : Int) < ((10 ^ k : Nat) : Int) := by omega
        simpa using this))
    | .negSucc n, h =>
      have h' : n + 1 < 10 ^ k := h
      have := PyProof.Rows.toString_length_le (v := ((n + 1 : Nat) : Int)) (by omega) hk (by
        have : ((n + 1 : Nat) : Int) < ((10 ^ k : Nat) : Int) := by omega
        simpa using this)
      rw [PyProof.Rows.ofString_length, String.length_toList] at this
      rw [PyProof.Rows.ofString_length, String.length_toList]
      show ("-" ++ toString (n + 1)).length ≤ k + 1
      rw [String.length_append]
      have e : ("-" : String).length = 1 := rfl
      have e2 : (toString ((n + 1 : Nat) : Int)) = toString (n + 1) := rfl
      rw [e2] at this
      omega
theorem Sh.ints {ns : List Int} {k : Nat} (hk : 0 < k) (h9 : k ≤ 500) (h : ∀ i ∈ ns, i.natAbs < 10 ^ k) : Sh (ns.length * (k + 3) + 2) (dI ns) := by
  have := Sh.list (b := k + 1) (ds := ns.map PyData.int) fun d hd => by
    obtain ⟨i, hi, rfl⟩ := List.mem_map.mp hd
    exact Sh.int hk (h i hi) h9
  rw [List.length_map] at this
  exact this
/-- repr(a list), in a reading -/
theorem r_repr {K : PySem.W.Frag} {H : Hp} {a : Addr} {d : PyData} {Q : VK} (h : Dp K H (.ref a) d) (hd : d.depth ≤ 60) {b : Nat} (s : Sh b d) (hb : b ≤ 16777216) (q : Q (.str d.shown) H) : rReprD K [.ref a] H Q :=
  ⟨a, d, rfl, h, s.1, hd, Nat.le_trans s.2 hb, q⟩
theorem depth_dI (ns : List Int) : (dI ns).depth ≤ 60 := by show PyData.depthAll (ns.map PyData.int) + 1 ≤ 60; rw [depth_ints]; decide
end Xk

set_option Elab.async false
set_option linter.all false
set_option maxRecDepth 100000
namespace Xk
open PySem PySem.Spec PyProof.Rows L2
/-! ### isinstance, is None, truth values compared -/
section
variable {X : Cx} (K : PySem.W.Frag)
theorem ix_seqK (hK : X.K = K := by rfl) : IxR X (rIx K) := hK ▸ ix_seq
theorem pg_unlK {es : List Expr} {g : TGs} {k : Nat} {pos : Pos} (n : Nat) (hc : X.calm = true) (h : PGs X es g) (hn : (assignEach es X.env).length = n := by rfl) (hst : (assignEach es X.env).findIdx? (·.1) = none := by rfl) (hK : X.K = K := by rfl) : PG X (.Tuple es k pos) (gUnl K n g) := hK ▸ pg_unl hc h hn hst
/-- x in xs, data of few layers -/
def rInE (K : PySem.W.Frag) : R2 := fun x y H Q => ∃ d ds, Dp K H x d ∧ Dp K H y (.list ds) ∧ SeqAt.shaped d = true ∧ SeqAt.shaped (.list ds) = true ∧ d.depth ≤ 60 ∧ Q (.bl (ds.any fun z => PyData.eqv z d)) H
theorem op_inE (hu : X.A.units + 64 < cLine) (hK : X.K = K := by rfl) : OpR X (compareOp .In) (rInE K) := by
  subst hK
  intro pins s σ H x y v u Q I rx ry h
  obtain ⟨d, ds, hd, he, sd, se, dd, q⟩ := h
  obtain ⟨as, r1⟩ := Dp.reads I d x v hd rx
  obtain ⟨bs, r2⟩ := Dp.reads I (.list ds) y u he ry
  refine SeqAt.in_list_reads r2 r1 (SeqAt.canLay_of_shaped se) (SeqAt.canLay_of_shaped sd) ?_ ⟨.bl _, H, I, rfl, q⟩
  have := Nat.min_le_right (PyData.depthAll ds) d.depth
  omega
theorem isiK (hK : X.K = K := by rfl) : CallR X (.builtin "isinstance") (rIsi K) := hK ▸ call_isi
end
section
variable {K : PySem.W.Frag} {H H' : Hp} {Q : VK} {x : V} {T t : String} {r : Bool}
theorem r_isi (ty : TyX K H x (.type t)) (e : kitB t T = some r) (q : Q (.bl r) H) : rIsi K [x, .ty T] H Q := ⟨x, .ty T, .type t, .type T, r, rfl, .ty T, ty, kit_ty e, q⟩
theorem tyx_list {a : Addr} {xs : List V} (h : SqL K H a xs) : TyX K H (.ref a) (.type "list") := by
  rcases h with (h | ⟨o, h⟩) | ⟨o, its, n, h, c, _⟩
  · exact .base (.lst h)
  · exact .base (.frz h)
  · exact .kList h c
theorem tyx_tup {a : Addr} {xs : List V} (h : SqT K H a xs) : TyX K H (.ref a) (.type "tuple") := by
  rcases h with (h | ⟨o, h⟩) | ⟨o, its, n, h, c, _⟩
  · exact .base (.tup h)
  · exact .fTuple h
  · exact .kTuple h c
theorem r_isN {A : Prop} (q : A) : V.non = V.non ∧ A := ⟨rfl, q⟩
theorem r_neB {a b : Bool} (q : Q (.bl (!decide (a = b))) H) : rNe (.bl a) (.bl b) H Q := by
  refine ⟨rfl, ?_⟩
  have e : decide (V.bl a = V.bl b) = decide (a = b) := by
    by_cases h : a = b
    · subst h; simp
    · rw [decide_eq_false h, decide_eq_false]; intro z; cases z; exact h rfl
  rw [e]; exact q
theorem r_eqB {a b : Bool} (q : Q (.bl (decide (a = b))) H) : rEq (.bl a) (.bl b) H Q := by
  refine ⟨rfl, ?_⟩
  have e : decide (V.bl a = V.bl b) = decide (a = b) := by
    by_cases h : a = b
    · subst h; simp
    · rw [decide_eq_false h, decide_eq_false]; intro z; cases z; exact h rfl
  rw [e]; exact q
theorem r_iRev {tA : TA} {σ : L2.St} {R : L2.It → Hp → Prop} (h : tA σ H fun vs H1 => ∃ a xs, vs = [.ref a] ∧ SqL K H1 a xs ∧ R (Itv K a xs.length) H1) : iRev K tA σ H R := h
theorem r_insert {l : Addr} {xs : List V} {i : Int} {y : V} (h : H l = some (.lst xs)) (hz : xs.length < sizeLine) (h0 : 0 ≤ i) (h1 : i < 2 ^ 63) (q : Q .non (upd H l (.lst (xs.take i.toNat ++ [y] ++ xs.drop i.toNat)))) :
    ∃ (l' : Addr) (xs : List V) (i' : Int) (y' : V), V.ref l = .ref l' ∧ [V.int i, y] = [.int i', y'] ∧ H l' = some (.lst xs) ∧ xs.length < sizeLine ∧ 0 ≤ i' ∧ i' < 2 ^ 63 ∧ Q .non (upd H l' (.lst (xs.take i'.toNat ++ [y'] ++ xs.drop i'.toNat))) := ⟨l, xs, i, y, rfl, rfl, h, hz, h0, h1, q⟩
theorem r_all {a : Addr} {bs : List Bool} (h : SqL K H a (bs.map V.bl)) (q : Q (.bl (bs.all id)) H) : rAll K [.ref a] H Q := ⟨a, bs, rfl, h, q⟩
theorem inv_ints (x : Int) (l : List Int) : inV (.int x) (l.map V.int) = decide (x ∈ l) := by
  unfold inV
  rw [List.any_map]
  by_cases hm : x ∈ l
  · rw [decide_eq_true hm, List.any_eq_true]
    exact ⟨_, hm, by show (_ == _) = true; simp⟩
  · rw [decide_eq_false hm, List.any_eq_false]
    intro y hy
    show ¬ (y == x) = true
    intro e
    exact hm (eq_of_beq e ▸ hy)
theorem r_gunl {gs : TGs} {σ : L2.St} {Qs : L2.St → Hp → Prop} {p : Addr} {xs : List V} {n : Nat} (h : SqL K H p xs) (hl : xs.length = n) (q : gs xs σ H Qs) : gUnl K n gs (.ref p) σ H Qs := ⟨p, xs, rfl, h, hl, q⟩
theorem r_lenT {p : Addr} {xs : List V} (h : SqT K H p xs) (q : Q (.int xs.length) H) : Xk.rLen K [.ref p] H Q := ⟨p, xs, rfl, .inr h, q⟩
theorem pow5 {i : Int} {n : Nat} {j : Int} (h : i.natAbs < 2 ^ n) (h0 : 0 ≤ j) (hj : j ≤ 5) (hn : n ≤ 20000000) : CPowW i j := by
  refine ⟨h0, ?_⟩
  have h1 := bits_le h
  have : (Builtin.Int.intBits i : Int) * j ≤ 20000000 * 5 := by
    refine Int.mul_le_mul ?_ hj h0 (by omega)
    omega
  refine Int.le_trans this (by decide)
theorem r_par3 {tA : TA} {σ : L2.St} {nx bk ct : L2.St → Hp → Prop} {rt : VK} {i j l : Nat} (h : tA σ H fun vs H1 => ∃ x y z, vs = [x, y, z] ∧ nx (((σ.set i (some x)).set j (some y)).set l (some z)) H1) : tPar3 i j l tA ⟨nx, rt, bk, ct⟩ σ H := h
theorem r_ex3 {f : V → V → V → Prop} {x y z : V} (h : f x y z) : ∃ u v w, [x, y, z] = [u, v, w] ∧ f u v w := ⟨x, y, z, rfl, h⟩
theorem r_ixQL {p : Addr} {xs : List V} {i : Int} {v : V} (h : SqL K H p xs) (ha : atI xs i = some v) (q : Q v H) : rIx K (.ref p) (.int i) H Q := .inl ⟨p, xs, i, v, rfl, rfl, h, ha, q⟩
theorem r_ixQT {p : Addr} {xs : List V} {i : Int} {v : V} (h : SqT K H p xs) (ha : atI xs i = some v) (q : Q v H) : rIx K (.ref p) (.int i) H Q := .inr (.inl ⟨p, xs, i, v, rfl, rfl, h, ha, q⟩)
theorem r_reverse {p : Addr} {xs : List V} (h : H p = some (.lst xs)) (q : Q .non (upd H p (.lst xs.reverse))) : rReverse (.ref p) [] H Q := ⟨p, xs, rfl, rfl, h, q⟩
theorem r_extend {p b : Addr} {xs zs : List V} (h : H p = some (.lst xs)) (g : H b = some (.lst zs)) (hz : xs.length + zs.length ≤ sizeLine) (q : Q .non (upd H p (.lst (xs ++ zs)))) : rExtend (.ref p) [.ref b] H Q := ⟨p, b, xs, zs, rfl, rfl, h, g, hz, q⟩
theorem r_cat {p b : Addr} {xs ys : List V} (h : H p = some (.lst xs)) (g : H b = some (.lst ys)) (hz : xs.length + ys.length ≤ sizeLine) (q : ∀ n, H n = none → Q (.ref n) (upd H n (.lst (xs ++ ys)))) : rCat (.ref p) (.ref b) H Q := ⟨p, b, xs, ys, rfl, rfl, h, g, hz, q⟩
theorem cut_any {xs : List V} {z y : Int} {a b : Nat} (h : z = (a : Int)) (g : y = (b : Int)) : cutV xs (some z) (some y) = (xs.drop a).take (b - a) := by
  subst h; subst g
  unfold cutV
  rw [show HT.sIx xs.length 0 (some (a : Int)) = min a xs.length from HT.sIx_nat xs.length 0 a, show HT.sIx xs.length xs.length (some (b : Int)) = min b xs.length from HT.sIx_nat xs.length xs.length b]
  by_cases q : a ≤ xs.length
  · rw [Nat.min_eq_left q]
    by_cases q2 : b ≤ xs.length
    · rw [Nat.min_eq_left q2]
    · rw [Nat.min_eq_right (by omega), List.take_of_length_le (by rw [List.length_drop]; omega), List.take_of_length_le (by rw [List.length_drop]; omega)]
  · rw [Nat.min_eq_right (show xs.length ≤ a by omega), List.drop_of_length_le (Nat.le_refl _), List.drop_of_length_le (show xs.length ≤ a by omega)]; simp
/-! ### data kept -/
theorem sqT_same {a : Addr} {xs : List V} (s : Same H H') (h : SqT K H a xs) : SqT K H' a xs := by
  rcases h with (h | ⟨o, h⟩) | h
  · exact .inl (.inl (s _ _ h))
  · exact .inl (.inr ⟨o, s _ _ h⟩)
  · exact .inr h
mutual
theorem dp_same (s : Same H H') : ∀ (d : PyData) (v : V), Dp K H v d → Dp K H' v d
  | .none, _, h => by cases h; exact .non
  | .bool b, _, h => by cases h; exact .bl b
  | .int i, _, h => by cases h; exact .int i
  | .str y, _, h => by cases h; exact .str y
  | .list ds, _, h => by
    cases h with
    | lst e a => exact .lst (s.seq e) (dp_sameAll s ds _ a)
  | .tuple ds, _, h => by
    cases h with
    | tup e a => exact .tup (sqT_same s e) (dp_sameAll s ds _ a)
  | .dict _, _, h => by cases h
theorem dp_sameAll (s : Same H H') : ∀ (ds : List PyData) (vs : List V), DpAll K H vs ds → DpAll K H' vs ds
  | [], _, h => by cases h; exact .nil
  | d :: ds, _, h => by
    cases h with
    | cons a b => exact .cons (dp_same s d _ a) (dp_sameAll s ds _ b)
end
theorem dpall_len : ∀ {vs : List V} {ds : List PyData}, DpAll K H vs ds → vs.length = ds.length
  | _, _, .nil => rfl
  | _, _, .cons _ b => congrArg (· + 1) (dpall_len b)
theorem dpall_at : ∀ {vs : List V} {ds : List PyData} (h : DpAll K H vs ds) (i : Nat) (hi : i < ds.length), ∃ v, vs[i]? = some v ∧ Dp K H v ds[i]
  | _, _, .cons a b, 0, _ => ⟨_, rfl, a⟩
  | _, _, .cons a b, i + 1, hi => dpall_at b i (Nat.lt_of_succ_lt_succ hi)
theorem depth_at : ∀ {ds : List PyData} {i : Nat} (hi : i < ds.length), ds[i].depth ≤ PyData.depthAll ds
  | d :: ds, 0, _ => Nat.le_max_left _ _
  | d :: ds, i + 1, hi => Nat.le_trans (depth_at (ds := ds) (Nat.lt_of_succ_lt_succ hi)) (Nat.le_max_right _ _)
end
end Xk

namespace My
def less (x : Int) (l : List Int) : Nat := (l.filter (fun y => decide (y < x))).length
def inv : List Int → Nat
  | [] => 0
  | x :: r => less x r + inv r
theorem less_perm {x : Int} {l m : List Int} (h : l.Perm m) : less x l = less x m := (h.filter _).length_eq
theorem less_cons (x y : Int) (r : List Int) : less x (y :: r) = (if y < x then 1 else 0) + less x r := by
  unfold less
  rw [List.filter_cons]
  by_cases h : y < x <;> simp [h]; omega
theorem inv_sorted : ∀ (s : List Int), s.Pairwise (· ≤ ·) → inv s = 0
  | [], _ => rfl
  | x :: r, h => by
    have h1 := List.pairwise_cons.mp h
    show less x r + inv r = 0
    rw [inv_sorted r h1.2]
    have : less x r = 0 := by
      unfold less
      rw [List.length_eq_zero_iff, List.filter_eq_nil_iff]
      intro y hy
      have := h1.1 y hy
      simp; omega
    omega
def invU (ns : List Int) : Nat → Nat
  | 0 => 0
  | i + 1 => invU ns i + less (ns.getD i 0) (ns.drop (i + 1))
theorem invU_cons (x : Int) (r : List Int) : ∀ i, invU (x :: r) (i + 1) = less x r + invU r i
  | 0 => by simp [invU]
  | i + 1 => by
    rw [invU, invU_cons x r i, invU]
    simp
    omega
theorem invU_all : ∀ ns : List Int, invU ns ns.length = inv ns
  | [] => rfl
  | x :: r => by rw [List.length_cons, invU_cons, invU_all r]; rfl
theorem less_le (x : Int) (l : List Int) : less x l ≤ l.length := List.length_filter_le _ _
theorem inv_le : ∀ ns : List Int, inv ns ≤ ns.length * ns.length
  | [] => Nat.le_refl _
  | x :: r => by
    have h1 := less_le x r
    have ih := inv_le r
    show less x r + inv r ≤ (r.length + 1) * (r.length + 1)
    rw [Nat.add_mul, Nat.mul_add, Nat.one_mul, Nat.mul_one]
    omega
def gt (x : Int) (l : List Int) : Nat := (l.filter (fun y => decide (x < y))).length
theorem inv_snoc (x : Int) : ∀ l : List Int, inv (l ++ [x]) = inv l + gt x l
  | [] => rfl
  | y :: r => by
    show less y (r ++ [x]) + inv (r ++ [x]) = less y r + inv r + gt x (y :: r)
    rw [inv_snoc x r]
    have e1 : less y (r ++ [x]) = less y r + if x < y then 1 else 0 := by
      unfold less
      rw [List.filter_append, List.length_append]
      by_cases h : x < y <;> simp [h]
    have e2 : gt x (y :: r) = (if x < y then 1 else 0) + gt x r := by
      unfold gt
      rw [List.filter_cons]
      by_cases h : x < y <;> simp [h]; omega
    omega
def gts (l : List Int) : Nat → List Int
  | 0 => []
  | i + 1 => gts l i ++ [((gt (l.getD i 0) (l.take i) : Nat) : Int)]
theorem gts_len (l : List Int) : ∀ i, (gts l i).length = i
  | 0 => rfl
  | i + 1 => by rw [gts, List.length_append, gts_len l i]; rfl
theorem gts_sum (l : List Int) : ∀ i, i ≤ l.length → (gts l i).sum = ((inv (l.take i) : Nat) : Int)
  | 0, _ => by simp [gts, inv]
  | i + 1, h => by
    have hi : i < l.length := h
    rw [gts, List.sum_append, gts_sum l i (by omega), List.take_add_one, List.getElem?_eq_getElem hi]
    show _ = ((inv (l.take i ++ [l[i]]) : Nat) : Int)
    rw [inv_snoc, show l.getD i 0 = l[i] by simp [List.getD, hi]]
    simp
theorem gt_less {x : Int} : ∀ {l : List Int}, x ∉ l → gt x l + less x l = l.length
  | [], _ => rfl
  | y :: r, h => by
    have h1 := gt_less (x := x) (l := r) (fun q => h (List.mem_cons_of_mem _ q))
    have h2 : x ≠ y := fun q => h (q ▸ List.mem_cons_self)
    rw [less_cons, List.length_cons]
    have e2 : gt x (y :: r) = (if x < y then 1 else 0) + gt x r := by
      unfold gt
      rw [List.filter_cons]
      by_cases h : x < y <;> simp [h]; omega
    rw [e2]
    by_cases h3 : x < y
    · rw [if_pos h3, if_neg (by omega)]; omega
    · rw [if_neg h3, if_pos (by omega)]; omega
theorem gt_perm {x : Int} {l m : List Int} (h : l.Perm m) : gt x l = gt x m := (h.filter _).length_eq
theorem inv_rev : ∀ l : List Int, l.Nodup → 2 * (inv l.reverse + inv l) + l.length = l.length * l.length
  | [], _ => rfl
  | x :: r, h => by
    have h1 := List.nodup_cons.mp h
    have ih := inv_rev r h1.2
    have g := gt_less h1.1
    rw [List.reverse_cons, inv_snoc, gt_perm (List.reverse_perm r), List.length_cons]
    show 2 * (inv r.reverse + gt x r + (less x r + inv r)) + (r.length + 1) = (r.length + 1) * (r.length + 1)
    have e : (r.length + 1) * (r.length + 1) = r.length * r.length + r.length + r.length + 1 := by rw [Nat.succ_mul, Nat.mul_succ]; omega
    rw [e]
    omega
end My
namespace My
/-- one lap of exchanges of neighbours: the row behind it, and how many there were -/
def bub : List Int → List Int × Nat
  | [] => ([], 0)
  | [x] => ([x], 0)
  | x :: y :: r => if y < x then (y :: (bub (x :: r)).1, (bub (x :: r)).2 + 1) else (x :: (bub (y :: r)).1, (bub (y :: r)).2)
  termination_by l => l.length
theorem bub_gt {x y : Int} {r : List Int} (h : y < x) : bub (x :: y :: r) = (y :: (bub (x :: r)).1, (bub (x :: r)).2 + 1) := by rw [bub, if_pos h]
theorem bub_le {x y : Int} {r : List Int} (h : ¬ y < x) : bub (x :: y :: r) = (x :: (bub (y :: r)).1, (bub (y :: r)).2) := by rw [bub, if_neg h]
theorem bub_one {x : Int} : bub [x] = ([x], 0) := by rw [bub]
theorem bub_perm : ∀ (r : List Int) (x : Int), (bub (x :: r)).1.Perm (x :: r)
  | [], x => by rw [bub_one]
  | y :: r, x => by
    by_cases h : y < x
    · rw [bub_gt h]
      exact ((bub_perm r x).cons y).trans (List.Perm.swap x y r)
    · rw [bub_le h]
      exact (bub_perm r y).cons x
theorem bub_inv : ∀ (r : List Int) (x : Int), (bub (x :: r)).2 + inv (bub (x :: r)).1 = inv (x :: r)
  | [], x => by rw [bub_one]; simp
  | y :: r, x => by
    by_cases h : y < x
    · rw [bub_gt h]
      have ih := bub_inv r x
      show (bub (x :: r)).2 + 1 + (less y (bub (x :: r)).1 + inv (bub (x :: r)).1) = less x (y :: r) + (less y r + inv r)
      rw [less_perm (bub_perm r x), less_cons, less_cons, if_pos h, if_neg (by omega)]
      have e : inv (x :: r) = less x r + inv r := rfl
      omega
    · rw [bub_le h]
      have ih := bub_inv r y
      show (bub (y :: r)).2 + (less x (bub (y :: r)).1 + inv (bub (y :: r)).1) = less x (y :: r) + (less y r + inv r)
      rw [less_perm (bub_perm r y)]
      have e : inv (y :: r) = less y r + inv r := rfl
      omega
theorem bub_last : ∀ (r : List Int) (x : Int), ∃ l m, (bub (x :: r)).1 = l ++ [m] ∧ ∀ z ∈ l, z ≤ m
  | [], x => ⟨[], x, by rw [bub_one]; rfl, by simp⟩
  | y :: r, x => by
    by_cases h : y < x
    · obtain ⟨l, m, e, hm⟩ := bub_last r x
      have hx : x ≤ m := by
        have : x ∈ l ++ [m] := e ▸ (bub_perm r x).mem_iff.mpr (by simp)
        rcases List.mem_append.mp this with q | q
        · exact hm x q
        · rw [List.mem_singleton.mp q]; exact Int.le_refl _
      refine ⟨y :: l, m, by rw [bub_gt h, e]; rfl, fun z hz => ?_⟩
      rcases List.mem_cons.mp hz with q | q
      · omega
      · exact hm z q
    · obtain ⟨l, m, e, hm⟩ := bub_last r y
      have hx : y ≤ m := by
        have : y ∈ l ++ [m] := e ▸ (bub_perm r y).mem_iff.mpr (by simp)
        rcases List.mem_append.mp this with q | q
        · exact hm y q
        · rw [List.mem_singleton.mp q]; exact Int.le_refl _
      refine ⟨x :: l, m, by rw [bub_le h, e]; rfl, fun z hz => ?_⟩
      rcases List.mem_cons.mp hz with q | q
      · omega
      · exact hm z q
theorem bub_sorted : ∀ (s : List Int), s.Pairwise (· ≤ ·) → (bub s).1 = s
  | [], _ => by rw [bub]
  | [x], _ => by rw [bub]
  | x :: y :: r, h => by
    have h1 := List.pairwise_cons.mp h
    rw [bub_le (by have := h1.1 y (by simp); omega), bub_sorted (y :: r) h1.2]
theorem bub_tail : ∀ (r : List Int) (x : Int) (s : List Int), s.Pairwise (· ≤ ·) → (∀ z ∈ x :: r, ∀ t ∈ s, z ≤ t) → (bub (x :: r ++ s)).1 = (bub (x :: r)).1 ++ s
  | [], x, s, hs, h => by
    rw [bub_one]
    exact bub_sorted (x :: s) (List.pairwise_cons.mpr ⟨fun t ht => h x (by simp) t ht, hs⟩)
  | y :: r, x, s, hs, h => by
    by_cases q : y < x
    · rw [bub_gt q]
      show (bub (x :: y :: (r ++ s))).1 = _
      rw [bub_gt q]
      show y :: (bub (x :: r ++ s)).1 = _
      rw [bub_tail r x s hs fun z hz => h z (by rcases List.mem_cons.mp hz with e | e <;> simp [e])]
      rfl
    · rw [bub_le q]
      show (bub (x :: y :: (r ++ s))).1 = _
      rw [bub_le q]
      show x :: (bub (y :: r ++ s)).1 = _
      rw [bub_tail r y s hs fun z hz => h z (List.mem_cons_of_mem _ hz)]
      rfl
def laps : Nat → List Int → List Int
  | 0, l => l
  | k + 1, l => laps k (bub l).1
theorem laps_sorted : ∀ (k : Nat) (l s : List Int), l.length ≤ k → s.Pairwise (· ≤ ·) → (∀ z ∈ l, ∀ t ∈ s, z ≤ t) → (laps k (l ++ s)).Pairwise (· ≤ ·)
  | 0, l, s, hl, hs, _ => by
    have : l = [] := List.length_eq_zero_iff.mp (by omega)
    subst this
    exact hs
  | k + 1, [], s, _, hs, h => by
    rw [laps, show ([] ++ s : List Int) = s from rfl, bub_sorted s hs]
    exact laps_sorted k [] s (by simp) hs (by simp)
  | k + 1, x :: r, s, hl, hs, h => by
    rw [laps, bub_tail r x s hs h]
    obtain ⟨l', m, e, hm⟩ := bub_last r x
    have hp := bub_perm r x
    rw [e] at hp ⊢
    have hlen := hp.length_eq
    rw [List.append_assoc]
    refine laps_sorted k l' ([m] ++ s) (by simp at hlen hl; omega) ?_ fun z hz t ht => ?_
    · exact List.pairwise_cons.mpr ⟨fun t ht => h m (hp.mem_iff.mp (by simp)) t ht, hs⟩
    · rcases List.mem_append.mp ht with q | q
      · rw [List.mem_singleton.mp q]; exact hm z hz
      · exact h z (hp.mem_iff.mp (List.mem_append_left _ hz)) t q
theorem laps_succ : ∀ (k : Nat) (l : List Int), laps (k + 1) l = (bub (laps k l)).1
  | 0, l => rfl
  | k + 1, l => by rw [laps, laps_succ k]; rfl
theorem laps_end (l : List Int) : inv (laps l.length l) = 0 := inv_sorted _ (by
  have := laps_sorted l.length l [] (Nat.le_refl _) List.Pairwise.nil (by simp)
  simpa using this)
theorem laps_perm (l : List Int) : ∀ k, (laps k l).Perm l
  | 0 => List.Perm.refl _
  | k + 1 => by
    rw [laps_succ]
    refine List.Perm.trans ?_ (laps_perm l k)
    cases laps k l with
    | nil => rw [bub]
    | cons x r => exact bub_perm r x
theorem laps_len (l : List Int) (k : Nat) : (laps k l).length = l.length := (laps_perm l k).length_eq
end My
namespace L04
open PySem PySem.Spec PyProof.Rows L2 Xk
def topS (i : Nat) : Stmt := PySem.Challenge.pw_sortstretches_k04_inversions_counted.main.body.getD i (.Pass ⟨0, 0, 0, 0⟩)
abbrev s_inversions : Stmt := topS 1
theorem sc_inversions : FnScope ["row", "many", "place", "value", "later"] ["row"] (defScope s_inversions) := ⟨rfl, rfl, rfl, by decide +kernel, rfl, by decide +kernel, by decide +kernel⟩
abbrev s_law_rng : Stmt := topS 3
theorem sc_law_rng : FnScope ["script", "digits", "seed", "cell", "far"] ["script"] (defScope s_law_rng) := ⟨rfl, rfl, rfl, by decide +kernel, rfl, by decide +kernel, by decide +kernel⟩
abbrev s_law_draw : Stmt := topS 4
theorem sc_law_draw : FnScope ["rng", "limit", "found", "mixed"] ["rng", "limit"] (defScope s_law_draw) := ⟨rfl, rfl, rfl, by decide +kernel, rfl, by decide +kernel, by decide +kernel⟩
abbrev s_law_arranged : Stmt := topS 5
theorem sc_law_arranged : FnScope ["rng", "wide", "left", "found"] ["rng", "wide"] (defScope s_law_arranged) := ⟨rfl, rfl, rfl, by decide +kernel, rfl, by decide +kernel, by decide +kernel⟩
abbrev s_law_values : Stmt := topS 6
theorem sc_law_values : FnScope ["rng", "wide", "way", "low", "many", "found", "place"] ["rng", "wide"] (defScope s_law_values) := ⟨rfl, rfl, rfl, by decide +kernel, rfl, by decide +kernel, by decide +kernel⟩
abbrev s_law_exchanges : Stmt := topS 7
theorem sc_law_exchanges : FnScope ["line", "found", "many", "lap", "spot", "early", "late"] ["line"] (defScope s_law_exchanges) := ⟨rfl, rfl, rfl, by decide +kernel, rfl, by decide +kernel, by decide +kernel⟩
abbrev s_law_right : Stmt := topS 8
theorem sc_law_right : FnScope ["line", "kept", "due"] ["line"] (defScope s_law_right) := ⟨rfl, rfl, rfl, by decide +kernel, rfl, by decide +kernel, by decide +kernel⟩
abbrev s_law : Stmt := topS 9
theorem sc_law : FnScope ["script", "rng", "lap", "wide", "line", "other", "greater", "down", "spot", "value", "rival"] ["script"] (defScope s_law) := ⟨rfl, rfl, rfl, by decide +kernel, rfl, by decide +kernel, by decide +kernel⟩
structure Txt (K : PySem.W.Frag) (mg : Str → Option Value) where
  inversions_a : Addr
  inversions_d : FuncData
  inversions_F : Fun K "inversions" "inversions" s_inversions inversions_a inversions_d
  inversions_b : Binds K inversions_d ["row"] []
  inversions_g : mg "inversions" = some (.ref inversions_a)
  law_rng_a : Addr
  law_rng_d : FuncData
  law_rng_F : Fun K "_law_rng" "_law_rng" s_law_rng law_rng_a law_rng_d
  law_rng_b : Binds K law_rng_d ["script"] []
  law_rng_g : mg "_law_rng" = some (.ref law_rng_a)
  law_draw_a : Addr
  law_draw_d : FuncData
  law_draw_F : Fun K "_law_draw" "_law_draw" s_law_draw law_draw_a law_draw_d
  law_draw_b : Binds K law_draw_d ["rng", "limit"] []
  law_draw_g : mg "_law_draw" = some (.ref law_draw_a)
  law_arranged_a : Addr
  law_arranged_d : FuncData
  law_arranged_F : Fun K "_law_arranged" "_law_arranged" s_law_arranged law_arranged_a law_arranged_d
  law_arranged_b : Binds K law_arranged_d ["rng", "wide"] []
  law_arranged_g : mg "_law_arranged" = some (.ref law_arranged_a)
  law_values_a : Addr
  law_values_d : FuncData
  law_values_F : Fun K "_law_values" "_law_values" s_law_values law_values_a law_values_d
  law_values_b : Binds K law_values_d ["rng", "wide"] []
  law_values_g : mg "_law_values" = some (.ref law_values_a)
  law_exchanges_a : Addr
  law_exchanges_d : FuncData
  law_exchanges_F : Fun K "_law_exchanges" "_law_exchanges" s_law_exchanges law_exchanges_a law_exchanges_d
  law_exchanges_b : Binds K law_exchanges_d ["line"] []
  law_exchanges_g : mg "_law_exchanges" = some (.ref law_exchanges_a)
  law_right_a : Addr
  law_right_d : FuncData
  law_right_F : Fun K "_law_right" "_law_right" s_law_right law_right_a law_right_d
  law_right_b : Binds K law_right_d ["line"] []
  law_right_g : mg "_law_right" = some (.ref law_right_a)
  law_a : Addr
  law_d : FuncData
  law_F : Fun K "law" "law" s_law law_a law_d
  law_b : Binds K law_d ["script"] []
  law_g : mg "law" = some (.ref law_a)
  k_inversions_row : KBinds K inversions_d ["row"] ["row"] (fun (us ws : List Value) => match us, ws with | [], [w0] => [w0] | _, _ => []) (fun (us ws : List V) => match us, ws with | [], [w0] => [w0] | _, _ => [])
  m_abs : mg "abs" = none
  m_enumerate : mg "enumerate" = none
  m_len : mg "len" = none
  m_list : mg "list" = none
  m_min : mg "min" = none
  m_range : mg "range" = none
  m_repr : mg "repr" = none
  m_sorted : mg "sorted" = none
  m_sum : mg "sum" = none
section
variable {P : Program} {w : World} {K : PySem.W.Frag} {mg : Str → Option Value} {base : Heap}
def asc (n : Nat) : List Int := (List.range n).map fun (i : Nat) => (1 + i : Int)
theorem asc_length (n : Nat) : (asc n).length = n := by simp [asc]
theorem asc_nodup (n : Nat) : (asc n).Nodup := by
  unfold asc
  rw [List.Nodup, List.pairwise_map]
  exact List.nodup_range.imp fun h q => h (by omega)
theorem rg_asc (n : Nat) : rgV 1 (n + 1) = (asc n).map V.int := by
  unfold rgV asc
  rw [show ((n : Int) + 1 - 1).toNat = n by omega, List.map_map]
  rfl
theorem asc_small {n : Nat} (hn : n ≤ 1000) {i : Int} (h : i ∈ asc n) : i.natAbs ≤ 10 ^ 30 := by
  unfold asc at h
  obtain ⟨k, hk, rfl⟩ := List.mem_map.mp h
  have := List.mem_range.mp hk
  have : (1 + (k : Int)).natAbs ≤ 1000 := by omega
  exact Nat.le_trans this (by decide)
def Rng (H : Hp) (r : Addr) (m : Nat) : Prop := ∃ a b c : Int, H r = some (.lst [.int a, .int b, .int c]) ∧ 0 ≤ a ∧ 0 ≤ b ∧ b < 2 ^ 61 ∧ 0 ≤ c ∧ c ≤ m
theorem grow {d : Int} {i : Nat} (hd : 0 ≤ d) (hb : d.natAbs < 2 ^ (200 * i + 200)) (f : Int) : (d * 10 ^ Int.toNat 60 + f % 10 ^ Int.toNat 60).natAbs < 2 ^ (200 * (i + 1) + 200) := by
  have h1 := Int.emod_nonneg f (show (10 : Int) ^ Int.toNat 60 ≠ 0 by decide)
  have h2 := Int.emod_lt_of_pos f (show (0 : Int) < 10 ^ Int.toNat 60 by decide)
  have h3 : (d + 1) * 10 ^ Int.toNat 60 ≤ (2 ^ (200 * i + 200) : Nat) * (10 ^ Int.toNat 60 : Int) := Int.mul_le_mul_of_nonneg_right (by omega) (by decide)
  have h4 : ((2 ^ (200 * i + 200) : Nat) : Int) * (10 ^ Int.toNat 60 : Int) < ((2 ^ (200 * i + 200) : Nat) : Int) * ((2 ^ 200 : Nat) : Int) := Int.mul_lt_mul_of_pos_left (by decide) (by have := Nat.two_pow_pos (200 * i + 200); omega)
  have h5 : (2 ^ (200 * (i + 1) + 200) : Nat) = 2 ^ (200 * i + 200) * 2 ^ 200 := by rw [← Nat.pow_add]; congr 1
  have h6 := Int.mul_nonneg hd (show (0 : Int) ≤ 10 ^ Int.toNat 60 by decide)
  rw [Int.add_mul, Int.one_mul] at h3
  have h7 : ((2 ^ (200 * i + 200) * 2 ^ 200 : Nat) : Int) = ((2 ^ (200 * i + 200) : Nat) : Int) * ((2 ^ 200 : Nat) : Int) := by rw [Int.natCast_mul]
  rw [h5]
  generalize ((2 ^ (200 * i + 200) : Nat) : Int) * ((2 ^ 200 : Nat) : Int) = B at *
  generalize d * 10 ^ Int.toNat 60 = A at *
  omega
theorem Rng.same {H H' : Hp} {r : Addr} {m : Nat} (h : Rng H r m) (s : Same H H') : Rng H' r m := by
  obtain ⟨a, b, c, h1, h2⟩ := h
  exact ⟨a, b, c, s _ _ h1, h2⟩
theorem Rng.le {H : Hp} {r : Addr} {m n : Nat} (h : Rng H r m) (e : m ≤ n) : Rng H r n := by
  obtain ⟨a, b, c, h1, h2, h3, h4, h5, h6⟩ := h
  exact ⟨a, b, c, h1, h2, h3, h4, h5, by omega⟩
theorem Rng.ne {H : Hp} {r p : Addr} {m : Nat} (h : Rng H r m) (n : H p = none) : p ≠ r := by
  obtain ⟨a, b, c, h1, h2⟩ := h
  exact (ne_of_none h1 n).symm
theorem Rng.free {H H' : Hp} {r p : Addr} {m : Nat} (h : Rng H' r m) (s : Sx r H H') (n : H' p = none) : H p = none := by
  obtain ⟨a, b, c, h1, h2⟩ := h
  exact s.free h1 n
theorem Rng.other {H : Hp} {r p : Addr} {m : Nat} {o : HO} (h : Rng H r m) (n : p ≠ r) : Rng (upd H p o) r m := by
  obtain ⟨a, b, c, h1, h2⟩ := h
  exact ⟨a, b, c, upd_to n.symm h1, h2⟩
open My
open My
def sp_inversions (K : PySem.W.Frag) : Sp := fun vs H Q _ => ∃ (a : Addr) (ns : List Int), vs = [.ref a] ∧ SqL K H a (ns.map V.int) ∧ ns.length ≤ 100000 ∧ ∀ H', Same H H' → Q (.int (inv ns : Nat)) H'
theorem ok_inversions (T : Txt K mg) : FnG P w K mg base CX0 1 T.inversions_a T.inversions_d ["row"] (sp_inversions K) := by
  refine okG T.inversions_F sc_inversions (fun vs H Q E h => ?_) (fun cdv A ou t H vs Q E hG hr h => ?_)
  · obtain ⟨_, _, rfl, _⟩ := h; rfl
  have nd := sc_inversions.nd
  obtain ⟨a, ns, rfl, hS, hlen, q⟩ := h
  refine ⟨_, (pss_cons (sset 1 nd pe_int)
      (pss_cons (ps_for PassesOwn.never rfl (pi_enumK K (by rfl) T.m_enumerate (pa_cons (pv 0) pa_nil)) (pg_tupK K 2 rfl (pgs_cons (gset 2 nd) (pgs_cons (gset 3 nd) pgs_nil)))
        (pss_one (saug 1 nd (pe_callB (lenK K) (by rfl) T.m_len PySem.boot_len (pa_cons (pe_lc (own := [("later", 4)]) (hc := rfl) (hN := nd) (hi := (pi_listK K (pe_slice (sl_listK K) (pv 0) (po_some (pe_op op_add (pv 2) pe_int)) po_none))) (ok := blkOk_by (by rfl)) (hg := fun _ _ _ _ _ => (gset 4 nd)) (ht := (fun _ _ _ _ _ => pts_one (pt_cmpR op_lt (pv 4) (pv 3) (nomark _)))) (he := fun _ _ _ _ _ => (pv 4))) pa_nil)) ip_add)))
      (pss_one (ps_ret (pv 1))))), ?_⟩
  walk_at "g"
  refine forEI (walk_enum (xs := ns.map V.int)) (fun i σ' H' => ∃ y2 y3 y4, σ' = [some (.ref a), some (.int (invU ns i : Nat)), y2, y3, y4] ∧ Same H H') ⟨none, none, none, rfl, Same.refl H⟩ (fun i σ' H' _ p => ?_) (fun i σ' H' T1 hi p nT => ?_) (fun σ' H' p => ?_)
  · obtain ⟨_, _, _, _, s⟩ := p; exact s.seq hS
  · obtain ⟨y2, y3, y4, rfl, s⟩ := p
    have s1 := s.trans (same_new (o := .tup [.int (i : Nat), .int ns[i]]) nT)
    have hS1 := s1.seq hS
    walk_at "g"
    intro n nn
    rw [cut_from (a := i + 1) (by omega), map_drop']
    walk_at "g"
    intro D nD
    have s2 := s1.trans (same_new (o := .lst ((ns.drop (i + 1)).map V.int)) nn)
    refine lc_sameAI (walk_list (xs := (ns.drop (i + 1)).map V.int)) (fun j => (((ns.drop (i + 1)).take j).filter (fun y => decide (y < ns[i]))).map V.int) nD (Same.refl _) rfl (fun H s => s.seq (sq upd_same)) (fun j H hj p => ?_) (fun H p hH => ?_)
    · walk_at "g"
      refine ⟨rfl, ?_⟩
      walk_at "g"
      refine r_dec (fun h => ?_) (fun h => ?_)
      · walk_at "g"
        exact lc_add p (Same.refl _) nD (acc_filtT hj (decide_eq_true h)) (filt_len (by rw [List.length_drop]; omega))
      · exact lc_skip p (Same.refl _) (acc_filtF hj (decide_eq_false h))
    · walk_at "g"
      rw [show ((invU ns i : Nat) : Int) + _ = ((invU ns (i + 1) : Nat) : Int) by
        rw [List.take_of_length_le (Nat.le_refl _), List.length_map, invU, show ns.getD i 0 = ns[i] by simp [List.getD, hi], less]
        omega]
      exact ⟨_, _, _, rfl, s2.trans p⟩
  · obtain ⟨y2, y3, y4, rfl, s⟩ := p
    walk_at "g"
    rw [List.length_map, invU_all]
    exact q _ s
def sp_law_rng (K : PySem.W.Frag) : Sp := fun vs H Q _ => ∃ (a : Addr) (ns : List Int), vs = [.ref a] ∧ SqL K H a (ns.map V.int) ∧ ns.length ≤ 63 ∧ ∀ H' r, Same H H' → H r = none → Rng H' r 0 → Q (.ref r) H'
theorem ok_law_rng (T : Txt K mg) : FnG P w K mg base CX0 1 T.law_rng_a T.law_rng_d ["script"] (sp_law_rng K) := by
  refine okG T.law_rng_F sc_law_rng (fun vs H Q E h => ?_) (fun cdv A ou t H vs Q E hG hr h => ?_)
  · obtain ⟨_, _, rfl, _⟩ := h; rfl
  have nd := sc_law_rng.nd
  obtain ⟨a, ns, rfl, hS, hlen, q⟩ := h
  refine ⟨_, (pss_cons (ps_asg (pe_tup (pa_cons pe_int (pa_cons pe_int pa_nil))) (pg_tupK K 2 rfl (pgs_cons (gset 1 nd) (pgs_cons (gset 2 nd) pgs_nil))))
      (pss_cons (ps_for PassesOwn.never rfl (pi_listK K (pe_slice (sl_listK K) (pv 0) po_none (po_some pe_int))) (gset 3 nd)
        (pss_cons (sset 4 nd (pe_callB call_abs (by rfl) T.m_abs (by decide +kernel) (pa_cons (pv 3) pa_nil)))
      (pss_cons (ps_if (pt_cmpR op_ge (pv 4) (pe_op op_powW pe_int pe_int) (nomark _))
        (pss_one (sset 1 nd (pe_op op_add (pe_op op_mulW (pv 1) (pe_op op_powW pe_int pe_int)) (pe_op op_mod (pv 4) (pe_op op_powW pe_int pe_int)))))
        pss_nil)
      (pss_one (sset 2 nd (pe_op op_mod (pe_op op_add (pe_op op_add (pe_op op_mulW (pv 2) pe_int) (pe_op op_mod (pv 3) pe_int)) pe_int) pe_int))))))
      (pss_one (ps_ret (pe_lst (pa_cons (pv 1) (pa_cons (pv 2) (pa_cons pe_int pa_nil)))))))), ?_⟩
  walk_at "g"
  intro T0 n0
  walk_at "g"
  have s0 := same_new (o := .tup [.int 0, .int 88675123]) n0
  have hS0 := s0.seq hS
  walk_at "g"
  intro n nn
  rw [cut_to (z := 63) (b := 63) rfl, List.take_of_length_le (by rw [List.length_map]; exact hlen)]
  walk_at "g"
  have s1 := s0.trans (same_new (o := .lst (ns.map V.int)) nn)
  refine forAI (walk_list (xs := ns.map V.int)) (fun i σ' H' => ∃ d s y3 y4, σ' = [some (.ref a), some (.int d), some (.int s), y3, y4] ∧ 0 ≤ d ∧ d.natAbs < 2 ^ (200 * i + 200) ∧ 0 ≤ s ∧ s < 2 ^ 61 ∧ H' = upd (upd H T0 (.tup [.int 0, .int 88675123])) n (.lst (ns.map V.int)))
    ⟨0, 88675123, none, none, rfl, by decide, by decide, by decide, by decide, rfl⟩ (fun i σ' H' _ p => ?_) (fun i σ' H' hi p => ?_) (fun σ' H' p => ?_)
  · obtain ⟨_, _, _, _, _, _, _, _, _, rfl⟩ := p; exact sq upd_same
  · obtain ⟨d, s, y3, y4, rfl, hd, hdb, hs, hsb, rfl⟩ := p
    walk_at "g"
    have fin : ∀ d' y4', 0 ≤ d' → d'.natAbs < 2 ^ (200 * (i + 1) + 200) → ∃ d0 s0 y3 y4, [some (V.ref a), some (V.int d'), some (V.int ((s * 1000003 + ns[i] % 2305843009213693921 + 7) % 2305843009213693951)), some (V.int ns[i]), y4'] = [some (.ref a), some (.int d0), some (.int s0), y3, y4] ∧ 0 ≤ d0 ∧ d0.natAbs < 2 ^ (200 * (i + 1) + 200) ∧ 0 ≤ s0 ∧ s0 < 2 ^ 61 ∧
        upd (upd H T0 (.tup [.int 0, .int 88675123])) n (.lst (ns.map V.int)) = upd (upd H T0 (.tup [.int 0, .int 88675123])) n (.lst (ns.map V.int)) := fun d' y4' h1 h2 =>
      ⟨_, _, _, _, rfl, h1, h2, Int.emod_nonneg _ (by decide), Int.lt_trans (Int.emod_lt_of_pos _ (by decide)) (by decide), rfl⟩
    refine r_dec (fun h => ?_) (fun h => ?_)
    · walk_at "g"
      refine r_I (wide_mul (b := 200) hdb (by decide) (by omega) (by decide) (by omega)) ?_
      walk_at "g"
      refine r_I (wide_mul (a := 61) (b := 20) (by omega) (by decide) (by decide) (by decide) (by decide)) ?_
      walk_at "g"
      exact fin _ _ (by
        have := Int.emod_nonneg (if ns[i] < 0 then -ns[i] else ns[i]) (show (10 : Int) ^ Int.toNat 60 ≠ 0 by decide)
        have := Int.mul_nonneg hd (show (0 : Int) ≤ 10 ^ Int.toNat 60 by decide)
        omega) (grow hd hdb _)
    · walk_at "g"
      refine r_I (wide_mul (a := 61) (b := 20) (by omega) (by decide) (by decide) (by decide) (by decide)) ?_
      walk_at "g"
      exact fin _ _ hd (Nat.lt_of_lt_of_le hdb (Nat.pow_le_pow_right (by decide) (by omega)))
  · obtain ⟨d, s, y3, y4, rfl, hd, hdb, hs, hsb, rfl⟩ := p
    walk_at "g"
    intro r nr
    exact q _ _ (same_old s1 (s1.free nr)) (s1.free nr) ⟨d, s, 0, upd_same, hd, hs, hsb, by decide, by decide⟩
def sp_law_draw (K : PySem.W.Frag) : Sp := fun vs H Q _ => ∃ (r : Addr) (lim : Int) (m : Nat), vs = [.ref r, .int lim] ∧ Rng H r m ∧ m < 2 ^ 60 ∧ 0 < lim ∧ lim < 2 ^ 200 ∧
  ∀ H' d, 0 ≤ d → d < lim → Sx r H H' → Rng H' r (m + 1) → Q (.int d) H'
theorem ok_law_draw (T : Txt K mg) : FnG P w K mg base CX0 1 T.law_draw_a T.law_draw_d ["rng", "limit"] (sp_law_draw K) := by
  refine okG T.law_draw_F sc_law_draw (fun vs H Q E h => ?_) (fun cdv A ou t H vs Q E hG hr h => ?_)
  · obtain ⟨_, _, _, rfl, _⟩ := h; rfl
  have nd := sc_law_draw.nd
  obtain ⟨r, lim, m, rfl, ⟨a, b, c, hR, ha, hb, hb2, hc, hcm⟩, hm, hl, hl2, q⟩ := h
  refine ⟨_, (pss_cons (ps_if (pt_cmpR op_gt (pe_ix (ix_listK K) (pv 0) pe_int (fun _ _ => rfl)) pe_int (nomark _))
        (pss_cons (sset 2 nd (pe_op op_mod (pe_ix (ix_listK K) (pv 0) pe_int (fun _ _ => rfl)) (pv 1)))
      (pss_cons (ps_asg (pe_op op_fdivW (pe_ix (ix_listK K) (pv 0) pe_int (fun _ _ => rfl)) (pv 1)) (pg_sub (pv 0) pe_int set_list))
      (pss_one (ps_ret (pv 2)))))
        pss_nil)
      (pss_cons (ps_asg (pe_op op_add (pe_ix (ix_listK K) (pv 0) pe_int (fun _ _ => rfl)) pe_int) (pg_sub (pv 0) pe_int set_list))
      (pss_cons (sset 3 nd (pe_op op_mod (pe_op op_powW (pe_op op_add (pe_ix (ix_listK K) (pv 0) pe_int (fun _ _ => rfl)) (pe_op op_mulW pe_int (pe_ix (ix_listK K) (pv 0) pe_int (fun _ _ => rfl)))) pe_int) pe_int))
      (pss_cons (sset 3 nd (pe_op op_mod (pe_op op_powW (pe_op op_add (pv 3) (pe_op op_mulW pe_int (pe_ix (ix_listK K) (pv 0) pe_int (fun _ _ => rfl)))) pe_int) pe_int))
      (pss_one (ps_ret (pe_op op_mod (pe_op op_fdivW (pv 3) pe_int) (pv 1)))))))), ?_⟩
  walk_at "g"
  refine r_dec (fun h1 => ?_) (fun h1 => ?_)
  · walk_at "g"
    refine r_I (wide_div hl (b := 201) (by omega) (by decide) (by decide)) ?_
    walk_at "g"
    exact q _ _ (Int.emod_nonneg _ (by omega)) (Int.emod_lt_of_pos _ hl) Sx.put ⟨_, _, _, upd_same, Int.ediv_nonneg ha (by omega), hb, hb2, hc, by omega⟩
  · walk_at "g"
    refine r_I (wide_mul (a := 30) (b := 61) (by omega) (by omega) (by decide) (by decide) (by decide)) ?_
    walk_at "g"
    refine r_I (powW (n := 100) (by omega) (by decide) (by decide) (by decide)) ?_
    walk_at "g"
    have hx := Int.emod_lt_of_pos ((b + 998244353 * (c + 1)) ^ Int.toNat 3) (show (0 : Int) < 162259276829213363391578010288127 by decide)
    have hx0 := Int.emod_nonneg ((b + 998244353 * (c + 1)) ^ Int.toNat 3) (show (162259276829213363391578010288127 : Int) ≠ 0 by decide)
    generalize (b + 998244353 * (c + 1)) ^ Int.toNat 3 % 162259276829213363391578010288127 = x at hx hx0 ⊢
    refine r_I (wide_mul (a := 30) (b := 61) (by omega) (by omega) (by decide) (by decide) (by decide)) ?_
    walk_at "g"
    refine r_I (powW (n := 120) (by omega) (by decide) (by decide) (by decide)) ?_
    walk_at "g"
    refine r_I ⟨by decide, by decide +kernel⟩ ?_
    walk_at "g"
    exact q _ _ (Int.emod_nonneg _ (by omega)) (Int.emod_lt_of_pos _ hl) Sx.put ⟨_, _, _, upd_same, ha, hb, hb2, by omega, by omega⟩
def sp_law_exchanges (K : PySem.W.Frag) : Sp := fun vs H Q _ => ∃ (a : Addr) (ns : List Int), vs = [.ref a] ∧ SqL K H a (ns.map V.int) ∧ 0 < ns.length ∧ ns.length ≤ 100000 ∧ ∀ H', Same H H' → Q (.int (inv ns : Nat)) H'
theorem ok_law_exchanges (T : Txt K mg) : FnG P w K mg base CX0 1 T.law_exchanges_a T.law_exchanges_d ["line"] (sp_law_exchanges K) := by
  refine okG T.law_exchanges_F sc_law_exchanges (fun vs H Q E h => ?_) (fun cdv A ou t H vs Q E hG hr h => ?_)
  · obtain ⟨_, _, rfl, _⟩ := h; rfl
  have nd := sc_law_exchanges.nd
  obtain ⟨a, ns, rfl, hS, hpos, hlen, q⟩ := h
  refine ⟨_, (pss_cons (ps_par (i := 1) (j := 2) (by rfl) nd rfl rfl (by decide) rfl rfl (pa_cons (pe_callTy (listK K) (by rfl) T.m_list (by decide +kernel) (pa_cons (pv 0) pa_nil)) (pa_cons pe_int pa_nil)) (by rfl))
      (pss_cons (ps_for PassesOwn.never rfl (pi_range1 (by rfl) T.m_range (pa_cons (pe_callB (lenK K) (by rfl) T.m_len PySem.boot_len (pa_cons (pv 1) pa_nil)) pa_nil)) (gset 3 nd)
        (pss_one (ps_for PassesOwn.never rfl (pi_range1 (by rfl) T.m_range (pa_cons (pe_op op_sub (pe_callB (lenK K) (by rfl) T.m_len PySem.boot_len (pa_cons (pv 1) pa_nil)) pe_int) pa_nil)) (gset 4 nd)
        (pss_one (ps_if (pt_cmpR op_gt (pe_ix (ix_listK K) (pv 1) (pv 4) (fun _ _ => rfl)) (pe_ix (ix_listK K) (pv 1) (pe_op op_add (pv 4) pe_int) (fun _ _ => rfl)) (nomark _))
        (pss_cons (ps_par (i := 5) (j := 6) (by rfl) nd rfl rfl (by decide) rfl rfl (pa_cons (pe_ix (ix_listK K) (pv 1) (pv 4) (fun _ _ => rfl)) (pa_cons (pe_ix (ix_listK K) (pv 1) (pe_op op_add (pv 4) pe_int) (fun _ _ => rfl)) pa_nil)) (by rfl))
      (pss_cons (ps_asg (pe_tup (pa_cons (pv 6) (pa_cons (pv 5) pa_nil))) (pg_tupK K 2 rfl (pgs_cons (pg_sub (pv 1) (pv 4) set_list) (pgs_cons (pg_sub (pv 1) (pe_op op_add (pv 4) pe_int) set_list) pgs_nil))))
      (pss_one (sset 2 nd (pe_op op_add (pv 2) pe_int)))))
        pss_nil)))))
      (pss_one (ps_ret (pv 2))))), ?_⟩
  walk_at "g"
  intro l0 nl
  walk_at "g"
  have hm0 : (upd H l0 (.lst (ns.map V.int))) l0 = some (.lst (ns.map V.int)) := upd_same
  have s0 := same_new (o := .lst (ns.map V.int)) nl
  refine ⟨by rw [List.length_map]; omega, by rw [List.length_map]; omega, ?_⟩
  refine forF walk_range (fun k σ' H' => ∃ (c : Nat) (y3 y4 y5 y6 : Option V), σ' = [some (.ref a), some (.ref l0), some (.int (c : Int)), y3, y4, y5, y6] ∧ c + inv (laps k ns) = inv ns ∧ H' l0 = some (.lst ((laps k ns).map V.int)) ∧ Same H H')
    ⟨0, none, none, none, none, rfl, by rw [Nat.zero_add]; rfl, upd_same, s0⟩ (fun _ _ _ _ _ => trivial) (fun k σ' H' hk p => ?_) (fun σ' H' p => ?_)
  · obtain ⟨c, y3, y4, y5, y6, rfl, hc, hl, s1⟩ := p
    have hlen2 := laps_len ns k
    walk_at "g"
    refine ⟨by rw [List.length_map]; omega, by rw [List.length_map]; omega, ?_⟩
    obtain ⟨x0, r0, e0⟩ : ∃ x r, laps k ns = x :: r := by
      cases h : laps k ns with
      | nil => rw [h] at hlen2; simp at hlen2; omega
      | cons x r => exact ⟨x, r, rfl⟩
    refine forF walk_range (fun j σ' H' => ∃ (c' : Nat) (d : List Int) (x : Int) (r : List Int) (y3 y4 y5 y6 : Option V), σ' = [some (.ref a), some (.ref l0), some (.int (c' : Int)), y3, y4, y5, y6] ∧ d.length = j ∧ d.length + 1 + r.length = ns.length ∧
        H' l0 = some (.lst ((d ++ x :: r).map V.int)) ∧ c' + (bub (x :: r)).2 = c + (bub (x0 :: r0)).2 ∧ d ++ (bub (x :: r)).1 = (bub (x0 :: r0)).1 ∧ Same H H')
      ?_ (fun _ _ _ _ _ => trivial) (fun j σ' H2 hj p => ?_) (fun σ' H2 p => ?_)
    · rw [e0] at hl hlen2
      exact ⟨c, [], x0, r0, _, _, _, _, rfl, rfl, by simp at hlen2; simp; omega, hl, rfl, rfl, s1⟩
    · obtain ⟨c', d, x, r, y3, y4, y5, y6, rfl, hd, hdr, hl2, hcc, hbb, s2⟩ := p
      obtain ⟨y, r', rfl⟩ : ∃ y r', r = y :: r' := by
        cases r with
        | nil => rw [List.length_map] at hj; simp at hdr; omega
        | cons y r' => exact ⟨y, r', rfl⟩
      walk_at "g"
      have g1 : atI ((d ++ x :: y :: r').map V.int) (0 + (j : Int)) = some (.int x) := at_of (j := j) (by omega) (by simp [← hd])
      have g2 : atI ((d ++ x :: y :: r').map V.int) (0 + (j : Int) + 1) = some (.int y) := at_of (j := j + 1) (by omega) (by simp [← hd])
      refine r_ixL (sq hl2) g1 ?_
      walk_at "g"
      refine r_ixL (sq hl2) g2 ?_
      walk_at "g"
      refine r_dec (fun h => ?_) (fun h => ?_)
      · walk_at "g"
        refine r_ixL (sq hl2) g1 ?_
        walk_at "g"
        refine r_ixL (sq hl2) g2 ?_
        walk_at "g"
        intro T1 nT
        walk_at "g"
        have hl3 := upd_old (o := .tup [.int y, .int x]) nT hl2
        have s3 := s2.trans (same_new (o := .tup [.int y, .int x]) nT)
        refine r_setL hl3 (n := j) (ix_of (by omega) (by simp [← hd])) ?_
        walk_at "g"
        refine r_setL upd_same (n := j + 1) (ix_of (by omega) (by simp [← hd])) ?_
        walk_at "g"
        have es : ((((d ++ x :: y :: r').map V.int).set j (.int y)).set (j + 1) (.int x)) = ((d ++ [y]) ++ x :: r').map V.int := by
          rw [← hd]; simp
        rw [es]
        refine ⟨c' + 1, d ++ [y], x, r', _, _, _, _, rfl, by simp [hd], by simp at hdr ⊢; omega, upd_same, ?_, ?_, same_old (same_old s3 nl) nl⟩
        · rw [bub_gt h] at hcc; omega
        · rw [bub_gt h] at hbb; rw [List.append_assoc]; exact hbb
      · walk_at "g"
        refine ⟨c', d ++ [x], y, r', _, _, _, _, rfl, by simp [hd], by simp at hdr ⊢; omega, by rw [List.append_assoc]; exact hl2, ?_, ?_, s2⟩
        · rw [bub_le h] at hcc; exact hcc
        · rw [bub_le h] at hbb; rw [List.append_assoc]; exact hbb
    · obtain ⟨c', d, x, r, y3, y4, y5, y6, rfl, hd, hdr, hl2, hcc, hbb, s2⟩ := p
      rw [List.length_map] at hd
      have : r = [] := List.length_eq_zero_iff.mp (by omega)
      subst this
      rw [bub_one] at hcc hbb
      have hb := bub_inv r0 x0
      refine ⟨c', _, _, _, _, rfl, ?_, ?_, s2⟩
      · rw [laps_succ, e0]; rw [e0] at hc; simp at hcc; omega
      · rw [laps_succ, e0, ← hbb]; exact hl2
  · obtain ⟨c, y3, y4, y5, y6, rfl, hc, hl, s1⟩ := p
    walk_at "g"
    rw [show (List.map V.int ns).length = ns.length from List.length_map _] at hc
    rw [show Int.toNat ((ns.length : Nat) : Int) = ns.length by omega, laps_end] at hc
    rw [show c = inv ns by omega]
    exact q _ s1
def sp_law_arranged (K : PySem.W.Frag) : Sp := fun vs H Q _ => ∃ (r : Addr) (wide m : Nat), vs = [.ref r, .int wide] ∧ Rng H r m ∧ wide ≤ 1000 ∧ m < 2 ^ 50 ∧
  ∀ (H' : Hp) (p : Addr) (l : List Int), Sx r H H' → H p = none → Rng H' r (m + wide) → H' p = some (.lst (l.map V.int)) → l.Perm (asc wide) → Q (.ref p) H'
theorem ok_law_arranged (T : Txt K mg) : FnG P w K mg base CX0 2 T.law_arranged_a T.law_arranged_d ["rng", "wide"] (sp_law_arranged K) := by
  refine okG T.law_arranged_F sc_law_arranged (fun vs H Q E h => ?_) (fun cdv A ou t H vs Q E hG hr h => ?_)
  · obtain ⟨_, _, _, rfl, _⟩ := h; rfl
  have nd := sc_law_arranged.nd
  obtain ⟨r, wide, m, rfl, hR, hw, hm, q⟩ := h
  refine ⟨_, (pss_cons (ps_par (i := 2) (j := 3) (by rfl) nd rfl rfl (by decide) rfl rfl (pa_cons (pe_listRg rfl (by rfl) T.m_list (prg_2 (by rfl) T.m_range pe_int (pe_op op_add (pv 1) pe_int))) (pa_cons (pe_lst pa_nil) pa_nil)) (by rfl))
      (pss_cons (ps_while PassesOwn.never (pt_cmpR (neDK K hr.units) (pv 2) (pe_lst pa_nil) (nomark _))
        (pss_one (ps_expr (pe_bmK K PySem.F.plainAttrs_list PySem.F.slot_list_append PySem.F.type_list_append mt_append (pv 3) (pa_cons (pe_bmK K PySem.F.plainAttrs_list PySem.F.slot_list_pop PySem.F.type_list_pop mt_popAt (pv 2) (pa_cons (pe_callG (ok_law_draw T) hG (hr.mono (by decide)) (by rfl) T.law_draw_g T.law_draw_F.kp T.law_draw_b .nil pass0 (pa_cons (pv 0) (pa_cons (pe_callB (lenK K) (by rfl) T.m_len PySem.boot_len (pa_cons (pv 2) pa_nil)) pa_nil))) pa_nil)) pa_nil)))))
      (pss_one (ps_ret (pv 3))))), ?_⟩
  walk_at "g"
  refine ⟨RgOk.of_le (by omega) (by omega) (by omega) (by omega), fun l0 nl => ?_⟩
  walk_at "g"
  intro f0 nf
  walk_at "g"
  rw [rg_asc] at nf ⊢
  have hlr : l0 ≠ r := hR.ne nl
  have s1 := Sx.new (r := r) (o := .lst ((asc wide).map V.int)) nl
  have hR1 := hR.same (same_new (o := .lst ((asc wide).map V.int)) nl)
  have hfr : f0 ≠ r := hR1.ne nf
  have hfl : f0 ≠ l0 := (ne_of_none upd_same nf).symm
  have hf0 : H f0 = none := hR1.free s1 nf
  have s2 := s1.old (o := .lst []) hf0
  have hR2 := hR1.same (same_new (o := .lst []) nf)
  refine r_while (fun k σ' H' => ∃ l1 l2 : List Int, σ' = [some (.ref r), some (.int wide), some (.ref l0), some (.ref f0)] ∧ k = l1.length ∧ l1.length + l2.length = wide ∧ (l1 ++ l2).Perm (asc wide) ∧
    H' l0 = some (.lst (l1.map V.int)) ∧ H' f0 = some (.lst (l2.map V.int)) ∧ Sx r H H' ∧ Rng H' r (m + l2.length)) wide ?_ (fun k σ' H' p => ?_)
  · exact ⟨asc wide, [], rfl, (asc_length _).symm, by rw [asc_length]; rfl, by rw [List.append_nil], upd_old nf upd_same, upd_same, s2, hR2⟩
  · obtain ⟨l1, l2, rfl, rfl, hlen, hperm, h1, h2, s3, hR3⟩ := p
    walk_at "g"
    intro e0 ne
    have h1' : (upd H' e0 (.lst [])) l0 = some (.lst (l1.map V.int)) := upd_old ne h1
    have h2' : (upd H' e0 (.lst [])) f0 = some (.lst (l2.map V.int)) := upd_old ne h2
    have he0 : H e0 = none := hR3.free s3 ne
    have s4 := s3.old (o := .lst []) he0
    have hR4 := hR3.same (same_new (o := .lst []) ne)
    refine r_neL (ms := []) (sq h1') (sq upd_same) ?_
    walk_at "g"
    refine r_ndec (fun h => r_turn ?_) (fun h => ?_)
    · walk_at "g"
      have hpos : 0 < l1.length := List.length_pos_iff.mpr h
      refine ⟨r, _, m + l2.length, rfl, hR4, by omega, by rw [List.length_map]; omega, by rw [List.length_map]; omega, fun H5 d hd0 hd1 s5 hR5 => ?_⟩
      rw [List.length_map] at hd1
      obtain ⟨j, rfl⟩ := Int.eq_ofNat_of_zero_le hd0
      have hj : j < l1.length := by omega
      have h15 := s5 _ _ hlr h1'
      have h25 := s5 _ _ hfr h2'
      walk_at "g"
      refine r_popAt (k := j) h15 rfl (y := .int l1[j]) (by simp [hj]) (by omega) ?_
      have h26 : (upd H5 l0 (.lst ((l1.map V.int).eraseIdx j))) f0 = some (.lst (l2.map V.int)) := upd_to hfl h25
      walk_at "g"
      refine r_append h26 (by rw [List.length_map]; exact size_lt (by omega)) ?_
      rw [map_snoc]
      have h17 : (upd (upd H5 l0 (.lst ((l1.map V.int).eraseIdx j))) f0 (.lst ((l2 ++ [l1[j]]).map V.int))) l0 = some (.lst ((l1.eraseIdx j).map V.int)) := by
        rw [← erase_map]
        exact upd_to hfl.symm upd_same
      have hl : (l1.eraseIdx j).length = l1.length - 1 := List.length_eraseIdx_of_lt hj
      refine ⟨(l1.eraseIdx j).length, by omega, l1.eraseIdx j, l2 ++ [l1[j]], rfl, rfl, by rw [List.length_append, hl, List.length_singleton]; omega, ?_, h17, upd_same, ((s4.trans s5).old nl).old hf0, ?_⟩
      · refine List.Perm.trans ?_ hperm
        have e := erase_perm l1 j hj
        refine List.Perm.trans ?_ (e.append_right l2)
        rw [List.cons_append]
        refine List.Perm.trans (List.Perm.append_left _ (List.perm_append_comm)) ?_
        exact List.perm_middle
      · rw [List.length_append, List.length_singleton, ← Nat.add_assoc]
        exact (hR5.other hlr).other hfr
    · walk_at "g"
      have e : l1 = [] := h
      subst e
      exact q _ _ _ s4 hf0 (hR4.le (by simp at hlen; omega)) h2' hperm
def sp_law_right (K : PySem.W.Frag) : Sp := fun vs H Q _ => ∃ (a : Addr) (ns : List Int), vs = [.ref a] ∧ SqL K H a (ns.map V.int) ∧ 0 < ns.length ∧ ns.length ≤ 1000 ∧ (∀ i ∈ ns, i.natAbs ≤ 10 ^ 30) ∧ ∀ H', Same H H' → Q (.bl true) H'
theorem ok_law_right (T : Txt K mg) : FnG P w K mg base CX0 2 T.law_right_a T.law_right_d ["line"] (sp_law_right K) := by
  refine okG T.law_right_F sc_law_right (fun vs H Q E h => ?_) (fun cdv A ou t H vs Q E hG hr h => ?_)
  · obtain ⟨_, _, rfl, _⟩ := h; rfl
  have nd := sc_law_right.nd
  obtain ⟨a, ns, rfl, hS, hpos, hlen, hb, q⟩ := h
  refine ⟨_, (pss_cons (ps_par (i := 1) (j := 2) (by rfl) nd rfl rfl (by decide) rfl rfl (pa_cons (pe_callB (reprK K hG hr.units) (by rfl) T.m_repr (by decide +kernel) (pa_cons (pv 0) pa_nil)) (pa_cons (pe_callG (ok_law_exchanges T) hG (hr.mono (by decide)) (by rfl) T.law_exchanges_g T.law_exchanges_F.kp T.law_exchanges_b .nil pass0 (pa_cons (pv 0) pa_nil)) pa_nil)) (by rfl))
      (pss_one (ps_ret (pe_and (pe_cmpR op_eq (pe_callB (reprK K hG hr.units) (by rfl) T.m_repr (by decide +kernel) (pa_cons (pe_lst (pa_cons (pe_callG (ok_inversions T) hG (hr.mono (by decide)) (by rfl) T.inversions_g T.inversions_F.kp T.inversions_b .nil pass0 (pa_cons (pv 0) pa_nil)) (pa_cons (pe_callKG0 (ok_inversions T) hG (hr.mono (by decide)) (by rfl) T.inversions_g T.inversions_F.kp T.k_inversions_row pass0 (pk_cons (pv 0) pk_nil)) pa_nil))) pa_nil)) (pe_callB (reprK K hG hr.units) (by rfl) T.m_repr (by decide +kernel) (pa_cons (pe_lst (pa_cons (pv 2) (pa_cons (pv 2) pa_nil))) pa_nil)) (nomark _)) (pe_one (pe_cmpR op_eq (pe_callB (reprK K hG hr.units) (by rfl) T.m_repr (by decide +kernel) (pa_cons (pv 0) pa_nil)) (pv 1) (nomark _))))))), ?_⟩
  walk_at "g"
  have shL : Sh (ns.length * (31 + 3) + 2) (dI ns) := Sh.ints (by decide) (by decide) fun i hi => Nat.lt_of_le_of_lt (hb i hi) (by decide)
  refine r_repr (dp_lst hS) (depth_dI ns) shL (by omega) ?_
  walk_at "g"
  refine ⟨a, ns, rfl, hS, hpos, by omega, fun H1 s1 => ?_⟩
  walk_at "g"
  have hS1 := s1.seq hS
  refine ⟨a, ns, rfl, hS1, by omega, fun H2 s2 => ?_⟩
  walk_at "g"
  have hS2 := s2.seq hS1
  refine ⟨a, ns, rfl, hS2, by omega, fun H3 s3 => ?_⟩
  walk_at "g"
  intro l0 n0
  walk_at "g"
  have hi : ((inv ns : Nat) : Int).natAbs < 10 ^ 20 := by
    have := inv_le ns
    have := Nat.mul_le_mul hlen hlen
    have : inv ns ≤ 1000000 := by omega
    rw [Int.natAbs_natCast]
    exact Nat.lt_of_le_of_lt this (by decide)
  have sh2 : Sh (2 * (20 + 3) + 2) (dI [((inv ns : Nat) : Int), ((inv ns : Nat) : Int)]) := Sh.ints (ns := [((inv ns : Nat) : Int), ((inv ns : Nat) : Int)]) (by decide) (by decide) fun i h => by
    rcases List.mem_cons.mp h with e | e
    · rw [e]; exact hi
    · rw [List.mem_singleton.mp e]; exact hi
  refine r_repr (dp_lst (ns := [((inv ns : Nat) : Int), ((inv ns : Nat) : Int)]) (sq upd_same)) (depth_dI _) sh2 (by omega) ?_
  walk_at "g"
  intro l1 n1
  walk_at "g"
  refine r_repr (dp_lst (ns := [((inv ns : Nat) : Int), ((inv ns : Nat) : Int)]) (sq upd_same)) (depth_dI _) sh2 (by omega) ?_
  walk_at "g"
  refine r_itD rfl ?_
  walk_at "g"
  have s4 := (((s1.trans s2).trans s3).trans (same_new (o := .lst [.int (inv ns : Nat), .int (inv ns : Nat)]) n0)).trans (same_new (o := .lst [.int (inv ns : Nat), .int (inv ns : Nat)]) n1)
  refine r_repr (dp_lst (s4.seq hS)) (depth_dI ns) shL (by omega) ?_
  walk_at "g"
  rw [decide_eq_true rfl]
  exact q _ s4
def sp_law_values (K : PySem.W.Frag) : Sp := fun vs H Q _ => ∃ (r : Addr) (wide m : Nat), vs = [.ref r, .int wide] ∧ Rng H r m ∧ wide ≤ 1000 ∧ m < 2 ^ 40 ∧
  ∀ (H' : Hp) (p : Addr) (l : List Int), Sx r H H' → H p = none → Rng H' r (m + wide + 1) → H' p = some (.lst (l.map V.int)) → l.length = wide → (∀ i ∈ l, i.natAbs ≤ 10 ^ 30) → Q (.ref p) H'
theorem ok_law_values (T : Txt K mg) : FnG P w K mg base CX0 3 T.law_values_a T.law_values_d ["rng", "wide"] (sp_law_values K) := by
  refine okG T.law_values_F sc_law_values (fun vs H Q E h => ?_) (fun cdv A ou t H vs Q E hG hr h => ?_)
  · obtain ⟨_, _, _, rfl, _⟩ := h; rfl
  have nd := sc_law_values.nd
  obtain ⟨r, wide, m, rfl, hR, hw, hm, q⟩ := h
  refine ⟨_, (pss_cons (sset 2 nd (pe_callG (ok_law_draw T) hG (hr.mono (by decide)) (by rfl) T.law_draw_g T.law_draw_F.kp T.law_draw_b .nil pass0 (pa_cons (pv 0) (pa_cons pe_int pa_nil))))
      (pss_cons (ps_if (pt_cmpR op_eq (pv 2) pe_int (nomark _))
        (pss_one (ps_ret (pe_callG (ok_law_arranged T) hG (hr.mono (by decide)) (by rfl) T.law_arranged_g T.law_arranged_F.kp T.law_arranged_b .nil pass0 (pa_cons (pv 0) (pa_cons (pv 1) pa_nil)))))
        pss_nil)
      (pss_cons (ps_asg (pe_ix (ix_listK K) (pe_lst (pa_cons (pe_tup (pa_cons pe_int (pa_cons pe_int pa_nil))) (pa_cons (pe_tup (pa_cons (pe_op op_sub pe_int (pe_op op_powW pe_int pe_int)) (pa_cons (pe_op op_add (pe_op op_mulW pe_int (pe_op op_powW pe_int pe_int)) pe_int) pa_nil))) (pa_cons (pe_tup (pa_cons pe_int (pa_cons pe_int pa_nil))) (pa_cons (pe_tup (pa_cons pe_int (pa_cons pe_int pa_nil))) (pa_cons (pe_tup (pa_cons (pe_op op_sub pe_int pe_int) (pa_cons pe_int pa_nil))) pa_nil)))))) (pv 2) (fun _ _ => rfl)) (pg_tupK K 2 rfl (pgs_cons (gset 3 nd) (pgs_cons (gset 4 nd) pgs_nil))))
      (pss_cons (ps_setLc (i := 5) (hy := rfl) (hyl := rfl) (hsw := sw_true rfl rfl rfl (by decide +kernel)) (own := [("place", 6)]) (hc := rfl) (hN := nd) (hi := (pi_range1 (by rfl) T.m_range (pa_cons (pv 1) pa_nil))) (ok := blkOk_by (by rfl)) (hg := fun _ _ _ _ _ => (gset 6 nd)) (ht := (fun _ _ _ _ _ => pts_nil)) (he := fun _ _ _ _ _ => (pe_op op_add (pv 3) (pe_callG (ok_law_draw T) hG (hr.mono (by decide)) (by rfl) T.law_draw_g T.law_draw_F.kp T.law_draw_b .nil pass0 (pa_cons (pv 0) (pa_cons (pv 4) pa_nil))))))
      (pss_one (ps_ret (pe_ifExp (pt_cmpR op_eq (pv 2) pe_int (nomark _)) (pe_callBK (sortedRK K) (by rfl) T.m_sorted (by decide +kernel) (pa_cons (pv 5) pa_nil) (pk_cons pe_bl pk_nil)) (pv 5)))))))), ?_⟩
  walk_at "g"
  refine ⟨r, _, m, rfl, hR, by omega, by decide, by decide, fun H1 d hd0 hd1 s1 hR1 => ?_⟩
  walk_at "g"
  refine r_dec (fun h => ?_) (fun h => ?_)
  · walk_at "g"
    refine ⟨r, wide, m + 1, rfl, hR1, hw, by omega, fun H' p l s2 hp hR2 hl hperm => ?_⟩
    exact q H' p l (s1.trans s2) (hR1.free s1 hp) (hR2.le (by omega)) hl (by rw [hperm.length_eq, asc_length]) (fun i hi => asc_small hw (hperm.mem_iff.mp hi))
  · walk_at "g"
    intro t0 n0
    walk_at "g"
    refine r_I (wide_mul (a := 2) (b := 100) (by decide) (by decide) (by decide) (by decide) (by decide)) ?_
    walk_at "g"
    intro t1 n1
    walk_at "g"
    intro t2 n2
    walk_at "g"
    intro t3 n3
    walk_at "g"
    intro t4 n4
    walk_at "g"
    intro lx nx
    walk_at "g"
    have hs : Same H1 (upd (upd (upd (upd (upd (upd H1 t0 (.tup [.int 0, .int 4])) t1 (.tup [.int (0 - 10 ^ Int.toNat 30), .int (2 * 10 ^ Int.toNat 30 + 1)])) t2 (.tup [.int 0, .int 1])) t3 (.tup [.int 0, .int 2])) t4 (.tup [.int (0 - 3), .int 7])) lx (.lst [.ref t0, .ref t1, .ref t2, .ref t3, .ref t4])) :=
      ((((((same_new n0).trans (same_new n1)).trans (same_new n2)).trans (same_new n3)).trans (same_new n4)).trans (same_new nx))
    have k0 := upd_old (o := .lst [.ref t0, .ref t1, .ref t2, .ref t3, .ref t4]) nx (upd_old (o := .tup [.int (0 - 3), .int 7]) n4 (upd_old (o := .tup [.int 0, .int 2]) n3 (upd_old (o := .tup [.int 0, .int 1]) n2 (upd_old (o := .tup [.int (0 - 10 ^ Int.toNat 30), .int (2 * 10 ^ Int.toNat 30 + 1)]) n1 (upd_same (H := H1) (a := t0) (o := .tup [.int 0, .int 4]))))))
    have k1 := upd_old (o := .lst [.ref t0, .ref t1, .ref t2, .ref t3, .ref t4]) nx (upd_old (o := .tup [.int (0 - 3), .int 7]) n4 (upd_old (o := .tup [.int 0, .int 2]) n3 (upd_old (o := .tup [.int 0, .int 1]) n2 (upd_same (H := upd H1 t0 (.tup [.int 0, .int 4])) (a := t1) (o := .tup [.int (0 - 10 ^ Int.toNat 30), .int (2 * 10 ^ Int.toNat 30 + 1)])))))
    have k3 := upd_old (o := .lst [.ref t0, .ref t1, .ref t2, .ref t3, .ref t4]) nx (upd_old (o := .tup [.int (0 - 3), .int 7]) n4 (upd_same (H := upd (upd (upd H1 t0 (.tup [.int 0, .int 4])) t1 (.tup [.int (0 - 10 ^ Int.toNat 30), .int (2 * 10 ^ Int.toNat 30 + 1)])) t2 (.tup [.int 0, .int 1])) (a := t3) (o := .tup [.int 0, .int 2])))
    have k4 := upd_old (o := .lst [.ref t0, .ref t1, .ref t2, .ref t3, .ref t4]) nx (upd_same (H := upd (upd (upd (upd H1 t0 (.tup [.int 0, .int 4])) t1 (.tup [.int (0 - 10 ^ Int.toNat 30), .int (2 * 10 ^ Int.toNat 30 + 1)])) t2 (.tup [.int 0, .int 1])) t3 (.tup [.int 0, .int 2])) (a := t4) (o := .tup [.int (0 - 3), .int 7]))
    have kl := upd_same (H := upd (upd (upd (upd (upd H1 t0 (.tup [.int 0, .int 4])) t1 (.tup [.int (0 - 10 ^ Int.toNat 30), .int (2 * 10 ^ Int.toNat 30 + 1)])) t2 (.tup [.int 0, .int 1])) t3 (.tup [.int 0, .int 2])) t4 (.tup [.int (0 - 3), .int 7])) (a := lx) (o := .lst [.ref t0, .ref t1, .ref t2, .ref t3, .ref t4])
    clear n0 n1 n2 n3 n4 nx
    generalize upd (upd (upd (upd (upd (upd H1 t0 (.tup [.int 0, .int 4])) t1 (.tup [.int (0 - 10 ^ Int.toNat 30), .int (2 * 10 ^ Int.toNat 30 + 1)])) t2 (.tup [.int 0, .int 1])) t3 (.tup [.int 0, .int 2])) t4 (.tup [.int (0 - 3), .int 7])) lx (.lst [.ref t0, .ref t1, .ref t2, .ref t3, .ref t4]) = HX at hs k0 k1 k3 k4 kl ⊢
    have key : ∃ lo mn t, atI [V.ref t0, V.ref t1, V.ref t2, V.ref t3, V.ref t4] d = some (.ref t) ∧ HX t = some (.tup [.int lo, .int mn]) ∧ -(10 ^ 30) ≤ lo ∧ 0 < mn ∧ mn < 2 ^ 200 ∧ lo + mn ≤ 10 ^ 30 + 1 := by
      have : d = 0 ∨ d = 1 ∨ d = 3 ∨ d = 4 := by omega
      rcases this with e | e | e | e <;> subst e
      · exact ⟨_, _, _, rfl, k0, by decide, by decide, by decide, by decide⟩
      · exact ⟨_, _, _, rfl, k1, by decide, by decide, by decide, by decide⟩
      · exact ⟨_, _, _, rfl, k3, by decide, by decide, by decide, by decide⟩
      · exact ⟨_, _, _, rfl, k4, by decide, by decide, by decide, by decide⟩
    obtain ⟨lo, mn, t, hat, ht, hlo, hmn, hmn2, hlm⟩ := key
    refine r_ixL (sq kl) hat ?_
    walk_at "g"
    refine ⟨by omega, by omega, fun D nD => ?_⟩
    have hRX := hR1.same hs
    have sX := s1.same hs
    have hDH : H D = none := hRX.free sX nD
    have hDr : D ≠ r := hRX.ne nD
    refine lc_it walk_range (fun i Hh => ∃ ds : List Int, ds.length = i ∧ Hh D = some (.lst (ds.map V.int)) ∧ (∀ x ∈ ds, x.natAbs ≤ 10 ^ 30) ∧ Sx r H Hh ∧ Rng Hh r (m + 1 + i)) ?_ (fun _ _ _ _ => trivial) (fun i x Hh Hh' hi p y => ?_) (fun Hh p => ?_)
    · exact ⟨[], rfl, upd_same, (by intro x hx; cases hx), sX.old hDH, hRX.other hDr⟩
    · obtain ⟨rfl, rfl⟩ := y
      obtain ⟨ds, hds, hD, hb, s3, hR3⟩ := p
      walk_at "g"
      refine ⟨rfl, ?_⟩
      walk_at "g"
      refine ⟨r, _, m + 1 + i, rfl, hR3, by omega, hmn, hmn2, fun H5 e he0 he1 s5 hR5 => ?_⟩
      walk_at "g"
      refine ⟨_, s5 _ _ hDr hD, by rw [List.length_map]; exact size_lt (by omega), ?_⟩
      rw [map_snoc]
      refine ⟨ds ++ [lo + e], by rw [List.length_append, hds]; rfl, upd_same, fun x hx => ?_, (s3.trans s5).old hDH, hR5.other hDr⟩
      rcases List.mem_append.mp hx with q | q
      · exact hb x q
      · rw [List.mem_singleton.mp q]; omega
    · obtain ⟨ds, hds, hD, hb, s3, hR3⟩ := p
      rw [Int.toNat_natCast] at hds hR3
      walk_at "g"
      refine r_dec (fun h4 => ?_) (fun h4 => ?_)
      · walk_at "g"
        refine ⟨D, ds, rfl, rfl, sq hD, fun ns' p hperm _ np => ?_⟩
        exact q _ p ns' (s3.old (hR3.free s3 np)) (hR3.free s3 np) ((hR3.other (hR3.ne np)).le (by omega)) upd_same (by rw [hperm.length_eq, hds]) (fun i hi => hb i (hperm.mem_iff.mp hi))
      · walk_at "g"
        exact q _ D ds s3 hDH (hR3.le (by omega)) hD hds hb
def sp_law (K : PySem.W.Frag) : Sp := fun vs H Q _ => ∃ (a : Addr) (ns : List Int), vs = [.ref a] ∧ SqL K H a (ns.map V.int) ∧ ns.length ≤ 63 ∧ ∀ H', Q (.bl true) H'
theorem ok_law (T : Txt K mg) : FnG P w K mg base CX0 4 T.law_a T.law_d ["script"] (sp_law K) := by
  refine okG T.law_F sc_law (fun vs H Q E h => ?_) (fun cdv A ou t H vs Q E hG hr h => ?_)
  · obtain ⟨_, _, rfl, _⟩ := h; rfl
  have nd := sc_law.nd
  obtain ⟨a, ns, rfl, hS, hlen, q⟩ := h
  refine ⟨_, (pss_cons (sset 1 nd (pe_callG (ok_law_rng T) hG (hr.mono (by decide)) (by rfl) T.law_rng_g T.law_rng_F.kp T.law_rng_b .nil pass0 (pa_cons (pv 0) pa_nil)))
      (pss_cons (ps_for PassesOwn.never rfl (pi_range1 (by rfl) T.m_range (pa_cons (pe_op op_add pe_int (pe_callB (call_min2 rfl) (by rfl) T.m_min (by decide +kernel) (pa_cons pe_int (pa_cons (pe_callB (lenK K) (by rfl) T.m_len PySem.boot_len (pa_cons (pv 0) pa_nil)) pa_nil)))) pa_nil)) (gset 2 nd)
        (pss_cons (sset 3 nd (pe_op op_add pe_int (pe_callG (ok_law_draw T) hG (hr.mono (by decide)) (by rfl) T.law_draw_g T.law_draw_F.kp T.law_draw_b .nil pass0 (pa_cons (pv 1) (pa_cons (pe_ix (ix_listK K) (pe_lst (pa_cons pe_int (pa_cons pe_int (pa_cons pe_int pa_nil)))) (pe_callG (ok_law_draw T) hG (hr.mono (by decide)) (by rfl) T.law_draw_g T.law_draw_F.kp T.law_draw_b .nil pass0 (pa_cons (pv 1) (pa_cons pe_int pa_nil))) (fun _ _ => rfl)) pa_nil)))))
      (pss_cons (ps_asg (pe_tup (pa_cons (pe_callG (ok_law_values T) hG (hr.mono (by decide)) (by rfl) T.law_values_g T.law_values_F.kp T.law_values_b .nil pass0 (pa_cons (pv 1) (pa_cons (pv 3) pa_nil))) (pa_cons (pe_callG (ok_law_arranged T) hG (hr.mono (by decide)) (by rfl) T.law_arranged_g T.law_arranged_F.kp T.law_arranged_b .nil pass0 (pa_cons (pv 1) (pa_cons (pv 3) pa_nil))) pa_nil))) (pg_tupK K 2 rfl (pgs_cons (gset 4 nd) (pgs_cons (gset 5 nd) pgs_nil))))
      (pss_cons (ps_if (PW.pt (pw_or (pt_not (pt_val (pe_callG (ok_law_right T) hG (hr.mono (by decide)) (by rfl) T.law_right_g T.law_right_F.kp T.law_right_b .nil pass0 (pa_cons (pv 4) pa_nil)))) (pw_or1 (pt_not (pt_val (pe_callG (ok_law_right T) hG (hr.mono (by decide)) (by rfl) T.law_right_g T.law_right_F.kp T.law_right_b .nil pass0 (pa_cons (pv 5) pa_nil)))))))
        (pss_one (ps_ret pe_bl))
        pss_nil)
      (pss_cons (ps_setLc (i := 6) (hy := rfl) (hyl := rfl) (hsw := sw_true rfl rfl rfl (by decide +kernel)) (own := [("spot", 8), ("value", 9)]) (hc := rfl) (hN := nd) (hi := (pi_enumK K (by rfl) T.m_enumerate (pa_cons (pv 5) pa_nil))) (ok := blkOk_by (by rfl)) (hg := fun _ _ _ _ _ => (pg_tupK K 2 rfl (pgs_cons (gset 8 nd) (pgs_cons (gset 9 nd) pgs_nil)))) (ht := (fun _ _ _ _ _ => pts_nil)) (he := fun _ _ _ _ _ => (pe_callB (lenK K) (by rfl) T.m_len PySem.boot_len (pa_cons (pe_lc (own := [("rival", 10)]) (hc := rfl) (hN := nd) (hi := (pi_listK K (pe_slice (sl_listK K) (pv 5) po_none (po_some (pv 8))))) (ok := blkOk_by (by rfl)) (hg := fun _ _ _ _ _ => (gset 10 nd)) (ht := (fun _ _ _ _ _ => pts_one (pt_cmpR op_gt (pv 10) (pv 9) (nomark _)))) (he := fun _ _ _ _ _ => pe_int)) pa_nil))))
      (pss_one (ps_if (PW.pt (pw_or (pt_cmpR op_ne (pe_callG (ok_inversions T) hG (hr.mono (by decide)) (by rfl) T.inversions_g T.inversions_F.kp T.inversions_b .nil pass0 (pa_cons (pv 5) pa_nil)) (pe_callB (sumK K rfl) (by rfl) T.m_sum (by decide +kernel) (pa_cons (pv 6) pa_nil)) (nomark _)) (pw_or1 (pt_cmpR op_ne (pe_callG (ok_inversions T) hG (hr.mono (by decide)) (by rfl) T.inversions_g T.inversions_F.kp T.inversions_b .nil pass0 (pa_cons (pe_revLK K (pv 5)) pa_nil)) (pe_op op_sub (pe_op op_fdivW (pe_op op_mulW (pv 3) (pe_op op_sub (pv 3) pe_int)) pe_int) (pe_callB (sumK K rfl) (by rfl) T.m_sum (by decide +kernel) (pa_cons (pv 6) pa_nil))) (nomark _)))))
        (pss_one (ps_ret pe_bl))
        pss_nil)))))))
      (pss_cons (sset 7 nd (pe_listRg3 rfl (by rfl) T.m_list (by rfl) T.m_range (pa_cons pe_int (pa_cons pe_int (pa_cons (pe_un un_neg pe_int) pa_nil)))))
      (pss_one (ps_ret (pe_cmpR (eqDK K hr.units) (pe_lst (pa_cons (pe_callG (ok_inversions T) hG (hr.mono (by decide)) (by rfl) T.inversions_g T.inversions_F.kp T.inversions_b .nil pass0 (pa_cons (pe_lst pa_nil) pa_nil)) (pa_cons (pe_callG (ok_inversions T) hG (hr.mono (by decide)) (by rfl) T.inversions_g T.inversions_F.kp T.inversions_b .nil pass0 (pa_cons (pe_lst (pa_cons pe_int pa_nil)) pa_nil)) (pa_cons (pe_callG (ok_inversions T) hG (hr.mono (by decide)) (by rfl) T.inversions_g T.inversions_F.kp T.inversions_b .nil pass0 (pa_cons (pe_lst (pa_cons pe_int (pa_cons pe_int (pa_cons pe_int pa_nil)))) pa_nil)) (pa_cons (pe_callG (ok_inversions T) hG (hr.mono (by decide)) (by rfl) T.inversions_g T.inversions_F.kp T.inversions_b .nil pass0 (pa_cons (pv 7) pa_nil)) pa_nil))))) (pe_lst (pa_cons pe_int (pa_cons pe_int (pa_cons pe_int (pa_cons pe_int pa_nil))))) (nomark _))))))), ?_⟩
  walk_at "g"
  refine ⟨a, ns, rfl, hS, hlen, fun H1 r s1 hr0 hR => ?_⟩
  have hS1 := s1.seq hS
  walk_at "g"
  rw [List.length_map]
  obtain ⟨n, hn, hn2⟩ : ∃ n : Nat, (8 + (if ((ns.length : Nat) : Int) < 16 then ((ns.length : Nat) : Int) else 16)) = (n : Int) ∧ n ≤ 24 := by
    split
    · exact ⟨8 + ns.length, by omega, by omega⟩
    · exact ⟨24, by omega, by omega⟩
  rw [hn]
  refine ⟨by omega, by omega, ?_⟩
  refine forF walk_range (fun i σ' H' => ∃ y2 y3 y4 y5 y6 y7 y8 y9 y10, σ' = [some (.ref a), some (.ref r), y2, y3, y4, y5, y6, y7, y8, y9, y10] ∧ Rng H' r (300 * i))
    ⟨none, none, none, none, none, none, none, none, none, rfl, hR⟩ (fun _ _ _ _ _ => trivial) (fun i σ' H' hi p => ?_) (fun σ' H' p => ?_)
  · obtain ⟨y2, y3, y4, y5, y6, y7, y8, y9, y10, rfl, hR0⟩ := p
    walk_at "g"
    intro lx nx
    walk_at "g"
    have hlr := hR0.ne nx
    have hR1 := hR0.same (same_new (o := .lst [.int 6, .int 20, .int 60]) nx)
    refine ⟨r, 3, 300 * i, rfl, hR1, by omega, by decide, by decide, fun H3 d hd0 hd1 s3 hR3 => ?_⟩
    obtain ⟨w, hat, hw1, hw2⟩ : ∃ w, atI [V.int 6, V.int 20, V.int 60] d = some (.int w) ∧ 0 < w ∧ w ≤ 60 := by
      have : d = 0 ∨ d = 1 ∨ d = 2 := by omega
      rcases this with e | e | e <;> subst e
      · exact ⟨6, rfl, by decide, by decide⟩
      · exact ⟨20, rfl, by decide, by decide⟩
      · exact ⟨60, rfl, by decide, by decide⟩
    walk_at "g"
    refine r_ixL (sq (s3 _ _ hlr upd_same)) hat ?_
    walk_at "g"
    refine ⟨r, w, _, rfl, hR3, by omega, hw1, by omega, fun H4 e he0 he1 s4 hR4 => ?_⟩
    walk_at "g"
    obtain ⟨e', rfl⟩ := Int.eq_ofNat_of_zero_le he0
    have hwide : (1 + (e' : Int)) = ((1 + e' : Nat) : Int) := by omega
    rw [hwide]
    generalize hW : 1 + e' = wide at hwide ⊢
    refine ⟨r, wide, _, rfl, hR4, by omega, by omega, fun H5 p l s5 hp5 hR5 hl hlen5 hb5 => ?_⟩
    walk_at "g"
    refine ⟨r, wide, _, rfl, hR5, by omega, by omega, fun H6 p2 l2 s6 hp6 hR6 hl2 hperm => ?_⟩
    walk_at "g"
    intro T7 n7
    walk_at "g"
    have hpr : p ≠ r := hR4.ne hp5
    have hl6 := s6 _ _ hpr hl
    have hlT := upd_old (o := .tup [.ref p, .ref p2]) n7 hl6
    have hl2T := upd_old (o := .tup [.ref p, .ref p2]) n7 hl2
    have hR7 := hR6.same (same_new (o := .tup [.ref p, .ref p2]) n7)
    refine ⟨p, l, rfl, sq hlT, by omega, by omega, hb5, fun H8 s8 => ?_⟩
    walk_at "g"
    have hl28 := s8 _ _ hl2T
    have hlen2 : l2.length = wide := by rw [hperm.length_eq, asc_length]
    refine ⟨p2, l2, rfl, sq hl28, by omega, by omega, (fun i hi => asc_small (by omega) (hperm.mem_iff.mp hi)), fun H9 s9 => ?_⟩
    walk_at "g"
    intro D nD
    have hl29 := s9 _ _ hl28
    have hR9 := (hR7.same s8).same s9
    refine lc_sameEI (walk_enum (xs := l2.map V.int)) (fun j => (gts l2 j).map V.int) nD (Same.refl _) rfl (fun H s => s.seq (sq hl29)) (fun j HA TA hj p nTA => ?_) (fun HB sB hDB => ?_)
    · walk_at "g"
      refine ⟨rfl, ?_⟩
      walk_at "g"
      have sA := p.1.trans (same_new (o := .tup [.int (j : Nat), .int l2[j]]) nTA)
      have hA := sA _ _ hl29
      walk_at "g"
      intro c nc
      rw [cut_to (b := j) rfl, ← List.map_take] at *
      have sC := same_new (o := .lst ((l2.take j).map V.int)) nc
      walk_at "g"
      intro D2 nD2
      refine lc_sameAI (walk_list (xs := (l2.take j).map V.int)) (fun m => (((l2.take j).take m).filter (fun y => decide (l2[j] < y))).map (fun _ => V.int 1)) nD2 (Same.refl _) rfl (fun H s => s.seq (sq upd_same)) (fun m HC hm pC => ?_) (fun HC sC2 hC => ?_)
      · walk_at "g"
        refine ⟨rfl, ?_⟩
        walk_at "g"
        refine r_dec (fun h => ?_) (fun h => ?_)
        · walk_at "g"
          refine lc_add pC (Same.refl _) nD2 ?_ ?_
          · rw [take_one hm, List.filter_append, List.map_append]; simp only [List.filter_cons, decide_eq_true h, if_pos, List.filter_nil, List.map_cons, List.map_nil]
          · rw [List.length_map]
            refine Nat.lt_of_le_of_lt (Nat.le_trans (List.length_filter_le _ _) (List.length_take_le' _ _)) (size_lt ?_)
            rw [List.length_take]; omega
        · refine lc_skip pC (Same.refl _) ?_
          rw [take_one hm, List.filter_append, List.map_append]; simp only [List.filter_cons, decide_eq_false h, List.filter_nil, List.map_nil, List.append_nil, Bool.false_eq_true, if_false]
      · walk_at "g"
        refine lc_add p (((same_new (o := .tup [.int (j : Nat), .int l2[j]]) nTA).trans sC).trans sC2) nD ?_ ?_
        · rw [List.take_of_length_le (Nat.le_refl _), gts, List.map_append, List.length_map, show l2.getD j 0 = l2[j] by simp [List.getD, hj]]
          rfl
        · rw [List.length_map, gts_len]; exact size_lt (by omega)
    · have hndp : l2.Nodup := hperm.symm.nodup (asc_nodup wide)
      have hsum : (gts l2 l2.length).sum = ((inv l2 : Nat) : Int) := by rw [gts_sum l2 _ (Nat.le_refl _), List.take_of_length_le (Nat.le_refl _)]
      walk_at "g"
      refine ⟨p2, l2, rfl, sq (sB _ _ hl29), by omega, fun HC sC => ?_⟩
      walk_at "g"
      refine r_sum (sq (sC _ _ hDB)) ?_
      walk_at "g"
      refine r_itNF hsum.symm ?_
      have hC2 := sC _ _ (sB _ _ hl29)
      walk_at "g"
      intro p3 n3
      walk_at "g"
      rw [← List.map_reverse] at *
      refine ⟨p3, l2.reverse, rfl, sq upd_same, by rw [List.length_reverse]; omega, fun HD sD => ?_⟩
      walk_at "g"
      refine r_I (wide_mul (a := 10) (b := 10) (by omega) (by omega) (by decide) (by decide) (by decide)) ?_
      walk_at "g"
      refine r_I (wide_div (by decide) (b := 10) (by decide) (by decide) (by decide)) ?_
      walk_at "g"
      refine r_sum (sq (sD _ _ (upd_old n3 (sC _ _ hDB)))) ?_
      walk_at "g"
      refine r_itNF ?_ ?_
      · rw [hsum]
        have h := inv_rev l2 hndp
        rw [hlen2] at h
        have h' : ((wide : Int) * ((wide : Int) - 1)) = 2 * (((inv l2.reverse : Nat) : Int) + ((inv l2 : Nat) : Int)) := by
          have h2 : (2 * (((inv l2.reverse : Nat) : Int) + ((inv l2 : Nat) : Int)) + (wide : Int)) = (wide : Int) * (wide : Int) := by exact_mod_cast h
          rw [Int.mul_sub, Int.mul_one]
          omega
        rw [h']
        omega
      · walk_at "g"
        exact ⟨_, _, _, _, _, _, _, _, _, rfl, ((((hR9.same sB).same sC).same (same_new (o := .lst (l2.reverse.map V.int)) n3)).same sD).le (by omega)⟩
  · obtain ⟨y2, y3, y4, y5, y6, y7, y8, y9, y10, rfl, hR0⟩ := p
    walk_at "g"
    refine ⟨_, _, _, _, rfl, RgC.neg (by decide) (by decide) (by decide) (by decide), by decide, fun l0 n0 => ?_⟩
    walk_at "g"
    intro l1 n1
    walk_at "g"
    have hl0 := upd_same (H := H') (a := l0) (o := .lst (rg3V 60 (-1) (60 - 0 : Int).toNat))
    refine ⟨l1, [], rfl, sq upd_same, by decide, fun H2 s2 => ?_⟩
    have hl2 := s2 _ _ (upd_old n1 hl0)
    walk_at "g"
    intro l2 n2
    walk_at "g"
    refine ⟨l2, [5], rfl, sq upd_same, by decide, fun H3 s3 => ?_⟩
    have hl3 := s3 _ _ (upd_old n2 hl2)
    walk_at "g"
    intro l3 n3
    walk_at "g"
    refine ⟨l3, [2, 2, 1], rfl, sq upd_same, by decide, fun H4 s4 => ?_⟩
    have hl4 := s4 _ _ (upd_old n3 hl3)
    walk_at "g"
    refine ⟨l0, (List.range 60).map fun (k : Nat) => (60 + k * (-1) : Int), rfl, sq (hl4.trans ?_), by decide, fun H5 s5 => ?_⟩
    · rw [List.map_map]; rfl
    walk_at "g"
    intro l5 n5
    walk_at "g"
    intro l6 n6
    walk_at "g"
    refine r_eqL (ns := [_, _, _, _]) (ms := [0, 0, 2, 1770]) (sq (upd_old n6 upd_same)) (sq upd_same) ?_
    rw [decide_eq_true (by decide +kernel)]
    exact q _
end
theorem all_mk {w : World} {K : PySem.W.Frag} {h : Heap} {mg : Str → Option Value} {l : PySem.W.OpenLaw} {fa f_inversions f_law_rng f_law_draw f_law_exchanges f_law_arranged f_law_right f_law_values f_law : Addr} (X : K.In h) (G : h.Ns mainGlobals mg) (hfa : mg "law" = some (.ref fa))
    {od0 an0 od1 an1 od2 an2 od3 an3 od4 an4 od5 an5 od6 an6 od7 an7 : Option Addr} {sl0 sl1 sl2 sl3 sl4 sl5 sl6 sl7 : Array (Option Value)} {oc0 kV0 dc0 pm0 cd0 ct0 oc1 kV1 dc1 pm1 cd1 ct1 oc2 kV2 dc2 pm2 cd2 ct2 oc3 kV3 dc3 pm3 cd3 ct3 oc4 kV4 dc4 pm4 cd4 ct4 oc5 kV5 dc5 pm5 cd5 ct5 oc6 kV6 dc6 pm6 cd6 ct6 oc7 kV7 dc7 pm7 cd7 ct7 : Value}
    (a0 : PySem.W.nsIn K mainGlobals "inversions" = some (some (.ref f_inversions))) (l0 : K.lookup f_inversions = some ⟨oc0, od0, .func (PySem.W.fnOf "inversions" "inversions" (defArgs s_inversions) (defBody s_inversions) (defScope s_inversions) .none kV0 dc0 pm0 an0 cd0 ct0), sl0⟩) (c0 : PySem.W.codeIn K cd0 "inversions" = true) (k0 : PySem.W.keepIn K (.ref f_inversions) = true)
    (a1 : PySem.W.nsIn K mainGlobals "_law_rng" = some (some (.ref f_law_rng))) (l1 : K.lookup f_law_rng = some ⟨oc1, od1, .func (PySem.W.fnOf "_law_rng" "_law_rng" (defArgs s_law_rng) (defBody s_law_rng) (defScope s_law_rng) .none kV1 dc1 pm1 an1 cd1 ct1), sl1⟩) (c1 : PySem.W.codeIn K cd1 "_law_rng" = true) (k1 : PySem.W.keepIn K (.ref f_law_rng) = true)
    (a2 : PySem.W.nsIn K mainGlobals "_law_draw" = some (some (.ref f_law_draw))) (l2 : K.lookup f_law_draw = some ⟨oc2, od2, .func (PySem.W.fnOf "_law_draw" "_law_draw" (defArgs s_law_draw) (defBody s_law_draw) (defScope s_law_draw) .none kV2 dc2 pm2 an2 cd2 ct2), sl2⟩) (c2 : PySem.W.codeIn K cd2 "_law_draw" = true) (k2 : PySem.W.keepIn K (.ref f_law_draw) = true)
    (a3 : PySem.W.nsIn K mainGlobals "_law_exchanges" = some (some (.ref f_law_exchanges))) (l3 : K.lookup f_law_exchanges = some ⟨oc3, od3, .func (PySem.W.fnOf "_law_exchanges" "_law_exchanges" (defArgs s_law_exchanges) (defBody s_law_exchanges) (defScope s_law_exchanges) .none kV3 dc3 pm3 an3 cd3 ct3), sl3⟩) (c3 : PySem.W.codeIn K cd3 "_law_exchanges" = true) (k3 : PySem.W.keepIn K (.ref f_law_exchanges) = true)
    (a4 : PySem.W.nsIn K mainGlobals "_law_arranged" = some (some (.ref f_law_arranged))) (l4 : K.lookup f_law_arranged = some ⟨oc4, od4, .func (PySem.W.fnOf "_law_arranged" "_law_arranged" (defArgs s_law_arranged) (defBody s_law_arranged) (defScope s_law_arranged) .none kV4 dc4 pm4 an4 cd4 ct4), sl4⟩) (c4 : PySem.W.codeIn K cd4 "_law_arranged" = true) (k4 : PySem.W.keepIn K (.ref f_law_arranged) = true)
    (a5 : PySem.W.nsIn K mainGlobals "_law_right" = some (some (.ref f_law_right))) (l5 : K.lookup f_law_right = some ⟨oc5, od5, .func (PySem.W.fnOf "_law_right" "_law_right" (defArgs s_law_right) (defBody s_law_right) (defScope s_law_right) .none kV5 dc5 pm5 an5 cd5 ct5), sl5⟩) (c5 : PySem.W.codeIn K cd5 "_law_right" = true) (k5 : PySem.W.keepIn K (.ref f_law_right) = true)
    (a6 : PySem.W.nsIn K mainGlobals "_law_values" = some (some (.ref f_law_values))) (l6 : K.lookup f_law_values = some ⟨oc6, od6, .func (PySem.W.fnOf "_law_values" "_law_values" (defArgs s_law_values) (defBody s_law_values) (defScope s_law_values) .none kV6 dc6 pm6 an6 cd6 ct6), sl6⟩) (c6 : PySem.W.codeIn K cd6 "_law_values" = true) (k6 : PySem.W.keepIn K (.ref f_law_values) = true)
    (a7 : PySem.W.nsIn K mainGlobals "law" = some (some (.ref f_law))) (l7 : K.lookup f_law = some ⟨oc7, od7, .func (PySem.W.fnOf "law" "law" (defArgs s_law) (defBody s_law) (defScope s_law) .none kV7 dc7 pm7 an7 cd7 ct7), sl7⟩) (c7 : PySem.W.codeIn K cd7 "law" = true) (k7 : PySem.W.keepIn K (.ref f_law) = true)
    (z_abs : PySem.W.nsIn K mainGlobals "abs" = some none) (z_enumerate : PySem.W.nsIn K mainGlobals "enumerate" = some none) (z_len : PySem.W.nsIn K mainGlobals "len" = some none) (z_list : PySem.W.nsIn K mainGlobals "list" = some none) (z_min : PySem.W.nsIn K mainGlobals "min" = some none) (z_range : PySem.W.nsIn K mainGlobals "range" = some none) (z_repr : PySem.W.nsIn K mainGlobals "repr" = some none) (z_sorted : PySem.W.nsIn K mainGlobals "sorted" = some none) (z_sum : PySem.W.nsIn K mainGlobals "sum" = some none) :
    ∃ fd : FuncData, (∀ (s : Shared) (v : Value), BindsTo s fd ⟨[v], []⟩ [("script", v)]) ∧ ∀ base : Heap, K.In base → base.Ns mainGlobals mg → FnG l.prog w K mg base CX0 4 fa fd ["script"] (sp_law K) := by
  have e := hfa.symm.trans (PySem.W.mg_of X G a7)
  cases e
  have F0 := fun_mk (st := s_inversions) l0 c0 k0
  have b0 := F0.binds (ps := ["row"]) fun _ _ _ _ _ _ us hl => match us, hl with | [_], _ => rfl
  have F1 := fun_mk (st := s_law_rng) l1 c1 k1
  have b1 := F1.binds (ps := ["script"]) fun _ _ _ _ _ _ us hl => match us, hl with | [_], _ => rfl
  have F2 := fun_mk (st := s_law_draw) l2 c2 k2
  have b2 := F2.binds (ps := ["rng", "limit"]) fun _ _ _ _ _ _ us hl => match us, hl with | [_, _], _ => rfl
  have F3 := fun_mk (st := s_law_exchanges) l3 c3 k3
  have b3 := F3.binds (ps := ["line"]) fun _ _ _ _ _ _ us hl => match us, hl with | [_], _ => rfl
  have F4 := fun_mk (st := s_law_arranged) l4 c4 k4
  have b4 := F4.binds (ps := ["rng", "wide"]) fun _ _ _ _ _ _ us hl => match us, hl with | [_, _], _ => rfl
  have F5 := fun_mk (st := s_law_right) l5 c5 k5
  have b5 := F5.binds (ps := ["line"]) fun _ _ _ _ _ _ us hl => match us, hl with | [_], _ => rfl
  have F6 := fun_mk (st := s_law_values) l6 c6 k6
  have b6 := F6.binds (ps := ["rng", "wide"]) fun _ _ _ _ _ _ us hl => match us, hl with | [_, _], _ => rfl
  have F7 := fun_mk (st := s_law) l7 c7 k7
  have b7 := F7.binds (ps := ["script"]) fun _ _ _ _ _ _ us hl => match us, hl with | [_], _ => rfl
  have kb_inversions_row : KBinds K (PySem.W.fnOf "inversions" "inversions" (defArgs s_inversions) (defBody s_inversions) (defScope s_inversions) .none kV0 dc0 pm0 an0 cd0 ct0) ["row"] ["row"] (fun (us ws : List Value) => match us, ws with | [], [w0] => [w0] | _, _ => []) (fun (us ws : List V) => match us, ws with | [], [w0] => [w0] | _, _ => []) := by
    refine ⟨fun s us ws _ hl => ?_, fun {vs us zs ws} h1 h2 => ?_⟩
    · revert hl; (try dsimp only); split
      · intro _; exact .of_eq rfl
      · intro hl; cases hl
    · rcases h1 with _ | ⟨p1, _ | ⟨p2, h1⟩⟩ <;> rcases h2 with _ | ⟨q1, _ | ⟨q2, h2⟩⟩ <;> ((try dsimp only); repeat (first | exact .nil | refine .cons (by assumption) ?_))
  let T : Txt K mg := { inversions_a := f_inversions, inversions_d := _, inversions_F := F0, inversions_b := b0, inversions_g := PySem.W.mg_of X G a0, law_rng_a := f_law_rng, law_rng_d := _, law_rng_F := F1, law_rng_b := b1, law_rng_g := PySem.W.mg_of X G a1, law_draw_a := f_law_draw, law_draw_d := _, law_draw_F := F2, law_draw_b := b2, law_draw_g := PySem.W.mg_of X G a2, law_exchanges_a := f_law_exchanges, law_exchanges_d := _, law_exchanges_F := F3, law_exchanges_b := b3, law_exchanges_g := PySem.W.mg_of X G a3, law_arranged_a := f_law_arranged, law_arranged_d := _, law_arranged_F := F4, law_arranged_b := b4, law_arranged_g := PySem.W.mg_of X G a4, law_right_a := f_law_right, law_right_d := _, law_right_F := F5, law_right_b := b5, law_right_g := PySem.W.mg_of X G a5, law_values_a := f_law_values, law_values_d := _, law_values_F := F6, law_values_b := b6, law_values_g := PySem.W.mg_of X G a6, law_a := fa, law_d := _, law_F := F7, law_b := b7, law_g := PySem.W.mg_of X G a7, k_inversions_row := kb_inversions_row, m_abs := PySem.W.mg_none_of X G z_abs, m_enumerate := PySem.W.mg_none_of X G z_enumerate, m_len := PySem.W.mg_none_of X G z_len, m_list := PySem.W.mg_none_of X G z_list, m_min := PySem.W.mg_none_of X G z_min, m_range := PySem.W.mg_none_of X G z_range, m_repr := PySem.W.mg_none_of X G z_repr, m_sorted := PySem.W.mg_none_of X G z_sorted, m_sum := PySem.W.mg_none_of X G z_sum }
  exact ⟨PySem.W.fnOf "law" "law" (defArgs s_law) (defBody s_law) (defScope s_law) .none kV7 dc7 pm7 an7 cd7 ct7, fun s v => .of_eq rfl, fun base _ _ => ok_law T⟩
end L04
open PySem PySem.W PyProof.Rows
set_option maxHeartbeats 0 in
theorem PySem.Challenge.cw_sortstretches_k04_inversions_counted_holds : PySem.Challenge.rw_sortstretches_k04_inversions_counted.Holds := by
  w_on; o_law; k_head; (case hw => w_witness2)
  k_fill
  refine Xk.walkG (l := PySem.Challenge.rw_sortstretches_k04_inversions_counted) (m := 63) (n := 4) (x := "script") (CX := L2.CX0) (sp := L04.sp_law) rfl (by decide) rfl ⟨rfl, by decide, by decide⟩ (fun w h Y => PySem.W.kIn_of Y) ?F (fun K H a ns hl hO hS => ⟨a, ns, rfl, hS, hl, fun _ => rfl⟩) (fun _ _ _ _ h => h)
  case F =>
    intro w mg fa h KX G hmg
    refine' L04.all_mk KX G hmg ?a0 ?l0 ?c0 ?k0 ?a1 ?l1 ?c1 ?k1 ?a2 ?l2 ?c2 ?k2 ?a3 ?l3 ?c3 ?k3 ?a4 ?l4 ?c4 ?k4 ?a5 ?l5 ?c5 ?k5 ?a6 ?l6 ?c6 ?k6 ?a7 ?l7 ?c7 ?k7 ?z_abs ?z_enumerate ?z_len ?z_list ?z_min ?z_range ?z_repr ?z_sorted ?z_sum
    (case a0 => k_is); (case l0 => k_is); (case c0 => k_is); (case k0 => k_is); (case a1 => k_is); (case l1 => k_is); (case c1 => k_is); (case k1 => k_is); (case a2 => k_is); (case l2 => k_is); (case c2 => k_is); (case k2 => k_is); (case a3 => k_is); (case l3 => k_is); (case c3 => k_is); (case k3 => k_is); (case a4 => k_is); (case l4 => k_is); (case c4 => k_is); (case k4 => k_is); (case a5 => k_is); (case l5 => k_is); (case c5 => k_is); (case k5 => k_is); (case a6 => k_is); (case l6 => k_is); (case c6 => k_is); (case k6 => k_is); (case a7 => k_is); (case l7 => k_is); (case c7 => k_is); (case k7 => k_is); (case z_abs => k_is); (case z_enumerate => k_is); (case z_len => k_is); (case z_list => k_is); (case z_min => k_is); (case z_range => k_is); (case z_repr => k_is); (case z_sorted => k_is); (case z_sum => k_is)
