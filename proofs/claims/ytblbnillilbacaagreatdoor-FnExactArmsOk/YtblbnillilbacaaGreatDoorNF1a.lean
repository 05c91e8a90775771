/-
  No statement is proved here.
-/
import Derived.Test.YtblbnillilbacaaGreatDoorTMarkAlsoa
namespace Go.Proofs.YtblbnillilbacaaGreatDoor.By
open Go.RowKit
set_option linter.unusedVariables false
set_option linter.unusedSimpArgs false
set_option maxRecDepth 20000
theorem noForm {k n:Int} (h:∀ f ∈ formsL,hitF k n f=false):formV k n=none:=by
 unfold formV;rw[List.find?_eq_none];intro f hf;rw[h f hf];simp
theorem form0:formV 0 0=some (⟨#[117,110,105,116]⟩,0,0,⟨#[]⟩):=by kernel_rfl
theorem form0_no (n:Int) (h0:n≠0):formV 0 n=none:=by
 have e1:hasB ⟨#[]⟩ 105=false:=by kernel_rfl
 refine noForm (fun f hf=>?_);simp only[formsL,List.mem_cons,List.not_mem_nil,or_false] at hf;rcases hf with rfl|rfl|rfl|rfl|rfl|rfl|rfl|rfl|rfl|rfl|rfl|rfl|rfl|rfl|rfl|rfl|rfl|rfl|rfl|rfl|rfl|rfl|rfl|rfl|rfl|rfl|rfl|rfl|rfl|rfl|rfl <;> first|rfl | (simp [hitF,e1];omega)
theorem form1 (n:Int):formV 1 n=some (⟨#[]⟩,1,0,⟨#[105]⟩):=by
 have h:formsL=(⟨#[117,110,105,116]⟩,0,0,⟨#[]⟩)::formsL.drop 1:=rfl;unfold formV;rw[h,List.find?_cons];have h0:hitF 1 n (⟨#[117,110,105,116]⟩,0,0,⟨#[]⟩)=false:=rfl;rw[h0];have h1:formsL.drop 1=(⟨#[]⟩,1,0,⟨#[105]⟩)::formsL.drop 2:=rfl;simp only[];rw[h1,List.find?_cons]
 have h2:hitF 1 n (⟨#[]⟩,1,0,⟨#[105]⟩)=true:=by simp [hitF];right;kernel_rfl
 rw[h2]
theorem form2:formV 2 0=some (⟨#[]⟩,2,0,⟨#[116]⟩):=by kernel_rfl
theorem form2_no (n:Int) (h0:n≠0):formV 2 n=none:=by
 have e1:hasB ⟨#[116]⟩ 105=false:=by kernel_rfl
 refine noForm (fun f hf=>?_);simp only[formsL,List.mem_cons,List.not_mem_nil,or_false] at hf;rcases hf with rfl|rfl|rfl|rfl|rfl|rfl|rfl|rfl|rfl|rfl|rfl|rfl|rfl|rfl|rfl|rfl|rfl|rfl|rfl|rfl|rfl|rfl|rfl|rfl|rfl|rfl|rfl|rfl|rfl|rfl|rfl <;> first|rfl | (simp [hitF,e1];omega)
theorem form3:formV 3 0=some (⟨#[]⟩,3,0,⟨#[110]⟩):=by kernel_rfl
theorem form3_no (n:Int) (h0:n≠0):formV 3 n=none:=by
 have e1:hasB ⟨#[110]⟩ 105=false:=by kernel_rfl
 refine noForm (fun f hf=>?_);simp only[formsL,List.mem_cons,List.not_mem_nil,or_false] at hf;rcases hf with rfl|rfl|rfl|rfl|rfl|rfl|rfl|rfl|rfl|rfl|rfl|rfl|rfl|rfl|rfl|rfl|rfl|rfl|rfl|rfl|rfl|rfl|rfl|rfl|rfl|rfl|rfl|rfl|rfl|rfl|rfl <;> first|rfl | (simp [hitF,e1];omega)
theorem form4:formV 4 0=some (⟨#[102,110]⟩,4,0,⟨#[110,107]⟩):=by kernel_rfl
theorem form4_no (n:Int) (h0:n≠0):formV 4 n=none:=by
 have e1:hasB ⟨#[110,107]⟩ 105=false:=by kernel_rfl
 refine noForm (fun f hf=>?_);simp only[formsL,List.mem_cons,List.not_mem_nil,or_false] at hf;rcases hf with rfl|rfl|rfl|rfl|rfl|rfl|rfl|rfl|rfl|rfl|rfl|rfl|rfl|rfl|rfl|rfl|rfl|rfl|rfl|rfl|rfl|rfl|rfl|rfl|rfl|rfl|rfl|rfl|rfl|rfl|rfl <;> first|rfl | (simp [hitF,e1];omega)
theorem form5:formV 5 0=some (⟨#[]⟩,5,0,⟨#[107,107]⟩):=by kernel_rfl
theorem form5_no (n:Int) (h0:n≠0):formV 5 n=none:=by
 have e1:hasB ⟨#[107,107]⟩ 105=false:=by kernel_rfl
 refine noForm (fun f hf=>?_);simp only[formsL,List.mem_cons,List.not_mem_nil,or_false] at hf;rcases hf with rfl|rfl|rfl|rfl|rfl|rfl|rfl|rfl|rfl|rfl|rfl|rfl|rfl|rfl|rfl|rfl|rfl|rfl|rfl|rfl|rfl|rfl|rfl|rfl|rfl|rfl|rfl|rfl|rfl|rfl|rfl <;> first|rfl | (simp [hitF,e1];omega)
theorem form6:formV 6 0=some (⟨#[108,101,116]⟩,6,0,⟨#[110,107,107]⟩):=by kernel_rfl
theorem form6_no (n:Int) (h0:n≠0):formV 6 n=none:=by
 have e1:hasB ⟨#[110,107,107]⟩ 105=false:=by kernel_rfl
 refine noForm (fun f hf=>?_);simp only[formsL,List.mem_cons,List.not_mem_nil,or_false] at hf;rcases hf with rfl|rfl|rfl|rfl|rfl|rfl|rfl|rfl|rfl|rfl|rfl|rfl|rfl|rfl|rfl|rfl|rfl|rfl|rfl|rfl|rfl|rfl|rfl|rfl|rfl|rfl|rfl|rfl|rfl|rfl|rfl <;> first|rfl | (simp [hitF,e1];omega)
theorem form7:formV 7 0=some (⟨#[114,101,99]⟩,7,0,⟨#[110,97,107,107]⟩):=by kernel_rfl
theorem form7_no (n:Int) (h0:n≠0):formV 7 n=none:=by
 have e1:hasB ⟨#[110,97,107,107]⟩ 105=false:=by kernel_rfl
 refine noForm (fun f hf=>?_);simp only[formsL,List.mem_cons,List.not_mem_nil,or_false] at hf;rcases hf with rfl|rfl|rfl|rfl|rfl|rfl|rfl|rfl|rfl|rfl|rfl|rfl|rfl|rfl|rfl|rfl|rfl|rfl|rfl|rfl|rfl|rfl|rfl|rfl|rfl|rfl|rfl|rfl|rfl|rfl|rfl <;> first|rfl | (simp [hitF,e1];omega)
theorem form8:formV 8 0=some (⟨#[105,102]⟩,8,0,⟨#[107,107,107]⟩):=by kernel_rfl
theorem form8_no (n:Int) (h0:n≠0):formV 8 n=none:=by
 have e1:hasB ⟨#[107,107,107]⟩ 105=false:=by kernel_rfl
 refine noForm (fun f hf=>?_);simp only[formsL,List.mem_cons,List.not_mem_nil,or_false] at hf;rcases hf with rfl|rfl|rfl|rfl|rfl|rfl|rfl|rfl|rfl|rfl|rfl|rfl|rfl|rfl|rfl|rfl|rfl|rfl|rfl|rfl|rfl|rfl|rfl|rfl|rfl|rfl|rfl|rfl|rfl|rfl|rfl <;> first|rfl | (simp [hitF,e1];omega)
theorem form9:formV 9 0=some (⟨#[112,97,105,114]⟩,9,0,⟨#[107,107]⟩):=by kernel_rfl
theorem form9_no (n:Int) (h0:n≠0):formV 9 n=none:=by
 have e1:hasB ⟨#[107,107]⟩ 105=false:=by kernel_rfl
 refine noForm (fun f hf=>?_);simp only[formsL,List.mem_cons,List.not_mem_nil,or_false] at hf;rcases hf with rfl|rfl|rfl|rfl|rfl|rfl|rfl|rfl|rfl|rfl|rfl|rfl|rfl|rfl|rfl|rfl|rfl|rfl|rfl|rfl|rfl|rfl|rfl|rfl|rfl|rfl|rfl|rfl|rfl|rfl|rfl <;> first|rfl | (simp [hitF,e1];omega)
theorem form10:formV 10 0=some (⟨#[102,115,116]⟩,10,0,⟨#[107]⟩):=by kernel_rfl
theorem form10_no (n:Int) (h0:n≠0):formV 10 n=none:=by
 have e1:hasB ⟨#[107]⟩ 105=false:=by kernel_rfl
 refine noForm (fun f hf=>?_);simp only[formsL,List.mem_cons,List.not_mem_nil,or_false] at hf;rcases hf with rfl|rfl|rfl|rfl|rfl|rfl|rfl|rfl|rfl|rfl|rfl|rfl|rfl|rfl|rfl|rfl|rfl|rfl|rfl|rfl|rfl|rfl|rfl|rfl|rfl|rfl|rfl|rfl|rfl|rfl|rfl <;> first|rfl | (simp [hitF,e1];omega)
theorem form11:formV 11 0=some (⟨#[115,110,100]⟩,11,0,⟨#[107]⟩):=by kernel_rfl
theorem form11_no (n:Int) (h0:n≠0):formV 11 n=none:=by
 have e1:hasB ⟨#[107]⟩ 105=false:=by kernel_rfl
 refine noForm (fun f hf=>?_);simp only[formsL,List.mem_cons,List.not_mem_nil,or_false] at hf;rcases hf with rfl|rfl|rfl|rfl|rfl|rfl|rfl|rfl|rfl|rfl|rfl|rfl|rfl|rfl|rfl|rfl|rfl|rfl|rfl|rfl|rfl|rfl|rfl|rfl|rfl|rfl|rfl|rfl|rfl|rfl|rfl <;> first|rfl | (simp [hitF,e1];omega)
theorem form12:formV 12 0=some (⟨#[114,101,102]⟩,12,0,⟨#[107]⟩):=by kernel_rfl
theorem form12_no (n:Int) (h0:n≠0):formV 12 n=none:=by
 have e1:hasB ⟨#[107]⟩ 105=false:=by kernel_rfl
 refine noForm (fun f hf=>?_);simp only[formsL,List.mem_cons,List.not_mem_nil,or_false] at hf;rcases hf with rfl|rfl|rfl|rfl|rfl|rfl|rfl|rfl|rfl|rfl|rfl|rfl|rfl|rfl|rfl|rfl|rfl|rfl|rfl|rfl|rfl|rfl|rfl|rfl|rfl|rfl|rfl|rfl|rfl|rfl|rfl <;> first|rfl | (simp [hitF,e1];omega)
theorem form13:formV 13 0=some (⟨#[114,101,97,100]⟩,13,0,⟨#[107]⟩):=by kernel_rfl
theorem form13_no (n:Int) (h0:n≠0):formV 13 n=none:=by
 have e1:hasB ⟨#[107]⟩ 105=false:=by kernel_rfl
 refine noForm (fun f hf=>?_);simp only[formsL,List.mem_cons,List.not_mem_nil,or_false] at hf;rcases hf with rfl|rfl|rfl|rfl|rfl|rfl|rfl|rfl|rfl|rfl|rfl|rfl|rfl|rfl|rfl|rfl|rfl|rfl|rfl|rfl|rfl|rfl|rfl|rfl|rfl|rfl|rfl|rfl|rfl|rfl|rfl <;> first|rfl | (simp [hitF,e1];omega)
theorem form14:formV 14 0=some (⟨#[119,114,105,116,101]⟩,14,0,⟨#[107,107]⟩):=by kernel_rfl
theorem form14_no (n:Int) (h0:n≠0):formV 14 n=none:=by
 have e1:hasB ⟨#[107,107]⟩ 105=false:=by kernel_rfl
 refine noForm (fun f hf=>?_);simp only[formsL,List.mem_cons,List.not_mem_nil,or_false] at hf;rcases hf with rfl|rfl|rfl|rfl|rfl|rfl|rfl|rfl|rfl|rfl|rfl|rfl|rfl|rfl|rfl|rfl|rfl|rfl|rfl|rfl|rfl|rfl|rfl|rfl|rfl|rfl|rfl|rfl|rfl|rfl|rfl <;> first|rfl | (simp [hitF,e1];omega)
theorem form15:formV 15 0=some (⟨#[]⟩,15,0,⟨#[103,102]⟩):=by kernel_rfl
theorem form15_no (n:Int) (h0:n≠0):formV 15 n=none:=by
 have e1:hasB ⟨#[103,102]⟩ 105=false:=by kernel_rfl
 refine noForm (fun f hf=>?_);simp only[formsL,List.mem_cons,List.not_mem_nil,or_false] at hf;rcases hf with rfl|rfl|rfl|rfl|rfl|rfl|rfl|rfl|rfl|rfl|rfl|rfl|rfl|rfl|rfl|rfl|rfl|rfl|rfl|rfl|rfl|rfl|rfl|rfl|rfl|rfl|rfl|rfl|rfl|rfl|rfl <;> first|rfl | (simp [hitF,e1];omega)
theorem form16:formV 16 0=some (⟨#[109,97,116,99,104]⟩,16,0,⟨#[107,109]⟩):=by kernel_rfl
theorem form16_no (n:Int) (h0:n≠0):formV 16 n=none:=by
 have e1:hasB ⟨#[107,109]⟩ 105=false:=by kernel_rfl
 refine noForm (fun f hf=>?_);simp only[formsL,List.mem_cons,List.not_mem_nil,or_false] at hf;rcases hf with rfl|rfl|rfl|rfl|rfl|rfl|rfl|rfl|rfl|rfl|rfl|rfl|rfl|rfl|rfl|rfl|rfl|rfl|rfl|rfl|rfl|rfl|rfl|rfl|rfl|rfl|rfl|rfl|rfl|rfl|rfl <;> first|rfl | (simp [hitF,e1];omega)
theorem form17:formV 17 0=some (⟨#[114,97,105,115,101]⟩,17,0,⟨#[107]⟩):=by kernel_rfl
theorem form17_no (n:Int) (h0:n≠0):formV 17 n=none:=by
 have e1:hasB ⟨#[107]⟩ 105=false:=by kernel_rfl
 refine noForm (fun f hf=>?_);simp only[formsL,List.mem_cons,List.not_mem_nil,or_false] at hf;rcases hf with rfl|rfl|rfl|rfl|rfl|rfl|rfl|rfl|rfl|rfl|rfl|rfl|rfl|rfl|rfl|rfl|rfl|rfl|rfl|rfl|rfl|rfl|rfl|rfl|rfl|rfl|rfl|rfl|rfl|rfl|rfl <;> first|rfl | (simp [hitF,e1];omega)
theorem form18:formV 18 0=some (⟨#[116,114,121]⟩,18,0,⟨#[107,110,107]⟩):=by kernel_rfl
theorem form18_no (n:Int) (h0:n≠0):formV 18 n=none:=by
 have e1:hasB ⟨#[107,110,107]⟩ 105=false:=by kernel_rfl
 refine noForm (fun f hf=>?_);simp only[formsL,List.mem_cons,List.not_mem_nil,or_false] at hf;rcases hf with rfl|rfl|rfl|rfl|rfl|rfl|rfl|rfl|rfl|rfl|rfl|rfl|rfl|rfl|rfl|rfl|rfl|rfl|rfl|rfl|rfl|rfl|rfl|rfl|rfl|rfl|rfl|rfl|rfl|rfl|rfl <;> first|rfl | (simp [hitF,e1];omega)
theorem form19_0:formV 19 0=some (⟨#[97,100,100]⟩,19,0,⟨#[107,107]⟩):=by kernel_rfl
theorem form19_1:formV 19 1=some (⟨#[115,117,98]⟩,19,1,⟨#[107,107]⟩):=by kernel_rfl
theorem form19_2:formV 19 2=some (⟨#[109,117,108]⟩,19,2,⟨#[107,107]⟩):=by kernel_rfl
theorem form19_3:formV 19 3=some (⟨#[108,101,115,115]⟩,19,3,⟨#[107,107]⟩):=by kernel_rfl
theorem form19_4:formV 19 4=some (⟨#[115,97,109,101]⟩,19,4,⟨#[107,107]⟩):=by kernel_rfl
theorem form19_5:formV 19 5=some (⟨#[99,97,116]⟩,19,5,⟨#[107,107]⟩):=by kernel_rfl
theorem form19_6:formV 19 6=some (⟨#[108,101,110]⟩,19,6,⟨#[107]⟩):=by kernel_rfl
theorem form19_no (n:Int) (h0:n≠0) (h1:n≠1) (h2:n≠2) (h3:n≠3) (h4:n≠4) (h5:n≠5) (h6:n≠6):formV 19 n=none:=by
 have e1:hasB ⟨#[107,107]⟩ 105=false:=by kernel_rfl
 have e2:hasB ⟨#[107]⟩ 105=false:=by kernel_rfl
 have e3:hasB ⟨#[]⟩ 105=false:=by kernel_rfl
 refine noForm (fun f hf=>?_);simp only[formsL,List.mem_cons,List.not_mem_nil,or_false] at hf;rcases hf with rfl|rfl|rfl|rfl|rfl|rfl|rfl|rfl|rfl|rfl|rfl|rfl|rfl|rfl|rfl|rfl|rfl|rfl|rfl|rfl|rfl|rfl|rfl|rfl|rfl|rfl|rfl|rfl|rfl|rfl|rfl <;> first|rfl | (simp [hitF,e1,e2,e3];omega)
theorem form20_0:formV 20 0=some (⟨#[112,114,105,110,116]⟩,20,0,⟨#[107]⟩):=by kernel_rfl
theorem form20_1:formV 20 1=some (⟨#[116,105,99,107]⟩,20,1,⟨#[]⟩):=by kernel_rfl
theorem form20_2:formV 20 2=some (⟨#[100,114,97,119]⟩,20,2,⟨#[107]⟩):=by kernel_rfl
theorem form20_3:formV 20 3=some (⟨#[103,101,116]⟩,20,3,⟨#[107]⟩):=by kernel_rfl
theorem form20_4:formV 20 4=some (⟨#[112,117,116]⟩,20,4,⟨#[107,107]⟩):=by kernel_rfl
theorem form20_no (n:Int) (h0:n≠0) (h1:n≠1) (h2:n≠2) (h3:n≠3) (h4:n≠4):formV 20 n=none:=by
 have e1:hasB ⟨#[107,107]⟩ 105=false:=by kernel_rfl
 have e2:hasB ⟨#[107]⟩ 105=false:=by kernel_rfl
 have e3:hasB ⟨#[]⟩ 105=false:=by kernel_rfl
 refine noForm (fun f hf=>?_);simp only[formsL,List.mem_cons,List.not_mem_nil,or_false] at hf;rcases hf with rfl|rfl|rfl|rfl|rfl|rfl|rfl|rfl|rfl|rfl|rfl|rfl|rfl|rfl|rfl|rfl|rfl|rfl|rfl|rfl|rfl|rfl|rfl|rfl|rfl|rfl|rfl|rfl|rfl|rfl|rfl <;> first|rfl | (simp [hitF,e1,e2,e3];omega)
theorem formX (k n:Int) (h0:k≠0) (h1:k≠1) (h2:k≠2) (h3:k≠3) (h4:k≠4) (h5:k≠5) (h6:k≠6) (h7:k≠7) (h8:k≠8) (h9:k≠9) (h10:k≠10) (h11:k≠11) (h12:k≠12) (h13:k≠13) (h14:k≠14) (h15:k≠15) (h16:k≠16) (h17:k≠17) (h18:k≠18) (h19:k≠19) (h20:k≠20):formV k n=none:=by
 refine noForm (fun f hf=>?_);simp only[formsL,List.mem_cons,List.not_mem_nil,or_false] at hf;rcases hf with rfl|rfl|rfl|rfl|rfl|rfl|rfl|rfl|rfl|rfl|rfl|rfl|rfl|rfl|rfl|rfl|rfl|rfl|rfl|rfl|rfl|rfl|rfl|rfl|rfl|rfl|rfl|rfl|rfl|rfl|rfl <;> (simp only[hitF,Bool.and_eq_false_iff,decide_eq_false_iff_not];left;omega)
end Go.Proofs.YtblbnillilbacaaGreatDoor.By
