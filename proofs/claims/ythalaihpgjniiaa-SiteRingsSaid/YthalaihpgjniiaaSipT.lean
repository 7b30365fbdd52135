/- Each statement of layer 11 holds, of every argument that the row admits. -/
import Derived.Test.YthalaihpgjniiaaSitTA
import Derived.Test.YthalaihpgjniiaaSipE
namespace Go.Proofs.Ythalaihpgjniiaa.Mat
theorem holdsSiteRings : Rows.SiteRingsSaid := saysSiteRings siteOk
theorem holdsSiteNexts : Rows.SiteNextsSaid := saysSiteNexts siteOk
theorem holdsSiteApart : Rows.SiteApartSaid := saysSiteApart siteOk
theorem holdsSiteBesides : Rows.SiteBesidesSaid := saysSiteBesides siteOk
theorem holdsSiteAll : Rows.SiteAllSaid := saysSiteAll siteOk
theorem holdsSiteThird : Rows.SiteThirdSaid := saysSiteThird siteOk
end Go.Proofs.Ythalaihpgjniiaa.Mat
