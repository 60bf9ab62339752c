"""Labels that everybody checks by looking at the neighbours alone."""
