"""Points and stretches of time, what is said of them two by two, and papers that show that it can't be."""
